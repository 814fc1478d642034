import Derived.Test.YtjohiaoepbnicaaGreatRows
import Derived.Lib.Hide
import Derived.Test.YtjohiaoepbnicaaGreatQRM5
namespace Go.Am
set_option linter.unusedSimpArgs false
set_option linter.unusedVariables false
open Go.RowKit
theorem Ext.newPut {nx : Nat} {H : Heap} {o : AObj} : Ext nx H (nx + 1) (H.put nx o) := (Ext.refl.up (Nat.le_succ _)).put (Nat.le_refl _)
theorem ok_new {H : Heap} {nx : Nat} {o : AObj} (hok : ∀ id o, H id = some o → id < nx) : ∀ id o', (H.put nx o) id = some o' → id < nx + 1 := fun id o' h => by
 by_cases hi : id = nx
 ·omega
 ·rw [Heap.put_ne hi] at h
  have := hok id o' h
  omega
def RowsAt {α : Type} (enc : α → List Value) (sz : Nat) (H : Heap) (v : Value) (l : List α) : Prop :=
 (∃ c, v = .slice none 0 c ∧ l = []) ∨ ∃ a c, v = .slice (some a) l.length c ∧ ∀ (i : Nat) (h : i < l.length), getc H ⟨a.block, a.off + i * sz, a.spot⟩ sz = some (enc l[i])
section
variable {α : Type} {enc : α → List Value} {sz : Nat} {H H' : Heap} {nx nx' : Nat} {v : Value} {l : List α}
theorem RowsAt.ext (h : Ext nx H nx' H') (hok : ∀ id o, H id = some o → id < nx) (hr : RowsAt enc sz H v l) : RowsAt enc sz H' v l := by
 rcases hr with h1 | ⟨a, c, rfl, hs⟩
 ·exact .inl h1
 ·exact .inr ⟨a, c, rfl, fun i hi => getc_ext h hok (hs i hi)⟩
theorem RowsAt.slice (h : RowsAt enc sz H v l) : ∃ a c, v = .slice a l.length c := by
 rcases h with ⟨c, rfl, rfl⟩ | ⟨a, c, rfl, _⟩
 ·exact ⟨none, c, rfl⟩
 ·exact ⟨some a, c, rfl⟩
theorem rows_src (hk : ∀ x, (enc x).length = sz) (h0 : 0 < sz) (h : RowsAt enc sz H v l) : source H sz v none = some (l.length, l.flatMap enc) := by
 rcases h with ⟨c, rfl, rfl⟩ | ⟨a, c, rfl, hs⟩
 ·rfl
 ·by_cases hl : l.length = 0
  ·have : l = [] := List.eq_nil_of_length_eq_zero hl
   subst this
   show (if 0 * sz = 0 then some (0, []) else _) = _
   rw [if_pos (by omega)]
   rfl
  ·have key : ∀ m (hm : m ≤ l.length), getc H a (m * sz) = some ((l.take m).flatMap enc) := by
    intro m
    induction m with
    | zero =>
     intro _
     have h1 := hs 0 (by omega)
     unfold getc at h1 ⊢
     split at h1
     ·rename_i c' e t r q ho
      simp only [ho]
      split at h1
      ·rename_i hc
       simp only [Nat.zero_mul, Nat.add_zero] at hc ⊢
       rw [if_pos ⟨hc.1, by omega⟩]
       rfl
      ·cases h1
     all_goals cases h1
    | succ m ih =>
     intro hm
     have h1 := hs m (by omega)
     have h2 := ih (by omega)
     unfold getc at h1 h2 ⊢
     split at h1
     ·rename_i c' e t r q ho
      simp only [ho] at h2 ⊢
      split at h1
      ·rename_i hc
       split at h2
       ·rw [if_pos ⟨hc.1, by have := hc.2; simp only at this; rw [Nat.add_mul]; omega⟩]
        simp only [Option.some.injEq] at h1 h2 ⊢
        rw [Nat.add_mul, Nat.one_mul, List.take_add, h2, List.drop_drop, h1, List.take_add_one (l := l) (i := m), List.getElem?_eq_getElem (by omega : m < l.length)]
        show _ = (l.take m ++ [l[m]]).flatMap enc
        rw [List.flatMap_append]
        simp
       ·cases h2
      ·cases h1
     all_goals cases h1
   show (if l.length * sz = 0 then some (l.length, []) else (getc H a (l.length * sz)).map (l.length, ·)) = _
   have : l.length * sz ≠ 0 := Nat.mul_ne_zero hl (by omega)
   rw [if_neg this, key l.length (Nat.le_refl _), List.take_length]
   rfl
theorem flat_len (hk : ∀ x, (enc x).length = sz) (l : List α) : (l.flatMap enc).length = l.length * sz := by
 induction l with
 | nil => simp
 | cons x l ih => simp only [List.flatMap_cons, List.length_append, hk, ih, List.length_cons, Nat.add_mul]; omega
theorem flat_at (hk : ∀ x, (enc x).length = sz) : ∀ (l : List α) (i : Nat) (h : i < l.length), ((l.flatMap enc).drop (i * sz)).take sz = enc l[i] := by
 intro l
 induction l with
 | nil => intro i h; simp at h
 | cons x l ih =>
  intro i h
  cases i with
  | zero => simp [← hk x]
  | succ i =>
   rw [List.flatMap_cons, Nat.add_mul, Nat.one_mul, Nat.add_comm, ← List.drop_drop, List.drop_append_of_le_length (by rw [hk]; exact Nat.le_refl _)]
   rw [show (enc x).drop sz = [] by rw [List.drop_eq_nil_of_le]; rw [hk]; exact Nat.le_refl _]
   simpa using ih i (by simpa using h)
def OwnOf (enc : α → List Value) (sz : Nat) (el : TypeId) (H : Heap) (ob : Option (Nat × Nat)) (v : Value) (l : List α) : Prop := OwnRow H ob el sz v (l.flatMap enc) l.length
theorem OwnOf.at (hk : ∀ x, (enc x).length = sz) {el : TypeId} {ob : Option (Nat × Nat)} (h : OwnOf enc sz el H ob v l) : RowsAt enc sz H v l := by
 cases ob with
 | none =>
  obtain ⟨rfl, _, h2⟩ := h
  exact .inl ⟨0, rfl, List.eq_nil_of_length_eq_zero h2⟩
 | some bt =>
  obtain ⟨b, t⟩ := bt
  obtain ⟨rfl, _, rest, ho⟩ := h
  refine .inr ⟨⟨b, 0, some t⟩, l.length, rfl, fun i hi => ?_⟩
  have hfl := flat_len hk l
  have : (i + 1) * sz ≤ l.length * sz := Nat.mul_le_mul_right sz hi
  rw [Nat.add_mul, Nat.one_mul] at this
  unfold getc
  simp only [ho, Nat.zero_add]
  rw [if_pos ⟨trivial, by rw [List.length_append, hfl]; omega⟩, List.drop_append_of_le_length (by rw [hfl]; omega), List.take_append_of_le_length (by rw [List.length_drop, hfl]; omega), flat_at hk l i hi]
theorem OwnOf.ext {el : TypeId} {ob : Option (Nat × Nat)} (hx : Ext nx H nx' H') (hlt : ∀ b t, ob = some (b, t) → b < nx) (h : OwnOf enc sz el H ob v l) : OwnOf enc sz el H' ob v l := OwnRow.ext hx hlt h
end
structure AppO {α : Type} (enc : α → List Value) (sz : Nat) (el : TypeId) (nx : Nat) (H : Heap) (ob : Option (Nat × Nat)) (l : List α) (v' : Value) (nx' : Nat) (H' : Heap) (ob' : Option (Nat × Nat)) : Prop where
 own : OwnOf enc sz el H' ob' v' l
 blk : ∀ b' t', ob' = some (b', t') → b' < nx' ∧ (b' = nx ∨ ∃ t, ob = some (b', t))
 le : nx ≤ nx'
 same : ∀ i, i < nx → (∀ b t, ob = some (b, t) → i ≠ b) → H' i = H i
 ok : (∀ b t, ob = some (b, t) → b < nx) → (∀ id o, H id = some o → id < nx) → ∀ id o, H' id = some o → id < nx'
section
variable {P : Program} {W0 : World} {H : Heap} {nx n : Nat} {ev : Operand → Option Value} {dst : Option Tmp} {type : TypeId} {pos : String} {after : Array Edge} {guard : Option (Nat × Bool)} {ops : Array Oper} {l : List Oper} {tm : Nat → Value} {QQ : ASt → Prop} {d : Tmp}
theorem aop_capN {t e : TypeId} {x : Operand} {k c : Nat} (hx : ev x = some (.slice none k c)) (hu : P.underlying t = some (.slice e)) : aop P H nx ev ⟨dst, .call ⟨.builtin .cap, #[x], #[t]⟩, type, pos, after, guard⟩ = some (.int .i64 c, .none) := by
 simp [aop, evAll, hx, aBuiltin, aCap, hu]
theorem aop_appendZ {st xt el : TypeId} {kd : IntKind} {k size bytes : Nat} {z : List Value} {x y : Operand} (hx : ev x = some (.slice none 0 0)) (hy : ev y = some (.int .i64 k)) (hst : P.underlying st = some (.slice el)) (hxt : P.underlying xt = some (.int kd)) (hs : szOf P el = some size) (hb : bytesOfT P el = some bytes) (hz : zeroOf P el = some z) (hzl : z.length = size) (hk : 0 < k) (hle : k ≤ 1099511627776) (hle2 : (2 * k + 192) * bytes ≤ 281474976710656) :
  aop P H nx ev ⟨dst, .call ⟨.builtin .append, #[x, y], #[st, xt]⟩, type, pos, after, guard⟩ = some (.slice (some ⟨nx, 0, some nx⟩) k k, .new (.cells (zcells z k) size (some nx) false (some el))) := by
 have h0 : ¬ ((k : Int) = 0) := by omega
 have h1 : (k : Int) ≤ 1099511627776 := by omega
 have hn : notInt (.int kd) = false := rfl
 simp [aop, evAll, hx, hy, aBuiltin, aAppend, aAppendZ, hst, hxt, hs, hb, hz, hzl, hn, h1, hle2, show k ≠ 0 by omega]
theorem OpsL.appendO {α : Type} {enc : α → List Value} {sz bytes : Nat} {z : List Value} {el st xt : TypeId} {ob : Option (Nat × Nat)} {v u : Value} {zs us : List α} {x y : Operand} (hk : ∀ x, (enc x).length = sz) (h1 : ∀ x, (enc x).all (·.oneCell') = true) (h0 : 0 < sz) (hd : d < n) (h : OwnOf enc sz el H ob v zs) (hu : RowsAt enc sz H u us) (hx : ASt.ev ⟨tm, n, H, nx⟩ x = some v) (hy : ASt.ev ⟨tm, n, H, nx⟩ y = some u) (hb : ∀ b t, ob = some (b, t) → b < nx)
  (hst : P.underlying st = some (.slice el)) (hxt : P.underlying xt = some (.slice el)) (hsz : szOf P el = some sz) (hby : bytesOfT P el = some bytes) (hz : zeroOf P el = some z) (hzl : z.length = sz) (hle : zs.length + us.length ≤ 1000000) (hbl : bytes ≤ 1000)
  (hc : ∀ v' nx' H' ob', AppO enc sz el nx H ob (zs ++ us) v' nx' H' ob' → OpsL P W0 ops l ⟨tmPut tm (some d) v', n, H', nx'⟩ QQ) :
  OpsL P W0 ops (⟨some d, .call ⟨.builtin .append, #[x, y], #[st, xt]⟩, type, pos, after, none⟩ :: l) ⟨tm, n, H, nx⟩ QQ := by
 have hsrc := rows_src hk h0 hu
 have hall : ∀ l : List α, (l.flatMap enc).all (·.oneCell') = true := fun l => by
  rw [List.all_eq_true]
  intro v hv
  obtain ⟨x, _, hx⟩ := List.mem_flatMap.1 hv
  exact List.all_eq_true.1 (h1 x) v hx
 have hm1 : (2 * (zs.length + us.length) + 192) * bytes ≤ 281474976710656 := by
  have : (2 * (zs.length + us.length) + 192) * bytes ≤ (2 * (zs.length + us.length) + 192) * 1000 := Nat.mul_le_mul_left _ hbl
  omega
 by_cases hl0 : us.length = 0
 ·have : us = [] := List.eq_nil_of_length_eq_zero hl0
  subst this
  have hop : aop P H nx (ASt.ev ⟨tm, n, H, nx⟩) ⟨some d, .call ⟨.builtin .append, #[x, y], #[st, xt]⟩, type, pos, after, none⟩ = some (v, .none) := by
   cases ob with
   | none =>
    obtain ⟨rfl, _, hz0⟩ := h
    simp [aop, hx, hy, evAll, aBuiltin, aAppend, hst, hxt, hsz, hby, hz, hzl, hsrc, show notInt (.slice el) = true from rfl]
   | some bt =>
    obtain ⟨b, t⟩ := bt
    obtain ⟨rfl, hc', rest, ho⟩ := h
    simp [aop, hx, hy, evAll, aBuiltin, aAppend, hst, hxt, hsz, hby, hz, hzl, hsrc, ho, show notInt (.slice el) = true from rfl]
  refine OpsL.p hd hop (hc v nx H ob ⟨by rw [List.append_nil]; exact h, fun b' t' e => ⟨hb b' t' e, .inr ⟨t', e⟩⟩, Nat.le_refl _, fun _ _ _ => rfl, fun _ h => h⟩)
 ·refine OpsL.append (sz := sz) (bytes := bytes) (k := zs.length) (m := us.length) (cs := zs.flatMap enc) (xs := us.flatMap enc) (ob := ob) (u := u) (xd := .slice el) (v := v) (el := el) (z := z) hd hx hy h hsrc (hall us) hl0 hst hxt rfl hsz hby hz hzl (by omega) hm1 ?_
  refine hc _ _ _ (some (blkOf nx ob, nx)) ⟨?_, ?_, Nat.le_succ _, ?_, ?_⟩
  ·refine ⟨by rw [List.length_append], ?_, [], ?_⟩
   ·rw [flat_len hk]
   ·rw [Heap.put_eq, List.flatMap_append, List.append_nil]
  ·intro b' t' e
   cases e
   cases ob with
   | none => exact ⟨Nat.lt_succ_self _, .inl rfl⟩
   | some bt => exact ⟨Nat.lt_succ_of_lt (hb bt.1 bt.2 rfl), .inr ⟨bt.2, rfl⟩⟩
  ·intro i hi hib
   refine Heap.put_ne ?_
   cases ob with
   | none => simp only [blkOf]; omega
   | some bt => exact hib bt.1 bt.2 rfl
  ·intro hb' hok id o ho
   by_cases e : id = blkOf nx ob
   ·subst e
    cases ob with
    | none => exact Nat.lt_succ_self _
    | some bt => exact Nat.lt_succ_of_lt (hb' bt.1 bt.2 rfl)
   ·rw [Heap.put_ne e] at ho
    exact Nat.lt_succ_of_lt (hok id o ho)
end
end Go.Am
namespace Go.Proofs.YtjohiaoepbnicaaGreat
set_option linter.unusedSimpArgs false
set_option linter.unusedVariables false
open Go.Am Go.RowKit
theorem tmod_lt (a n : Int) (h0 : 0 < n) (h : a.tmod n < 0) : a.tmod n + n = a % n := by
 have e : a % n = _ := @Int.emod_eq_tmod a n
 have h3 := Int.emod_nonneg a (by omega : n ≠ 0)
 split at e <;> omega
theorem tmod_ge (a n : Int) (h0 : 0 < n) (h : ¬ a.tmod n < 0) : a.tmod n = a % n := by
 have h1 := Int.tmod_lt_of_pos a h0
 have hd := Int.mul_tdiv_add_tmod a n
 have : a % n = (n * a.tdiv n + a.tmod n) % n := by rw [hd]
 rw [this, Int.mul_add_emod_self_left, Int.emod_eq_of_lt (by omega) h1]
set_option maxHeartbeats 400000 in
theorem within_calls (a n : Int) (h0 : 0 < n) (h1 : n ≤ 4611686018427387904) (w : World) : Calls Tryz.prog 24 #[.int .i64 a, .int .i64 n] w fun e w' => e = .returned (.int .i64 (a % n)) ∧ BelD w.heap.size w w' := by
 have g1 := Int.tmod_lt_of_pos a h0
 have g2 := Int.lt_tmod_of_pos a h0
 have hn : (n == 0) = false := by rw [beq_eq_false_iff_ne]; omega
 by_cases hk : a.tmod n < 0
 ·have e := tmod_lt a n h0 hk
  have E := Lib.hid e
  clear e
  go_enter Tryz.func24, Tryz.ntmps24
  go_wp2
  go_ret
  exact ⟨by rw [← E.out]; rfl, BelD.refl _ _⟩
 ·have e := tmod_ge a n h0 hk
  have E := Lib.hid e
  clear e
  go_enter Tryz.func24, Tryz.ntmps24
  go_wp2
  go_ret
  exact ⟨by rw [← E.out]; rfl, BelD.refl _ _⟩
theorem entersWithin : Am.Enters Tryz.prog 24 := ⟨Tryz.f24, Tryz.func24, by kernel_rfl, by kernel_rfl⟩
theorem within_told (W0 : World) (a n k : Int) (h0 : 0 < n) (h1 : n ≤ 4611686018427387904) (hk : a % n = k) : AsTold Tryz.prog W0 (24, [.int .i64 a, .int .i64 n], .int .i64 k) := by
 subst hk
 exact told_of_calls entersWithin rfl rfl (fun w => within_calls a n h0 h1 w)
set_option maxHeartbeats 400000 in
theorem within1_calls (a n : Int) (h0 : 0 < n) (h1 : n ≤ 4611686018427387904) (w : World) : Calls Tryz.prog 23 #[.int .i64 a, .int .i64 n] w fun e w' => e = .returned (.int .i64 (a % n)) ∧ BelD w.heap.size w w' := by
 have g1 := Int.tmod_lt_of_pos a h0
 have g2 := Int.lt_tmod_of_pos a h0
 have hn : (n == 0) = false := by rw [beq_eq_false_iff_ne]; omega
 by_cases hk : a.tmod n < 0
 ·have e := tmod_lt a n h0 hk
  have E := Lib.hid e
  clear e
  go_enter Tryz.func23, Tryz.ntmps23
  go_wp2
  go_ret
  exact ⟨by rw [← E.out]; rfl, BelD.refl _ _⟩
 ·have e := tmod_ge a n h0 hk
  have E := Lib.hid e
  clear e
  go_enter Tryz.func23, Tryz.ntmps23
  go_wp2
  go_ret
  exact ⟨by rw [← E.out]; rfl, BelD.refl _ _⟩
theorem entersWithin1 : Am.Enters Tryz.prog 23 := ⟨Tryz.f23, Tryz.func23, by kernel_rfl, by kernel_rfl⟩
theorem within1_told (W0 : World) (a n k : Int) (h0 : 0 < n) (h1 : n ≤ 4611686018427387904) (hk : a % n = k) : AsTold Tryz.prog W0 (23, [.int .i64 a, .int .i64 n], .int .i64 k) := by
 subst hk
 exact told_of_calls entersWithin1 rfl rfl (fun w => within1_calls a n h0 h1 w)
end Go.Proofs.YtjohiaoepbnicaaGreat
namespace Go.Proofs.YtjohiaoepbnicaaGreat
set_option linter.unusedSimpArgs false
set_option linter.unusedVariables false
open Go.Am Go.RowKit
attribute [local irreducible] aop OpsL Trip blockExit OpsD
theorem withinC (W0 : World) {nx : Nat} {H : Heap} (a m : Int) (h0 : 0 < m) (h1 : m ≤ 4611686018427387904) : ACalls Tryz.prog W0 23 [.int .i64 a, .int .i64 m] nx H fun v nx' H' => v = .int .i64 (a % m) ∧ nx' = nx ∧ H' = H :=
 (within1_told W0 a m _ h0 h1 rfl).2 nx H
def SymsAt (H : Heap) (v : Value) (ss : List (ByteArray × Int)) : Prop :=
 ∃ a c, v = .slice (some a) ss.length c ∧ ∀ (i : Nat) (h : i < ss.length), getc H ⟨a.block, a.off + i * 2, a.spot⟩ 2 = some [.string ss[i].1, .int .i64 ss[i].2]
theorem SymsAt.ext {nx nx' : Nat} {H H' : Heap} {v : Value} {ss : List (ByteArray × Int)} (h : Ext nx H nx' H') (hok : ∀ id o, H id = some o → id < nx) (hs : SymsAt H v ss) : SymsAt H' v ss := by
 obtain ⟨a, c, rfl, hs⟩ := hs
 exact ⟨a, c, rfl, fun i q => getc_ext h hok (hs i q)⟩
def baseF : List (ByteArray × Int) := [(⟨#[97]⟩, 1), (⟨#[97]⟩, 2), (⟨#[98]⟩, 3), (⟨#[99]⟩, 1), (⟨#[99]⟩, 2), (⟨#[100]⟩, 3), (⟨#[120]⟩, 2)]
def symsF (n : Int) (ns : List Int) : List (ByteArray × Int) :=
 if n % 7 = 1 then [(⟨#[98]⟩, 3), (⟨#[97]⟩, 2), (⟨#[97]⟩, 1)]
 else match ns with
  | x :: _ => if n % 11 = 2 then (baseF.drop (x % 7).toNat).take 1 else baseF.take (3 + n % 5).toNat
  | [] => baseF.take (3 + n % 5).toNat
theorem baseF_kind : ∀ s ∈ baseF, s.2 = 1 ∨ s.2 = 2 ∨ s.2 = 3 := by decide
theorem symsF_good (n : Int) (ns : List Int) : 0 < (symsF n ns).length ∧ (symsF n ns).length ≤ 7 ∧ ∀ s ∈ symsF n ns, s.2 = 1 ∨ s.2 = 2 ∨ s.2 = 3 := by
 have m5 := Int.emod_nonneg n (by omega : (5 : Int) ≠ 0)
 have m5' := Int.emod_lt_of_pos n (by omega : (0 : Int) < 5)
 have hb : baseF.length = 7 := rfl
 have htake : 0 < (baseF.take (3 + n % 5).toNat).length ∧ (baseF.take (3 + n % 5).toNat).length ≤ 7 ∧ ∀ s ∈ baseF.take (3 + n % 5).toNat, s.2 = 1 ∨ s.2 = 2 ∨ s.2 = 3 :=
  ⟨by rw [List.length_take]; omega, by rw [List.length_take]; omega, fun s hs => baseF_kind s (List.mem_of_mem_take hs)⟩
 unfold symsF
 split
 ·exact ⟨by simp, by simp, by simp⟩
 ·split
  ·rename_i x l
   have x7 := Int.emod_nonneg x (by omega : (7 : Int) ≠ 0)
   have x7' := Int.emod_lt_of_pos x (by omega : (0 : Int) < 7)
   split
   ·refine ⟨?_, ?_, fun s hs => baseF_kind s (List.mem_of_mem_drop (List.mem_of_mem_take hs))⟩ <;> (rw [List.length_take, List.length_drop]; omega)
   ·exact htake
  ·exact htake
theorem entersSyms : Am.Enters Tryz.prog 8 := ⟨Tryz.f8, Tryz.func8, by kernel_rfl, by kernel_rfl⟩
def symCells : List Value := [.string ⟨#[97]⟩, .int .i64 1, .string ⟨#[97]⟩, .int .i64 2, .string ⟨#[98]⟩, .int .i64 3, .string ⟨#[99]⟩, .int .i64 1, .string ⟨#[99]⟩, .int .i64 2, .string ⟨#[100]⟩, .int .i64 3, .string ⟨#[120]⟩, .int .i64 2]
set_option maxRecDepth 20000 in
set_option maxHeartbeats 4000000 in
theorem symsC (W0 : World) {nx : Nat} {H : Heap} {nv : Value} {m : Int} {ns : List Int} (hn : IntsAt H nv ns) :
  ACalls Tryz.prog W0 8 [.int .i64 m, nv] nx H fun v nx' H' => SymsAt H' v (symsF m ns) ∧ Ext nx H nx' H' := by
 obtain ⟨na, nc, rfl⟩ := hn.slice
 refine ACalls.by_trip (fn := Tryz.f8) (c := _) Tryz.func8 rfl (fun tm n hn0 htm => ?_)
 have e0 : tm 0 = .int .i64 m := htm 0
 have e1 : tm 1 = .slice na ns.length nc := htm 1
 clear htm
 replace hn0 : n = 50 := hn0
 refine Trip.ok fun hok => ?_
 replace hok : ∀ id o, H id = some o → id < nx := hok
 repeat (first | refine OpsL.q (by exact oasg) ?_ | refine Trip.seq ?_ | refine Trip.ops ?_ | (refine OpsL.nil ?_; (change Trip _ _ _ _ _)))
 refine OpsL.q (aop_build (v := .agg #[.string ⟨#[97]⟩, .int .i64 1]) (by exact rfl) (by exact rfl)) ?_
 refine OpsL.q (aop_build (v := .agg #[.string ⟨#[97]⟩, .int .i64 2]) (by exact rfl) (by exact rfl)) ?_
 refine OpsL.q (aop_build (v := .agg #[.string ⟨#[98]⟩, .int .i64 3]) (by exact rfl) (by exact rfl)) ?_
 refine OpsL.q (aop_build (v := .agg #[.string ⟨#[99]⟩, .int .i64 1]) (by exact rfl) (by exact rfl)) ?_
 refine OpsL.q (aop_build (v := .agg #[.string ⟨#[99]⟩, .int .i64 2]) (by exact rfl) (by exact rfl)) ?_
 refine OpsL.q (aop_build (v := .agg #[.string ⟨#[100]⟩, .int .i64 3]) (by exact rfl) (by exact rfl)) ?_
 refine OpsL.q (aop_build (v := .agg #[.string ⟨#[120]⟩, .int .i64 2]) (by exact rfl) (by exact rfl)) ?_
 refine OpsL.new (o := .cells symCells 2 none false (some 51)) (by subst_vars; decide) (aop_buildSlice (l := [(0, .agg #[.string ⟨#[97]⟩, .int .i64 1]), (1, .agg #[.string ⟨#[97]⟩, .int .i64 2]), (2, .agg #[.string ⟨#[98]⟩, .int .i64 3]), (3, .agg #[.string ⟨#[99]⟩, .int .i64 1]), (4, .agg #[.string ⟨#[99]⟩, .int .i64 2]), (5, .agg #[.string ⟨#[100]⟩, .int .i64 3]), (6, .agg #[.string ⟨#[120]⟩, .int .i64 2])]) (by simp only [evParts, ASt.ev, tmPut, ↓reduceIte, reduceIte, Option.some.injEq, Nat.reduceEqDiff]) (by exact rfl)) ?_
 repeat (first | (refine OpsL.q (by first | exact omv | exact oasg) ?_) | refine Trip.seq ?_ | refine Trip.ops ?_ | (refine OpsL.nil ?_; (change Trip _ _ _ _ _)))
 refine OpsL.c2 (hf := entersWithin1) (hc := (withinC W0 _ _ (by omega) (by omega))) (h := ?_)
 rintro v nx1 H1 ⟨rfl, rfl, rfl⟩
 have m5 := Int.emod_nonneg m (by omega : (5 : Int) ≠ 0)
 have m5' := Int.emod_lt_of_pos m (by omega : (0 : Int) < 5)
 repeat (first | (refine OpsL.q (by first | exact omv | exact oasg | exact oadd) ?_) | refine Trip.seq ?_ | refine Trip.ops ?_ | (refine OpsL.nil ?_; (change Trip _ _ _ _ _)))
 refine OpsL.c2 (hf := entersWithin1) (hc := (withinC W0 _ _ (by omega) (by omega))) (h := ?_)
 rintro v nx1 H1 ⟨rfl, rfl, rfl⟩
 have hall : ∀ (i : Nat) (h : i < baseF.length) (k : Nat), k = i * 2 → getc (H.put nx (.cells symCells 2 none false (some 51))) ⟨nx, k, none⟩ 2 = some [.string baseF[i].1, .int .i64 baseF[i].2] := by
  intro i h k hk
  subst hk
  have : i = 0 ∨ i = 1 ∨ i = 2 ∨ i = 3 ∨ i = 4 ∨ i = 5 ∨ i = 6 := by simp [baseF] at h; omega
  rcases this with rfl | rfl | rfl | rfl | rfl | rfl | rfl <;> (rw [getc_own (by decide)]; rfl)
 repeat (first | refine OpsL.q (by exact oeql) ?_ | refine Trip.seq ?_ | refine Trip.itA (fun _ => ?_) (fun _ => ?_) | (refine OpsL.nil ?_; (change Trip _ _ _ _ _)))
 ·rename_i h7
  refine OpsL.drawn (by kernel_rfl) (by kernel_rfl) (by kernel_rfl) ?_
  repeat (refine OpsL.q (by first | exact omv | exact oixa) ?_)
  refine OpsL.q (aop_loadAgg (k := 2) (by simp only [ASt.ev, tmPut, ↓reduceIte, Nat.reduceEqDiff, *]; rfl) (by exact rfl) rfl (by exact rfl) (hall 2 (by decide) _ (by exact rfl))) ?_
  repeat (refine OpsL.q (by first | exact omv | exact oixa) ?_)
  refine OpsL.q (aop_loadAgg (k := 2) (by simp only [ASt.ev, tmPut, ↓reduceIte, Nat.reduceEqDiff, *]; rfl) (by exact rfl) rfl (by exact rfl) (hall 1 (by decide) _ (by exact rfl))) ?_
  repeat (refine OpsL.q (by first | exact omv | exact oixa) ?_)
  refine OpsL.q (aop_loadAgg (k := 2) (by simp only [ASt.ev, tmPut, ↓reduceIte, Nat.reduceEqDiff, *]; rfl) (by exact rfl) rfl (by exact rfl) (hall 0 (by decide) _ (by exact rfl))) ?_
  refine OpsL.new (o := .cells [.string ⟨#[98]⟩, .int .i64 3, .string ⟨#[97]⟩, .int .i64 2, .string ⟨#[97]⟩, .int .i64 1] 2 none false (some 51)) (by subst_vars; decide)
   (aop_buildSlice (l := [(0, .agg #[.string ⟨#[98]⟩, .int .i64 3]), (1, .agg #[.string ⟨#[97]⟩, .int .i64 2]), (2, .agg #[.string ⟨#[97]⟩, .int .i64 1])]) (by simp only [evParts, ASt.ev, tmPut, ↓reduceIte, reduceIte, Option.some.injEq, Nat.reduceEqDiff]; rfl) (by exact rfl)) ?_
  repeat (first | refine OpsL.q (by exact oasg) ?_ | (refine Trip.ret ?_; (dsimp only)) | (refine OpsL.nil ?_; (change Trip _ _ _ _ _)))
  refine ⟨.inr rfl, _, res_tmp, ?_, ⟨by show nx ≤ nx + 1 + 1; omega, fun i hi => by rw [Heap.put_ne (by omega), Heap.put_ne (by omega)]⟩⟩
  have hsy : symsF m ns = [(⟨#[98]⟩, 3), (⟨#[97]⟩, 2), (⟨#[97]⟩, 1)] := by unfold symsF; rw [if_pos h7]
  rw [hsy]
  refine ⟨⟨nx + 1, 0, none⟩, 3, by simp [tmPut], fun i hi => ?_⟩
  have : i = 0 ∨ i = 1 ∨ i = 2 := by simp at hi; omega
  rcases this with rfl | rfl | rfl <;> (rw [getc_own (by show 0 + _ * 2 + 2 ≤ 6; decide)]; rfl)
 ·rename_i h7
  repeat (first | refine OpsL.q (by exact omv) ?_ | refine Trip.seq ?_ | refine Trip.ops ?_ | (refine Trip.skip ?_; (change Trip _ _ _ _ _)))
  refine OpsL.c2 (hf := entersWithin1) (hc := (withinC W0 _ _ (by omega) (by omega))) (h := ?_)
  rintro v nx1 H1 ⟨rfl, rfl, rfl⟩
  repeat' (first | (refine OpsL.q (by first | exact omv | exact ogtr | exact oeql | exact olen | exact opkT | exact opkF) ?_) | refine Trip.seq ?_ | refine Trip.ops ?_ | refine Trip.itA (fun _ => ?_) (fun _ => ?_) | (refine Trip.skip ?_; (change Trip _ _ _ _ _)) | (refine OpsL.nil ?_; (change Trip _ _ _ _ _)) | refine OpsL.ung ?_ | refine OpsL.skp ?_ | refine OpsL.gT (fun _ => ?_) (fun _ => ?_))
  ·rename_i h11 hlen
   obtain ⟨x, ns, rfl⟩ : ∃ x l, ns = x :: l := by cases ns with | nil => simp at hlen | cons x l => exact ⟨x, l, rfl⟩
   obtain ⟨p, rfl, hc⟩ := hn.get (i := 0) (by simp)
   replace hc : cellAt (H.put nx (.cells symCells 2 none false (some 51))) ⟨p.block, p.off + (0 : Int).toNat * 1, p.spot⟩ (.int .i64 x) := by
    obtain ⟨o, ho⟩ := getc_some hc
    have := hok _ _ ho
    unfold cellAt at *
    rw [getc_put (by simp only at this ⊢; omega)]
    exact hc
   have x7 := Int.emod_nonneg x (by omega : (7 : Int) ≠ 0)
   have x7' := Int.emod_lt_of_pos x (by omega : (0 : Int) < 7)
   repeat (refine OpsL.q (by first | exact oixa | exact old) ?_)
   refine OpsL.c2 (hf := entersWithin1) (hc := (withinC W0 _ _ (by omega) (by omega))) (h := ?_)
   rintro v nx1 H1 ⟨rfl, rfl, rfl⟩
   repeat (refine OpsL.q (by exact oixa) ?_)
   have h7l : (x % 7).toNat < baseF.length := by show _ < 7; omega
   refine OpsL.q (aop_loadAgg (k := 2) (by simp only [ASt.ev, tmPut, ↓reduceIte, Nat.reduceEqDiff, *]; rfl) (by exact rfl) rfl (by exact rfl) (hall (x % 7).toNat h7l _ (by show 0 + _ * 2 = _; omega))) ?_
   refine OpsL.new (o := .cells [.string baseF[(x % 7).toNat].1, .int .i64 baseF[(x % 7).toNat].2] 2 none false (some 51)) (by subst_vars; decide)
    (aop_buildSlice (l := [(0, .agg [.string baseF[(x % 7).toNat].1, .int .i64 baseF[(x % 7).toNat].2].toArray)]) (by simp only [evParts, ASt.ev, tmPut, ↓reduceIte, reduceIte, Option.some.injEq, Nat.reduceEqDiff]) (by exact rfl)) ?_
   repeat (first | refine OpsL.q (by exact oasg) ?_ | (refine Trip.ret ?_; (dsimp only)) | (refine OpsL.nil ?_; (change Trip _ _ _ _ _)))
   refine ⟨.inr rfl, _, res_tmp, ?_, ⟨by show nx ≤ nx + 1 + 1; omega, fun i hi => by rw [Heap.put_ne (by omega), Heap.put_ne (by omega)]⟩⟩
   have hsy : symsF m (x :: ns) = [baseF[(x % 7).toNat]] := by
    unfold symsF
    rw [if_neg h7]
    simp only [h11, if_true]
    rw [List.take_one, List.head?_drop, List.getElem?_eq_getElem h7l]
    rfl
   rw [hsy]
   refine ⟨⟨nx + 1, 0, none⟩, 1, by simp [tmPut], fun i hi => ?_⟩
   have : i = 0 := by simp at hi; omega
   subst this
   rw [getc_own (by show 0 + 0 * 2 + 2 ≤ 2; omega)]
   rfl
  all_goals
   try refine Trip.ifF ?_
   repeat (first | refine OpsL.q (by exact omv) ?_ | refine Trip.seq ?_ | refine Trip.ops ?_ | (refine Trip.skip ?_; (change Trip _ _ _ _ _)))
   refine OpsL.q (aop_slice (a := none) (b := some (.int .i64 (3 + m % 5))) (c := none) (by simp only [ASt.ev, tmPut, ↓reduceIte, Nat.reduceEqDiff, *]; rfl) rfl (by simp only [evOpt, ASt.ev, tmPut, ↓reduceIte, reduceIte, Option.some.injEq, Nat.reduceEqDiff, Option.map_some]) rfl
    (aSlice_plain (l := 0) (h := (3 + m % 5).toNat) (sz := 2) (by exact rfl) (by exact rfl) Heap.put_eq rfl rfl (.inl ⟨rfl, rfl⟩) (.inr ⟨.i64, by congr 2; omega⟩) (by omega) (by omega))) ?_
   repeat (first | refine OpsL.q (by exact oasg) ?_ | (refine Trip.ret ?_; (dsimp only)) | (refine OpsL.nil ?_; (change Trip _ _ _ _ _)))
   refine ⟨.inr rfl, _, res_tmp, ?_, ⟨by show nx ≤ nx + 1; omega, fun i hi => by rw [Heap.put_ne (by omega)]⟩⟩
   have hsy : symsF m ns = baseF.take (3 + m % 5).toNat := by
    unfold symsF
    rw [if_neg h7]
    cases ns with
    | nil => rfl
    | cons x l => simp_all
   have hlen : (baseF.take (3 + m % 5).toNat).length = (3 + m % 5).toNat := by
    rw [List.length_take]; show min _ 7 = _; omega
   rw [hsy]
   refine ⟨⟨nx, 0, none⟩, 7, by rw [hlen]; simp [tmPut], fun i hi => ?_⟩
   rw [hlen] at hi
   rw [List.getElem_take]
   exact hall i (by show i < 7; omega) _ (by show 0 + i * 2 = _; omega)
end Go.Proofs.YtjohiaoepbnicaaGreat
namespace Go.Am
set_option linter.unusedSimpArgs false
set_option linter.unusedVariables false
open Go.RowKit
section
variable {P : Program} {W0 : World} {ops : Array Oper} {H : Heap} {nx n : Nat} {type : TypeId} {pos : String} {after : Array Edge} {l : List Oper} {tm : Nat → Value} {QQ : ASt → Prop} {d : Tmp} {ts : Array TypeId} {f : FuncId} {R : Value → Nat → Heap → Prop}
theorem OpsL.callV1 {c x : Operand} {a : Value} {cap : Array Value} (hd : d < n) (hc : ASt.ev ⟨tm, n, H, nx⟩ c = some (.func (.func f) #[] cap)) (hx : ASt.ev ⟨tm, n, H, nx⟩ x = some a) (hf : Enters P f) (hcall : ACalls P W0 f (a :: cap.toList) nx H R) (h : ∀ v nx' H', R v nx' H' → OpsL P W0 ops l ⟨tmPut tm (some d) v, n, H', nx'⟩ QQ) :
  OpsL P W0 ops (⟨some d, .call ⟨.value c, #[x], ts⟩, type, pos, after, none⟩ :: l) ⟨tm, n, H, nx⟩ QQ :=
 OpsL.call R (by simp [dstOk, hd]) rfl (by simp [callee, hc, evAll, hx]) hf hcall h
theorem OpsL.callV2 {c x y : Operand} {a b : Value} {cap : Array Value} (hd : d < n) (hc : ASt.ev ⟨tm, n, H, nx⟩ c = some (.func (.func f) #[] cap)) (hx : ASt.ev ⟨tm, n, H, nx⟩ x = some a) (hy : ASt.ev ⟨tm, n, H, nx⟩ y = some b) (hf : Enters P f) (hcall : ACalls P W0 f (a :: b :: cap.toList) nx H R) (h : ∀ v nx' H', R v nx' H' → OpsL P W0 ops l ⟨tmPut tm (some d) v, n, H', nx'⟩ QQ) :
  OpsL P W0 ops (⟨some d, .call ⟨.value c, #[x, y], ts⟩, type, pos, after, none⟩ :: l) ⟨tm, n, H, nx⟩ QQ :=
 OpsL.call R (by simp [dstOk, hd]) rfl (by simp [callee, hc, evAll, hx, hy]) hf hcall h
theorem aop_makeFunc {ev : Operand → Option Value} {dst : Option Tmp} {guard : Option (Nat × Bool)} {fn : Fn} {first cap : Array Operand} {a b : List Value} (h1 : evAll ev first.toList = some a) (h2 : evAll ev cap.toList = some b) :
  aop P H nx ev ⟨dst, .makeFunc fn first cap, type, pos, after, guard⟩ = some (.func fn a.toArray b.toArray, .none) := by simp [aop, h1, h2]
end
theorem cell_of {H : Heap} {b e k : Nat} {cs : List Value} {tg : Option Nat} {ro : Bool} {q : Option TypeId} {v : Value} (hH : H b = some (.cells cs e tg ro q)) (h : cs[k]? = some v) : cellAt H ⟨b, k, tg⟩ v := by
 obtain ⟨hk, rfl⟩ := List.getElem?_eq_some_iff.1 h
 exact cellAt_own hH hk
theorem getc_all {H : Heap} {b e : Nat} {cs : List Value} {tg : Option Nat} {ro : Bool} {q : Option TypeId} {m : Nat} (hH : H b = some (.cells cs e tg ro q)) (h : cs.length = m) : getc H ⟨b, 0, tg⟩ m = some cs := by
 unfold getc
 simp only [hH]
 rw [if_pos ⟨trivial, by omega⟩]
 simp [← h]
theorem cell_ext {nx nx' : Nat} {H H' : Heap} {a : Addr} {v : Value} (h : Ext nx H nx' H') (hok : ∀ id o, H id = some o → id < nx) (hc : cellAt H a v) : cellAt H' a v := getc_ext h hok hc
theorem rows_at {α : Type} {enc : α → List Value} {sz : Nat} {H : Heap} {a : Option Addr} {c : Nat} {l : List α} (h : RowsAt enc sz H (.slice a l.length c) l) {i : Nat} (hi : i < l.length) : ∃ p, a = some p ∧ getc H ⟨p.block, p.off + (i : Int).toNat * sz, p.spot⟩ sz = some (enc l[i]) := by
 rcases h with ⟨c', h1, rfl⟩ | ⟨p, c', h1, hs⟩
 ·exact absurd hi (by simp)
 ·obtain ⟨rfl, _, _⟩ := Value.slice.inj h1
  exact ⟨p, rfl, by rw [Int.toNat_natCast]; exact hs i hi⟩
theorem intsAt_at {H : Heap} {a : Option Addr} {c : Nat} {l : List Int} (h : IntsAt H (.slice a l.length c) l) {i : Nat} (hi : i < l.length) : ∃ p, a = some p ∧ cellAt H ⟨p.block, p.off + (i : Int).toNat * 1, p.spot⟩ (.int .i64 l[i]) := by
 obtain ⟨p, h1, h2⟩ := h.get hi
 exact ⟨p, h1, by simpa using h2⟩
abbrev R4 := Int × Int × Int × Int
abbrev R3 := Int × Int × Int
def e4 (r : R4) : List Value := [.int .i64 r.1, .int .i64 r.2.1, .int .i64 r.2.2.1, .int .i64 r.2.2.2]
def e3 (r : R3) : List Value := [.int .i64 r.1, .int .i64 r.2.1, .int .i64 r.2.2]
structure Aut where
 N : Int
 G : Int
 init : List Int
 final : List Int
 opens : List R4
 closes : List R4
 inners : List R3
def autV (a : Aut) (vi vf vo vc vn : Value) : List Value := [.int .i64 a.N, .int .i64 a.G, vi, vf, vo, vc, vn]
structure AutIn (H : Heap) (a : Aut) (vi vf vo vc vn : Value) : Prop where
 init : IntsAt H vi a.init
 final : IntsAt H vf a.final
 opens : RowsAt e4 4 H vo a.opens
 closes : RowsAt e4 4 H vc a.closes
 inners : RowsAt e3 3 H vn a.inners
theorem AutIn.ext {nx nx' : Nat} {H H' : Heap} {a : Aut} {vi vf vo vc vn : Value} (h : Ext nx H nx' H') (hok : ∀ id o, H id = some o → id < nx) (ha : AutIn H a vi vf vo vc vn) : AutIn H' a vi vf vo vc vn :=
 ⟨ha.init.ext h hok, ha.final.ext h hok, ha.opens.ext h hok, ha.closes.ext h hok, ha.inners.ext h hok⟩
structure AutLen (a : Aut) : Prop where
 init : a.init.length ≤ 1000
 final : a.final.length ≤ 1000
 opens : a.opens.length ≤ 1000
 closes : a.closes.length ≤ 1000
 inners : a.inners.length ≤ 1000
def btF (n a b : Int) : Bool := decide (a ≤ n) && decide (n ≤ b)
def stF (N s : Int) : Bool := decide (0 ≤ s) && decide (s < N)
def kdF (ss : List (ByteArray × Int)) (s k : Int) : Bool := decide (0 ≤ s) && decide (s < ss.length) && (match ss[s.toNat]? with | some x => decide (x.2 = k) | none => false)
def okO (ss : List (ByteArray × Int)) (a : Aut) (r : R4) : Bool := stF a.N r.1 && kdF ss r.2.1 1 && stF a.N r.2.2.1 && btF r.2.2.2 1 a.G
def okC (ss : List (ByteArray × Int)) (a : Aut) (r : R4) : Bool := stF a.N r.1 && kdF ss r.2.1 2 && stF a.N r.2.2.2 && btF r.2.2.1 0 a.G
def okI (ss : List (ByteArray × Int)) (a : Aut) (r : R3) : Bool := stF a.N r.1 && kdF ss r.2.1 3 && stF a.N r.2.2
def sizeF (a : Aut) : Bool := btF a.N 0 200 && btF a.G 0 10000 && decide (((a.opens.length : Int) + a.closes.length) + a.inners.length ≤ 100000)
def checkF (ss : List (ByteArray × Int)) (a : Aut) : Bool := sizeF a && a.init.all (stF a.N) && a.final.all (stF a.N) && a.opens.all (okO ss a) && a.closes.all (okC ss a) && a.inners.all (okI ss a)
theorem all_take {α : Type} {p : α → Bool} {l : List α} {i : Nat} (h : i < l.length) (ht : (l.take i).all p = true) (hi : p l[i] = true) : (l.take (i + 1)).all p = true := by
 rw [List.take_succ_eq_append_getElem h, List.all_append, ht]
 simp [hi]
theorem all_no {α : Type} {p : α → Bool} {l : List α} {i : Nat} (h : i < l.length) (hi : p l[i] = false) : l.all p = false := by
 rw [List.all_eq_false]
 exact ⟨_, List.getElem_mem h, by simp [hi]⟩
end Go.Am
namespace Go.Proofs.YtjohiaoepbnicaaGreat
set_option linter.unusedSimpArgs false
set_option linter.unusedVariables false
open Go.Am Go.RowKit
attribute [local irreducible] aop OpsL Trip blockExit OpsD
theorem entersBetween : Am.Enters Tryz.prog 37 := ⟨Tryz.f37, Tryz.func37, by kernel_rfl, by kernel_rfl⟩
theorem entersState : Am.Enters Tryz.prog 34 := ⟨Tryz.f34, Tryz.func34, by kernel_rfl, by kernel_rfl⟩
theorem entersKind : Am.Enters Tryz.prog 35 := ⟨Tryz.f35, Tryz.func35, by kernel_rfl, by kernel_rfl⟩
theorem entersOpen : Am.Enters Tryz.prog 36 := ⟨Tryz.f36, Tryz.func36, by kernel_rfl, by kernel_rfl⟩
theorem entersClose : Am.Enters Tryz.prog 38 := ⟨Tryz.f38, Tryz.func38, by kernel_rfl, by kernel_rfl⟩
theorem entersStay : Am.Enters Tryz.prog 39 := ⟨Tryz.f39, Tryz.func39, by kernel_rfl, by kernel_rfl⟩
theorem entersSize : Am.Enters Tryz.prog 40 := ⟨Tryz.f40, Tryz.func40, by kernel_rfl, by kernel_rfl⟩
theorem entersRules : Am.Enters Tryz.prog 30 := ⟨Tryz.f30, Tryz.func30, by kernel_rfl, by kernel_rfl⟩
theorem entersCheck : Am.Enters Tryz.prog 17 := ⟨Tryz.f17, Tryz.func17, by kernel_rfl, by kernel_rfl⟩
set_option maxRecDepth 20000 in
set_option maxHeartbeats 4000000 in
theorem betweenC (W0 : World) {nx : Nat} {H : Heap} (x a b : Int) :
  ACalls Tryz.prog W0 37 [.int .i64 x, .int .i64 a, .int .i64 b] nx H fun v nx' H' => v = .bool (btF x a b) ∧ nx' = nx ∧ H' = H := by
 refine ACalls.by_trip (fn := Tryz.f37) (c := _) Tryz.func37 rfl (fun tm n hn0 htm => ?_)
 have e0 : tm 0 = .int .i64 x := htm 0
 have e1 : tm 1 = .int .i64 a := htm 1
 have e2 : tm 2 = .int .i64 b := htm 2
 clear htm
 replace hn0 : n = 15 := hn0
 repeat' (first | (refine OpsL.q (by first | exact omv | exact oasg | exact oleq | exact opkT | exact opkF) ?_) | refine Trip.seq ?_ | refine Trip.ops ?_ | (refine Trip.ret ?_; (dsimp only)) | (refine OpsL.nil ?_; (change Trip _ _ _ _ _)) | refine OpsL.ung ?_ | refine OpsL.skp ?_ | refine OpsL.gT (fun _ => ?_) (fun _ => ?_))
 all_goals (exact ⟨.inr rfl, _, res_tmp, by simp [tmPut, btF, *], rfl, rfl⟩)
set_option maxRecDepth 20000 in
set_option maxHeartbeats 4000000 in
theorem stateC (W0 : World) {nx : Nat} {H : Heap} {b : Nat} {N : Int} (s : Int) (hN : cellAt H ⟨b, 0, none⟩ (.int .i64 N)) :
  ACalls Tryz.prog W0 34 [.int .i64 s, .pointer (some ⟨b, 0, none⟩)] nx H fun v nx' H' => v = .bool (stF N s) ∧ nx' = nx ∧ H' = H := by
 refine ACalls.by_trip (fn := Tryz.f34) (c := _) Tryz.func34 rfl (fun tm n hn0 htm => ?_)
 have e0 : tm 0 = .int .i64 s := htm 0
 have e1 : tm 1 = .pointer (some ⟨b, 0, none⟩) := htm 1
 clear htm
 replace hn0 : n = 12 := hn0
 repeat' (first | (refine OpsL.q (by first | exact omv | exact oasg | exact olss | exact oleq | exact ofa | exact old | exact opkT | exact opkF) ?_) | refine Trip.seq ?_ | refine Trip.ops ?_ | (refine Trip.ret ?_; (dsimp only)) | (refine OpsL.nil ?_; (change Trip _ _ _ _ _)) | refine OpsL.ung ?_ | refine OpsL.skp ?_ | refine OpsL.gT (fun _ => ?_) (fun _ => ?_))
 all_goals (exact ⟨.inr rfl, _, res_tmp, by simp [tmPut, stF, *], rfl, rfl⟩)
set_option maxRecDepth 20000 in
set_option maxHeartbeats 4000000 in
theorem kindC (W0 : World) {nx : Nat} {H : Heap} {b : Nat} {lv : Value} {ss : List (ByteArray × Int)} (s k : Int) (hc : cellAt H ⟨b, 0, none⟩ lv) (hl : SymsAt H lv ss) (hss : ss.length ≤ 1000) :
  ACalls Tryz.prog W0 35 [.int .i64 s, .int .i64 k, .pointer (some ⟨b, 0, none⟩)] nx H fun v nx' H' => v = .bool (kdF ss s k) ∧ nx' = nx ∧ H' = H := by
 obtain ⟨la, lc, rfl, hl⟩ := hl
 refine ACalls.by_trip (fn := Tryz.f35) (c := _) Tryz.func35 rfl (fun tm n hn0 htm => ?_)
 have e0 : tm 0 = .int .i64 s := htm 0
 have e1 : tm 1 = .int .i64 k := htm 1
 have e2 : tm 2 = .pointer (some ⟨b, 0, none⟩) := htm 2
 clear htm
 replace hn0 : n = 23 := hn0
 by_cases h0 : 0 ≤ s
 ·obtain ⟨i, rfl⟩ : ∃ i : Nat, s = i := ⟨s.toNat, by omega⟩
  by_cases h1 : i < ss.length
  ·have hc1 := cellAt_of_getc (hl i h1)
   dsimp only at hc1
   have hc2 : cellAt H ⟨la.block, la.off + (i : Int).toNat * 2 + 1, la.spot⟩ (.int .i64 ss[i].2) := by simpa using hc1
   have hk : kdF ss i k = decide (ss[i].2 = k) := by
    unfold kdF
    rw [Int.toNat_natCast, List.getElem?_eq_getElem h1]
    simp [h1]
   repeat' (first | (refine OpsL.q (by first | exact omv | exact oasg | exact olss | exact oleq | exact oeql | exact olen | exact oixa | exact ofa | exact old | exact opkT | exact opkF) ?_) | refine Trip.seq ?_ | refine Trip.ops ?_ | (refine Trip.ret ?_; (dsimp only)) | (refine OpsL.nil ?_; (change Trip _ _ _ _ _)) | refine OpsL.ung ?_ | refine OpsL.skp ?_ | refine OpsL.gT (fun _ => ?_) (fun _ => ?_))
   all_goals first | omega | skip
   all_goals (exact ⟨.inr rfl, _, res_tmp, by rw [hk]; simp [tmPut, *], rfl, rfl⟩)
  ·have hk : kdF ss i k = false := by
    unfold kdF
    simp [h1]
   repeat' (first | (refine OpsL.q (by first | exact omv | exact oasg | exact olss | exact oleq | exact olen | exact oixa | exact ofa | exact old | exact opkT | exact opkF) ?_) | refine Trip.seq ?_ | refine Trip.ops ?_ | (refine Trip.ret ?_; (dsimp only)) | (refine OpsL.nil ?_; (change Trip _ _ _ _ _)) | refine OpsL.ung ?_ | refine OpsL.skp ?_ | refine OpsL.gT (fun _ => ?_) (fun _ => ?_))
   all_goals first | omega | skip
   all_goals (exact ⟨.inr rfl, _, res_tmp, by rw [hk]; simp [tmPut, *], rfl, rfl⟩)
 ·have hk : kdF ss s k = false := by
   unfold kdF
   simp [h0]
  repeat' (first | (refine OpsL.q (by first | exact omv | exact oasg | exact oleq | exact opkF) ?_) | refine Trip.seq ?_ | refine Trip.ops ?_ | (refine Trip.ret ?_; (dsimp only)) | (refine OpsL.nil ?_; (change Trip _ _ _ _ _)) | refine OpsL.skp ?_)
  all_goals first | omega | skip
  all_goals (exact ⟨.inr rfl, _, res_tmp, by rw [hk]; simp [tmPut, *], rfl, rfl⟩)
structure Ctx (H : Heap) (b2 b3 b5 b6 : Nat) (lv : Value) (N G : Int) : Prop where
 c2 : cellAt H ⟨b2, 0, none⟩ lv
 cN : cellAt H ⟨b3, 0, none⟩ (.int .i64 N)
 cG : cellAt H ⟨b3, 1, none⟩ (.int .i64 G)
 c5 : cellAt H ⟨b5, 0, none⟩ (.func (.func 34) #[] #[.pointer (some ⟨b3, 0, none⟩)])
 c6 : cellAt H ⟨b6, 0, none⟩ (.func (.func 35) #[] #[.pointer (some ⟨b2, 0, none⟩)])
theorem Ctx.ext {nx nx' : Nat} {H H' : Heap} {b2 b3 b5 b6 : Nat} {lv : Value} {N G : Int} (h : Ext nx H nx' H') (hok : ∀ id o, H id = some o → id < nx) (hc : Ctx H b2 b3 b5 b6 lv N G) : Ctx H' b2 b3 b5 b6 lv N G :=
 ⟨cell_ext h hok hc.c2, cell_ext h hok hc.cN, cell_ext h hok hc.cG, cell_ext h hok hc.c5, cell_ext h hok hc.c6⟩
set_option maxRecDepth 20000 in
set_option maxHeartbeats 8000000 in
theorem openC (W0 : World) {nx : Nat} {H : Heap} {b2 b3 b5 b6 : Nat} {lv : Value} {ss : List (ByteArray × Int)} {a : Aut} (r : R4) (hc : Ctx H b2 b3 b5 b6 lv a.N a.G) (hl : SymsAt H lv ss) (hss : ss.length ≤ 1000) :
  ACalls Tryz.prog W0 36 [.agg (e4 r).toArray, .pointer (some ⟨b5, 0, none⟩), .pointer (some ⟨b6, 0, none⟩), .pointer (some ⟨b3, 0, none⟩)] nx H fun v nx' H' => v = .bool (okO ss a r) ∧ Ext nx H nx' H' := by
 refine ACalls.by_trip (fn := Tryz.f36) (c := _) Tryz.func36 rfl (fun tm n hn0 htm => ?_)
 have e0 : tm 0 = .agg (e4 r).toArray := htm 0
 have e1 : tm 1 = .pointer (some ⟨b5, 0, none⟩) := htm 1
 have e2 : tm 2 = .pointer (some ⟨b6, 0, none⟩) := htm 2
 have e3 : tm 3 = .pointer (some ⟨b3, 0, none⟩) := htm 3
 clear htm
 replace hn0 : n = 29 := hn0
 refine Trip.ok fun hok => ?_
 replace hok : ∀ id o, H id = some o → id < nx := hok
 refine Trip.seq ?_
 refine Trip.ops ?_
 refine OpsL.new (by subst_vars; decide) (aop_box (by simp only [ASt.ev, tmPut, ↓reduceIte, Nat.reduceEqDiff, *]; rfl)) ?_
 obtain ⟨F, hF⟩ : ∃ F, F = H.put nx (.cells (Value.agg (e4 r).toArray).cells.toList 0 none false (some 44)) := ⟨_, rfl⟩
 have hx0 : Ext nx H (nx + 1) F := by rw [hF]; exact Ext.newPut
 have hFn : F nx = some (.cells (e4 r) 0 none false (some 44)) := by rw [hF, Heap.put_eq]; rfl
 obtain ⟨c2, cN, cG, c5, c6⟩ := hc.ext hx0 hok
 replace hl := hl.ext hx0 hok
 have g0 : cellAt F ⟨nx, 0, none⟩ (.int .i64 r.1) := cell_of hFn rfl
 have g1 : cellAt F ⟨nx, 1, none⟩ (.int .i64 r.2.1) := cell_of hFn rfl
 have g2 : cellAt F ⟨nx, 2, none⟩ (.int .i64 r.2.2.1) := cell_of hFn rfl
 have g3 : cellAt F ⟨nx, 3, none⟩ (.int .i64 r.2.2.2) := cell_of hFn rfl
 rw [← hF]
 clear hF
 repeat (first | (refine OpsL.q (by first | exact oasg | exact ofa | exact old) ?_) | refine Trip.seq ?_ | refine Trip.ops ?_ | (refine OpsL.nil ?_; (change Trip _ _ _ _ _)))
 refine OpsL.callV1 (cap := #[.pointer (some ⟨b3, 0, none⟩)]) (by subst_vars; decide) (by simp only [ASt.ev, tmPut, ↓reduceIte, Nat.reduceEqDiff, *]; done) (by simp only [ASt.ev, tmPut, ↓reduceIte, Nat.reduceEqDiff, *]; rfl) entersState (stateC W0 _ cN) ?_
 rintro v2 n2 H2 ⟨rfl, rfl, rfl⟩
 cases hs1 : stF a.N r.1
 ·repeat' (first | (refine OpsL.q (by first | exact omv | exact oasg | exact opkF) ?_) | (refine Trip.ret ?_; (dsimp only)) | (refine OpsL.nil ?_; (change Trip _ _ _ _ _)) | refine OpsL.skp ?_)
  exact ⟨.inr rfl, _, res_tmp, by simp [tmPut, okO, *], hx0⟩
 repeat' (first | (refine OpsL.q (by first | exact omv | exact ofa | exact old) ?_) | refine OpsL.ung ?_)
 refine OpsL.callV2 (cap := #[.pointer (some ⟨b2, 0, none⟩)]) (by subst_vars; decide) (by simp only [ASt.ev, tmPut, ↓reduceIte, Nat.reduceEqDiff, *]; done) (by simp only [ASt.ev, tmPut, ↓reduceIte, Nat.reduceEqDiff, *]; rfl) (by simp only [ASt.ev, tmPut, ↓reduceIte, Nat.reduceEqDiff, *]; rfl) entersKind (kindC W0 _ _ c2 hl hss) ?_
 rintro v2 n2 H2 ⟨rfl, rfl, rfl⟩
 cases hs2 : kdF ss r.2.1 1
 ·repeat' (first | (refine OpsL.q (by first | exact omv | exact oasg | exact opkT | exact opkF) ?_) | (refine Trip.ret ?_; (dsimp only)) | (refine OpsL.nil ?_; (change Trip _ _ _ _ _)) | refine OpsL.skp ?_)
  exact ⟨.inr rfl, _, res_tmp, by simp [tmPut, okO, *], hx0⟩
 repeat' (first | (refine OpsL.q (by first | exact omv | exact ofa | exact old | exact opkT) ?_) | refine OpsL.ung ?_)
 refine OpsL.callV1 (cap := #[.pointer (some ⟨b3, 0, none⟩)]) (by subst_vars; decide) (by simp only [ASt.ev, tmPut, ↓reduceIte, Nat.reduceEqDiff, *]; done) (by simp only [ASt.ev, tmPut, ↓reduceIte, Nat.reduceEqDiff, *]; rfl) entersState (stateC W0 _ cN) ?_
 rintro v2 n2 H2 ⟨rfl, rfl, rfl⟩
 cases hs3 : stF a.N r.2.2.1
 ·repeat' (first | (refine OpsL.q (by first | exact omv | exact oasg | exact opkT | exact opkF) ?_) | (refine Trip.ret ?_; (dsimp only)) | (refine OpsL.nil ?_; (change Trip _ _ _ _ _)) | refine OpsL.skp ?_)
  exact ⟨.inr rfl, _, res_tmp, by simp [tmPut, okO, *], hx0⟩
 repeat' (first | (refine OpsL.q (by first | exact omv | exact ofa | exact old | exact opkT) ?_) | refine OpsL.ung ?_)
 refine OpsL.c3 (hf := entersBetween) (hc := (betweenC W0 _ _ _)) (h := ?_)
 rintro v2 n2 H2 ⟨rfl, rfl, rfl⟩
 repeat' (first | (refine OpsL.q (by first | exact oasg | exact opkT) ?_) | (refine Trip.ret ?_; (dsimp only)) | (refine OpsL.nil ?_; (change Trip _ _ _ _ _)))
 exact ⟨.inr rfl, _, res_tmp, by simp [tmPut, okO, *], hx0⟩
set_option maxRecDepth 20000 in
set_option maxHeartbeats 8000000 in
theorem closeC (W0 : World) {nx : Nat} {H : Heap} {b2 b3 b5 b6 : Nat} {lv : Value} {ss : List (ByteArray × Int)} {a : Aut} (r : R4) (hc : Ctx H b2 b3 b5 b6 lv a.N a.G) (hl : SymsAt H lv ss) (hss : ss.length ≤ 1000) :
  ACalls Tryz.prog W0 38 [.agg (e4 r).toArray, .pointer (some ⟨b5, 0, none⟩), .pointer (some ⟨b6, 0, none⟩), .pointer (some ⟨b3, 0, none⟩)] nx H fun v nx' H' => v = .bool (okC ss a r) ∧ Ext nx H nx' H' := by
 refine ACalls.by_trip (fn := Tryz.f38) (c := _) Tryz.func38 rfl (fun tm n hn0 htm => ?_)
 have e0 : tm 0 = .agg (e4 r).toArray := htm 0
 have e1 : tm 1 = .pointer (some ⟨b5, 0, none⟩) := htm 1
 have e2 : tm 2 = .pointer (some ⟨b6, 0, none⟩) := htm 2
 have e3 : tm 3 = .pointer (some ⟨b3, 0, none⟩) := htm 3
 clear htm
 replace hn0 : n = 29 := hn0
 refine Trip.ok fun hok => ?_
 replace hok : ∀ id o, H id = some o → id < nx := hok
 refine Trip.seq ?_
 refine Trip.ops ?_
 refine OpsL.new (by subst_vars; decide) (aop_box (by simp only [ASt.ev, tmPut, ↓reduceIte, Nat.reduceEqDiff, *]; rfl)) ?_
 obtain ⟨F, hF⟩ : ∃ F, F = H.put nx (.cells (Value.agg (e4 r).toArray).cells.toList 0 none false (some 46)) := ⟨_, rfl⟩
 have hx0 : Ext nx H (nx + 1) F := by rw [hF]; exact Ext.newPut
 have hFn : F nx = some (.cells (e4 r) 0 none false (some 46)) := by rw [hF, Heap.put_eq]; rfl
 obtain ⟨c2, cN, cG, c5, c6⟩ := hc.ext hx0 hok
 replace hl := hl.ext hx0 hok
 have g0 : cellAt F ⟨nx, 0, none⟩ (.int .i64 r.1) := cell_of hFn rfl
 have g1 : cellAt F ⟨nx, 1, none⟩ (.int .i64 r.2.1) := cell_of hFn rfl
 have g2 : cellAt F ⟨nx, 2, none⟩ (.int .i64 r.2.2.1) := cell_of hFn rfl
 have g3 : cellAt F ⟨nx, 3, none⟩ (.int .i64 r.2.2.2) := cell_of hFn rfl
 rw [← hF]
 clear hF
 repeat (first | (refine OpsL.q (by first | exact oasg | exact ofa | exact old) ?_) | refine Trip.seq ?_ | refine Trip.ops ?_ | (refine OpsL.nil ?_; (change Trip _ _ _ _ _)))
 refine OpsL.callV1 (cap := #[.pointer (some ⟨b3, 0, none⟩)]) (by subst_vars; decide) (by simp only [ASt.ev, tmPut, ↓reduceIte, Nat.reduceEqDiff, *]; done) (by simp only [ASt.ev, tmPut, ↓reduceIte, Nat.reduceEqDiff, *]; rfl) entersState (stateC W0 _ cN) ?_
 rintro v2 n2 H2 ⟨rfl, rfl, rfl⟩
 cases hs1 : stF a.N r.1
 ·repeat' (first | (refine OpsL.q (by first | exact omv | exact oasg | exact opkF) ?_) | (refine Trip.ret ?_; (dsimp only)) | (refine OpsL.nil ?_; (change Trip _ _ _ _ _)) | refine OpsL.skp ?_)
  exact ⟨.inr rfl, _, res_tmp, by simp [tmPut, okC, *], hx0⟩
 repeat' (first | (refine OpsL.q (by first | exact omv | exact ofa | exact old) ?_) | refine OpsL.ung ?_)
 refine OpsL.callV2 (cap := #[.pointer (some ⟨b2, 0, none⟩)]) (by subst_vars; decide) (by simp only [ASt.ev, tmPut, ↓reduceIte, Nat.reduceEqDiff, *]; done) (by simp only [ASt.ev, tmPut, ↓reduceIte, Nat.reduceEqDiff, *]; rfl) (by simp only [ASt.ev, tmPut, ↓reduceIte, Nat.reduceEqDiff, *]; rfl) entersKind (kindC W0 _ _ c2 hl hss) ?_
 rintro v2 n2 H2 ⟨rfl, rfl, rfl⟩
 cases hs2 : kdF ss r.2.1 2
 ·repeat' (first | (refine OpsL.q (by first | exact omv | exact oasg | exact opkT | exact opkF) ?_) | (refine Trip.ret ?_; (dsimp only)) | (refine OpsL.nil ?_; (change Trip _ _ _ _ _)) | refine OpsL.skp ?_)
  exact ⟨.inr rfl, _, res_tmp, by simp [tmPut, okC, *], hx0⟩
 repeat' (first | (refine OpsL.q (by first | exact omv | exact ofa | exact old | exact opkT) ?_) | refine OpsL.ung ?_)
 refine OpsL.callV1 (cap := #[.pointer (some ⟨b3, 0, none⟩)]) (by subst_vars; decide) (by simp only [ASt.ev, tmPut, ↓reduceIte, Nat.reduceEqDiff, *]; done) (by simp only [ASt.ev, tmPut, ↓reduceIte, Nat.reduceEqDiff, *]; rfl) entersState (stateC W0 _ cN) ?_
 rintro v2 n2 H2 ⟨rfl, rfl, rfl⟩
 cases hs3 : stF a.N r.2.2.2
 ·repeat' (first | (refine OpsL.q (by first | exact omv | exact oasg | exact opkT | exact opkF) ?_) | (refine Trip.ret ?_; (dsimp only)) | (refine OpsL.nil ?_; (change Trip _ _ _ _ _)) | refine OpsL.skp ?_)
  exact ⟨.inr rfl, _, res_tmp, by simp [tmPut, okC, *], hx0⟩
 repeat' (first | (refine OpsL.q (by first | exact omv | exact ofa | exact old | exact opkT) ?_) | refine OpsL.ung ?_)
 refine OpsL.c3 (hf := entersBetween) (hc := (betweenC W0 _ _ _)) (h := ?_)
 rintro v2 n2 H2 ⟨rfl, rfl, rfl⟩
 repeat' (first | (refine OpsL.q (by first | exact oasg | exact opkT) ?_) | (refine Trip.ret ?_; (dsimp only)) | (refine OpsL.nil ?_; (change Trip _ _ _ _ _)))
 exact ⟨.inr rfl, _, res_tmp, by simp [tmPut, okC, *], hx0⟩
set_option maxRecDepth 20000 in
set_option maxHeartbeats 8000000 in
theorem stayC (W0 : World) {nx : Nat} {H : Heap} {b2 b3 b5 b6 : Nat} {lv : Value} {ss : List (ByteArray × Int)} {a : Aut} (r : R3) (hc : Ctx H b2 b3 b5 b6 lv a.N a.G) (hl : SymsAt H lv ss) (hss : ss.length ≤ 1000) :
  ACalls Tryz.prog W0 39 [.agg (e3 r).toArray, .pointer (some ⟨b5, 0, none⟩), .pointer (some ⟨b6, 0, none⟩)] nx H fun v nx' H' => v = .bool (okI ss a r) ∧ Ext nx H nx' H' := by
 refine ACalls.by_trip (fn := Tryz.f39) (c := _) Tryz.func39 rfl (fun tm n hn0 htm => ?_)
 have e0 : tm 0 = .agg (e3 r).toArray := htm 0
 have e1 : tm 1 = .pointer (some ⟨b5, 0, none⟩) := htm 1
 have e2 : tm 2 = .pointer (some ⟨b6, 0, none⟩) := htm 2
 clear htm
 replace hn0 : n = 21 := hn0
 refine Trip.ok fun hok => ?_
 replace hok : ∀ id o, H id = some o → id < nx := hok
 refine Trip.seq ?_
 refine Trip.ops ?_
 refine OpsL.new (by subst_vars; decide) (aop_box (by simp only [ASt.ev, tmPut, ↓reduceIte, Nat.reduceEqDiff, *]; rfl)) ?_
 obtain ⟨F, hF⟩ : ∃ F, F = H.put nx (.cells (Value.agg (e3 r).toArray).cells.toList 0 none false (some 48)) := ⟨_, rfl⟩
 have hx0 : Ext nx H (nx + 1) F := by rw [hF]; exact Ext.newPut
 have hFn : F nx = some (.cells (e3 r) 0 none false (some 48)) := by rw [hF, Heap.put_eq]; rfl
 obtain ⟨c2, cN, cG, c5, c6⟩ := hc.ext hx0 hok
 replace hl := hl.ext hx0 hok
 have g0 : cellAt F ⟨nx, 0, none⟩ (.int .i64 r.1) := cell_of hFn rfl
 have g1 : cellAt F ⟨nx, 1, none⟩ (.int .i64 r.2.1) := cell_of hFn rfl
 have g2 : cellAt F ⟨nx, 2, none⟩ (.int .i64 r.2.2) := cell_of hFn rfl
 rw [← hF]
 clear hF
 repeat (first | (refine OpsL.q (by first | exact oasg | exact ofa | exact old) ?_) | refine Trip.seq ?_ | refine Trip.ops ?_ | (refine OpsL.nil ?_; (change Trip _ _ _ _ _)))
 refine OpsL.callV1 (cap := #[.pointer (some ⟨b3, 0, none⟩)]) (by subst_vars; decide) (by simp only [ASt.ev, tmPut, ↓reduceIte, Nat.reduceEqDiff, *]; done) (by simp only [ASt.ev, tmPut, ↓reduceIte, Nat.reduceEqDiff, *]; rfl) entersState (stateC W0 _ cN) ?_
 rintro v2 n2 H2 ⟨rfl, rfl, rfl⟩
 cases hs1 : stF a.N r.1
 ·repeat' (first | (refine OpsL.q (by first | exact omv | exact oasg | exact opkF) ?_) | (refine Trip.ret ?_; (dsimp only)) | (refine OpsL.nil ?_; (change Trip _ _ _ _ _)) | refine OpsL.skp ?_)
  exact ⟨.inr rfl, _, res_tmp, by simp [tmPut, okI, *], hx0⟩
 repeat' (first | (refine OpsL.q (by first | exact omv | exact ofa | exact old) ?_) | refine OpsL.ung ?_)
 refine OpsL.callV2 (cap := #[.pointer (some ⟨b2, 0, none⟩)]) (by subst_vars; decide) (by simp only [ASt.ev, tmPut, ↓reduceIte, Nat.reduceEqDiff, *]; done) (by simp only [ASt.ev, tmPut, ↓reduceIte, Nat.reduceEqDiff, *]; rfl) (by simp only [ASt.ev, tmPut, ↓reduceIte, Nat.reduceEqDiff, *]; rfl) entersKind (kindC W0 _ _ c2 hl hss) ?_
 rintro v2 n2 H2 ⟨rfl, rfl, rfl⟩
 cases hs2 : kdF ss r.2.1 3
 ·repeat' (first | (refine OpsL.q (by first | exact omv | exact oasg | exact opkT | exact opkF) ?_) | (refine Trip.ret ?_; (dsimp only)) | (refine OpsL.nil ?_; (change Trip _ _ _ _ _)) | refine OpsL.skp ?_)
  exact ⟨.inr rfl, _, res_tmp, by simp [tmPut, okI, *], hx0⟩
 repeat' (first | (refine OpsL.q (by first | exact omv | exact ofa | exact old | exact opkT) ?_) | refine OpsL.ung ?_)
 refine OpsL.callV1 (cap := #[.pointer (some ⟨b3, 0, none⟩)]) (by subst_vars; decide) (by simp only [ASt.ev, tmPut, ↓reduceIte, Nat.reduceEqDiff, *]; done) (by simp only [ASt.ev, tmPut, ↓reduceIte, Nat.reduceEqDiff, *]; rfl) entersState (stateC W0 _ cN) ?_
 rintro v2 n2 H2 ⟨rfl, rfl, rfl⟩
 cases hs3 : stF a.N r.2.2
 all_goals
  repeat' (first | (refine OpsL.q (by first | exact oasg | exact opkT) ?_) | (refine Trip.ret ?_; (dsimp only)) | (refine OpsL.nil ?_; (change Trip _ _ _ _ _)))
  exact ⟨.inr rfl, _, res_tmp, by simp [tmPut, okI, *], hx0⟩
end Go.Proofs.YtjohiaoepbnicaaGreat
namespace Go.Am
set_option linter.unusedSimpArgs false
set_option linter.unusedVariables false
open Go.RowKit
section
variable {P : Program} {W0 : World} {ops : Array Oper} {acts : List Nat} {K : Nat → Heap → Prop}
structure RInvW (P : Program) (ops : Array Oper) (acts : List Nat) (K : Nat → Heap → Prop) (D L : List Nat) (listed : Array Bool) (tm T : Nat → Value) (n : Nat) (H : Heap) (nx : Nat) : Prop where
 size : listed.size = ops.size
 down : ∀ (i : Nat) (o : Oper), ops[i]? = some o → listed.getD i false = true → ∀ j, dep o j → listed.getD j false = true
 unl : ∀ i ∈ L, listed.getD i false = false
 all : ∀ i, i < ops.size → i ∈ D ∨ i ∈ L
 disj : ∀ p ∈ D, ∀ i ∈ L, p ≠ i
 topo : ∀ p ∈ D, ∀ i ∈ L, depD ops p i = false
 nd : L.Nodup
 lt : ∀ i ∈ L, i < ops.size
 pend : ∀ i ∈ D, listed.getD i false = false → ∃ o, ops[i]? = some o ∧ Pend P ops acts K L T n H nx i o
 eqv : ∀ t, (∀ (i : Nat) (o : Oper), ops[i]? = some o → i ∈ D → listed.getD i false = false → o.dst ≠ some t) → tm t = T t
 actl : ∀ p ∈ D, acts.contains p = true → listed.getD p false = true
variable {D L : List Nat} {listed : Array Bool} {tm T : Nat → Value} {n nx : Nat} {H : Heap}
theorem ActStep.walk {i : Nat} {o : Oper} {st : ASt} {N : ASt → Prop} (ho : ops[i]? = some o) (he : acts.contains i = true) (h : OpsL P W0 ops [o] st fun s => K s.nx s.H ∧ N s) : ActStep P W0 ops acts K i st N := by
 obtain ⟨hd, h⟩ := h
 refine ⟨o, ho, hd, he, ?_⟩
 rcases h with ⟨hw, h⟩ | ⟨hw, ⟨v, e, hop, h⟩ | ⟨f, args, R, hc, hf, hcall, h⟩⟩
 ·exact .inl ⟨hw, h.2⟩
 ·exact .inr ⟨hw, .inl ⟨v, e, hop, h.1, h.2⟩⟩
 ·exact .inr ⟨hw, .inr ⟨f, args, R, hc, hf, hcall, fun v nx' H' hr => h v nx' H' hr⟩⟩
end
end Go.Am
namespace Go.Am
open Go.RowKit
section
variable {P : Program} {W0 : World} {ops : Array Oper} {acts : List Nat} {K : Nat → Heap → Prop}
theorem ActStep.skip {i j : Nat} {d d' : Tmp} {op : Op} {type : TypeId} {pos : String} {after : Array Edge} {tm : Nat → Value} {n nx : Nat} {H : Heap} {N : ASt → Prop} {want : Bool} (ho : ops[i]? = some ⟨some d, op, type, pos, after, some (j, want)⟩) (he : acts.contains i = true) (hd : d < n)
  (hj : (ops[j]?).bind (·.dst) = some d') (hb : tm d' = .bool (!want)) (h : N ⟨tmPut tm (some d) undef, n, H, nx⟩) : ActStep P W0 ops acts K i ⟨tm, n, H, nx⟩ N :=
 ⟨_, ho, by simp [dstOk, hd], he, .inl ⟨by cases want <;> simp [wants, hj, hb], h⟩⟩
end
theorem setc_allN {H : Heap} {b e : Nat} {c vs : List Value} {t : Option Nat} {q : Option TypeId} (h : H b = some (.cells c e t false q)) (hl : vs.length = c.length) (ho : vs.all (·.oneCell') = true) : setc H ⟨b, 0, t⟩ vs = some (.cells vs e t false q) := by
 unfold setc
 simp only [h]
 rw [if_pos ⟨trivial, by omega, trivial, ho⟩]
 simp [hl]
end Go.Am
namespace Go.Am
set_option linter.unusedSimpArgs false
set_option linter.unusedVariables false
open Go.RowKit
section
variable {P : Program} {W0 : World} {H : Heap} {nx n : Nat} {ev : Operand → Option Value} {dst : Option Tmp} {type : TypeId} {pos : String} {after : Array Edge} {guard : Option (Nat × Bool)}
theorem aop_append_e {b m sz bytes : Nat} {el : TypeId} {u : Value} {xs z : List Value} {q : Option TypeId} {ro : Bool} {esz : Nat} {x y : Operand} {st xt : TypeId} {xd : TypeDesc} (hx : ev x = some (.slice (some ⟨b, 0, none⟩) 0 0)) (hy : ev y = some u)
  (hH : H b = some (.cells [] esz none ro q))
  (hs : source H sz u none = some (m, xs)) (h1 : xs.all (·.oneCell') = true) (hm : m ≠ 0) (hst : P.underlying st = some (.slice el)) (hxt : P.underlying xt = some xd) (hxd : notInt xd = true)
  (hsz : szOf P el = some sz) (hby : bytesOfT P el = some bytes) (hz : zeroOf P el = some z) (hzl : z.length = sz) (hle : m ≤ 1099511627776) (hle2 : (2 * m + 192) * bytes ≤ 281474976710656) :
  aop P H nx ev ⟨dst, .call ⟨.builtin .append, #[x, y], #[st, xt]⟩, type, pos, after, guard⟩ = some (.slice (some ⟨nx, 0, some nx⟩) m m, .new (.cells xs sz (some nx) false (some el))) := by
 have hg : getc H ⟨b, 0, none⟩ 0 = some [] := by
  unfold getc
  simp only [hH]
  rw [if_pos ⟨trivial, by simp⟩]
  simp
 simp [aop, hx, hy, evAll, aBuiltin, aAppend, hst, hxt, hsz, hby, hz, hxd, hzl, hs, hm, hH, hle, hle2, hg]
 rw [if_pos (by simpa using h1)]
theorem aop_append_en {b sz bytes : Nat} {el : TypeId} {u : Value} {cs xs z : List Value} {q : Option TypeId} {tg : Option Nat} {ro : Bool} {esz : Nat} {x y : Operand} {st xt : TypeId} {xd : TypeDesc} (hx : ev x = some (.slice (some ⟨b, 0, tg⟩) 0 0)) (hy : ev y = some u)
  (hH : H b = some (.cells cs esz tg ro q))
  (hs : source H sz u none = some (0, xs)) (h1 : xs.all (·.oneCell') = true) (hst : P.underlying st = some (.slice el)) (hxt : P.underlying xt = some xd) (hxd : notInt xd = true)
  (hsz : szOf P el = some sz) (hby : bytesOfT P el = some bytes) (hz : zeroOf P el = some z) (hzl : z.length = sz) :
  aop P H nx ev ⟨dst, .call ⟨.builtin .append, #[x, y], #[st, xt]⟩, type, pos, after, guard⟩ = some (.slice (some ⟨b, 0, tg⟩) 0 0, .none) := by
 simp [aop, hx, hy, evAll, aBuiltin, aAppend, hst, hxt, hsz, hby, hz, hxd, hzl, hs, hH]
 rw [if_pos (by simpa using h1)]
end
def RowE {α : Type} (enc : α → List Value) (sz : Nat) (el : TypeId) (H : Heap) (ob : Option (Nat × Nat)) (v : Value) (l : List α) : Prop :=
 OwnOf enc sz el H ob v l ∨ (ob = none ∧ l = [] ∧ ∃ b esz ro q, v = .slice (some ⟨b, 0, none⟩) 0 0 ∧ H b = some (.cells [] esz none ro q))
theorem RowE.at {α : Type} {enc : α → List Value} {sz : Nat} {el : TypeId} {H : Heap} {ob : Option (Nat × Nat)} {v : Value} {l : List α} (hk : ∀ x, (enc x).length = sz) (h : RowE enc sz el H ob v l) : RowsAt enc sz H v l := by
 rcases h with h | ⟨_, rfl, b, esz, ro, q, rfl, _⟩
 ·exact h.at hk
 ·exact .inr ⟨_, 0, rfl, fun i hi => absurd hi (by simp)⟩
structure AppE {α : Type} (enc : α → List Value) (sz : Nat) (el : TypeId) (nx : Nat) (H : Heap) (ob : Option (Nat × Nat)) (l : List α) (v' : Value) (nx' : Nat) (H' : Heap) (ob' : Option (Nat × Nat)) : Prop where
 own : RowE enc sz el H' ob' v' l
 blk : ∀ b' t', ob' = some (b', t') → b' < nx' ∧ (b' = nx ∨ ∃ t, ob = some (b', t))
 le : nx ≤ nx'
 same : ∀ i, i < nx → (∀ b t, ob = some (b, t) → i ≠ b) → H' i = H i
 ok : (∀ b t, ob = some (b, t) → b < nx) → (∀ id o, H id = some o → id < nx) → ∀ id o, H' id = some o → id < nx'
attribute [local irreducible] aop OpsL Trip blockExit OpsD OpsK OpsR
section
variable {P : Program} {W0 : World} {H : Heap} {nx n : Nat} {type : TypeId} {pos : String} {after : Array Edge} {ops : Array Oper} {l : List Oper} {tm : Nat → Value} {QQ : ASt → Prop} {d : Tmp}
theorem OpsL.appendE {α : Type} {enc : α → List Value} {sz bytes : Nat} {z : List Value} {el st xt : TypeId} {ob : Option (Nat × Nat)} {v u : Value} {zs us : List α} {x y : Operand} (hk : ∀ x, (enc x).length = sz) (h1 : ∀ x, (enc x).all (·.oneCell') = true) (h0 : 0 < sz) (hd : d < n) (h : RowE enc sz el H ob v zs) (hu : RowsAt enc sz H u us) (hx : ASt.ev ⟨tm, n, H, nx⟩ x = some v) (hy : ASt.ev ⟨tm, n, H, nx⟩ y = some u) (hb : ∀ b t, ob = some (b, t) → b < nx)
  (hst : P.underlying st = some (.slice el)) (hxt : P.underlying xt = some (.slice el)) (hsz : szOf P el = some sz) (hby : bytesOfT P el = some bytes) (hz : zeroOf P el = some z) (hzl : z.length = sz) (hle : zs.length + us.length ≤ 1000000) (hbl : bytes ≤ 1000)
  (hc : ∀ v' nx' H' ob', AppE enc sz el nx H ob (zs ++ us) v' nx' H' ob' → OpsL P W0 ops l ⟨tmPut tm (some d) v', n, H', nx'⟩ QQ) :
  OpsL P W0 ops (⟨some d, .call ⟨.builtin .append, #[x, y], #[st, xt]⟩, type, pos, after, none⟩ :: l) ⟨tm, n, H, nx⟩ QQ := by
 rcases h with h | ⟨rfl, rfl, b, esz, ro, q, rfl, hH⟩
 ·exact OpsL.appendO hk h1 h0 hd h hu hx hy hb hst hxt hsz hby hz hzl hle hbl fun v' nx' H' ob' hA => hc v' nx' H' ob' ⟨.inl hA.own, hA.blk, hA.le, hA.same, hA.ok⟩
 ·have hsrc := rows_src hk h0 hu
  have hall : (us.flatMap enc).all (·.oneCell') = true := by
   rw [List.all_eq_true]
   intro v hv
   obtain ⟨x, _, hx⟩ := List.mem_flatMap.1 hv
   exact List.all_eq_true.1 (h1 x) v hx
  by_cases hl0 : us.length = 0
  ·have : us = [] := List.eq_nil_of_length_eq_zero hl0
   subst this
   refine OpsL.p hd (aop_append_en hx hy hH hsrc hall hst hxt rfl hsz hby hz hzl) (hc _ _ _ none ⟨.inr ⟨rfl, rfl, b, esz, ro, q, rfl, hH⟩, fun b' t' e => (by cases e), Nat.le_refl _, fun _ _ _ => rfl, fun _ h => h⟩)
  ·have hm1 : (2 * us.length + 192) * bytes ≤ 281474976710656 := by
    simp only [List.length_nil, Nat.zero_add] at hle
    have : (2 * us.length + 192) * bytes ≤ (2 * us.length + 192) * 1000 := Nat.mul_le_mul_left _ hbl
    omega
   refine OpsL.new hd (aop_append_e hx hy hH hsrc hall hl0 hst hxt rfl hsz hby hz hzl (by simp at hle; omega) hm1) (hc _ _ _ (some (nx, nx)) ⟨.inl ⟨rfl, by rw [List.nil_append, flat_len hk], [], by rw [Heap.put_eq, List.append_nil, List.nil_append]⟩, fun b' t' e => ?_, Nat.le_succ _, fun i hi _ => Heap.put_ne (by omega), fun _ hok => ok_new hok⟩)
   cases e
   exact ⟨Nat.lt_succ_self _, .inl rfl⟩
end
def encN (x : Int) : List Value := [.int .i64 x]
theorem encN_len (x : Int) : (encN x).length = 1 := rfl
theorem encN_one (x : Int) : (encN x).all (·.oneCell') = true := rfl
theorem ints_rowsN {H : Heap} {v : Value} {l : List Int} (h : IntsAt H v l) : RowsAt encN 1 H v l := by
 rcases h with h | ⟨a, c, rfl, hc⟩
 ·exact .inl h
 ·exact .inr ⟨a, c, rfl, fun i hi => by have := hc i hi; simpa [cellAt, encN] using this⟩
theorem rows_intsN {H : Heap} {v : Value} {l : List Int} (h : RowsAt encN 1 H v l) : IntsAt H v l := by
 rcases h with h | ⟨a, c, rfl, hc⟩
 ·exact .inl h
 ·exact .inr ⟨a, c, rfl, fun i hi => by have := hc i hi; simpa [cellAt, encN] using this⟩
def AppI (H : Heap) (ob : Option (Nat × Nat)) (el : TypeId) (v : Value) (xs : List Int) : Prop :=
 OwnInts H ob el v xs ∨ ∃ b t, ob = some (b, t) ∧ v = .slice (some ⟨b, 0, none⟩) xs.length xs.length ∧ xs ≠ [] ∧ H b = some (.cells (xs.map (.int .i64 ·)) 1 none false (some el))
theorem AppI.same {H H' : Heap} {ob : Option (Nat × Nat)} {el : TypeId} {v : Value} {xs : List Int} (hs : ∀ b t, ob = some (b, t) → H' b = H b) (h : AppI H ob el v xs) : AppI H' ob el v xs := by
 rcases h with h | ⟨b, t, rfl, h1, h2, h3⟩
 ·left
  cases ob with
  | none => exact h
  | some bt =>
   obtain ⟨b, t⟩ := bt
   obtain ⟨h1, h2, rest, h3⟩ := h
   exact ⟨h1, h2, rest, by rw [hs b t rfl]; exact h3⟩
 ·exact .inr ⟨b, t, rfl, h1, h2, by rw [hs b t rfl]; exact h3⟩
theorem AppI.at {H : Heap} {ob : Option (Nat × Nat)} {el : TypeId} {v : Value} {xs : List Int} (h : AppI H ob el v xs) : IntsAt H v xs := by
 rcases h with h | ⟨b, t, rfl, rfl, h2, h3⟩
 ·exact OwnInts.at h
 ·exact NumsAt.own (rest := []) (by rw [List.append_nil]; exact h3)
section
variable {P : Program} {W0 : World} {H : Heap} {nx n : Nat} {ev : Operand → Option Value} {dst : Option Tmp} {type : TypeId} {pos : String} {after : Array Edge} {guard : Option (Nat × Bool)}
theorem aop_append_full {b k m sz bytes : Nat} {el : TypeId} {u : Value} {cs xs z : List Value} {q : Option TypeId} {ro : Bool} {esz : Nat} {x y : Operand} {st xt : TypeId} {xd : TypeDesc} (hx : ev x = some (.slice (some ⟨b, 0, none⟩) k k)) (hy : ev y = some u)
  (hH : H b = some (.cells cs esz none ro q)) (hc : cs.length = k * sz)
  (hs : source H sz u none = some (m, xs)) (h1 : xs.all (·.oneCell') = true) (hm : m ≠ 0) (hst : P.underlying st = some (.slice el)) (hxt : P.underlying xt = some xd) (hxd : notInt xd = true)
  (hsz : szOf P el = some sz) (hby : bytesOfT P el = some bytes) (hz : zeroOf P el = some z) (hzl : z.length = sz) (hle : k + m ≤ 1099511627776) (hle2 : (2 * (k + m) + 192) * bytes ≤ 281474976710656) :
  aop P H nx ev ⟨dst, .call ⟨.builtin .append, #[x, y], #[st, xt]⟩, type, pos, after, guard⟩ = some (.slice (some ⟨nx, 0, some nx⟩) (k + m) (k + m), .new (.cells (cs ++ xs) sz (some nx) false (some el))) := by
 have hg : getc H ⟨b, 0, none⟩ (k * sz) = some cs := by
  unfold getc
  simp only [hH]
  rw [if_pos ⟨trivial, by omega⟩]
  simp [← hc]
 simp [aop, hx, hy, evAll, aBuiltin, aAppend, hst, hxt, hsz, hby, hz, hxd, hzl, hs, hm, hH, hle, hle2, hg]
 rw [if_pos (by simpa using h1), if_neg (by omega : ¬ (k + m ≤ k))]
end
section
variable {P : Program} {W0 : World} {H : Heap} {nx n : Nat} {ops : Array Oper} {l : List Oper} {tm : Nat → Value} {QQ : ASt → Prop}
theorem OpsL.appendA {d1 d2 dy : Tmp} {x : Operand} {st el ty1 ty2 : TypeId} {p1 p2 : String} {af1 af2 : Array Edge} {a : Int} {v : Value} {ob : Option (Nat × Nat)} {xs : List Int}
  (hd1 : d1 < n) (hd2 : d2 < n) (hx : ASt.ev ⟨tm, n, H, nx⟩ x = some (.int .i64 a)) (hne : dy ≠ d1) (hy : tm dy = v) (hv : AppI H ob el v xs) (hob : ∀ b t, ob = some (b, t) → b < nx)
  (hst : P.underlying st = some (.slice el)) (hsz : szOf P el = some 1) (hby : bytesOfT P el = some 8) (hz : zeroOf P el = some [.int .i64 0]) (hle : xs.length ≤ 1000000000)
  (h : ∀ v' ob' H', OwnInts H' ob' el v' (xs ++ [a]) → (∃ b, ob' = some (b, nx + 1) ∧ (b = nx + 1 ∨ ∃ t, ob = some (b, t))) → (∀ k, k < nx → (∀ b t, ob = some (b, t) → k ≠ b) → H' k = H k) →
   OpsL P W0 ops l ⟨tmPut (tmPut tm (some d1) (.slice (some ⟨nx, 0, none⟩) 1 1)) (some d2) v', n, H', nx + 1 + 1⟩ QQ) :
  OpsL P W0 ops (⟨some d1, .buildSlice st 1 #[(0, x)], ty1, p1, af1, none⟩ :: ⟨some d2, .call ⟨.builtin .append, #[.tmp dy, .tmp d1], #[st, st]⟩, ty2, p2, af2, none⟩ :: l) ⟨tm, n, H, nx⟩ QQ := by
 rcases hv with hv | ⟨b, t, rfl, rfl, hne0, hH⟩
 ·exact OpsL.appendI hd1 hd2 hx hne hy hv hob hst hsz hby hz hle h
 ·have hb := hob b t rfl
  refine OpsL.new hd1 (aop_buildSlice1 hx hst hsz hz) ?_
  refine OpsL.new hd2 (aop_append_full (b := b) (sz := 1) (bytes := 8) (k := xs.length) (m := 1) (cs := xs.map (.int .i64 ·)) (xs := [.int .i64 a]) (u := .slice (some ⟨nx, 0, none⟩) 1 1) (xd := .slice el) (by simp [ASt.ev, tmPut, hne, hy]) (by simp [ASt.ev, tmPut])
   (by rw [Heap.put_ne (show b ≠ nx by omega)]; exact hH) (by simp) (source_own (by exact Heap.put_eq) rfl (by omega)) rfl (by omega) hst hst rfl hsz hby hz rfl (by omega) (by omega)) ?_
  refine h _ (some (nx + 1, nx + 1)) _ ⟨by simp, by simp, [], ?_⟩ ⟨_, rfl, .inl rfl⟩ ?_
  ·rw [Heap.put_eq]; simp
  ·intro k hk _
   rw [Heap.put_ne (by omega), Heap.put_ne (by omega)]
end
end Go.Am
namespace Go.Am
set_option linter.unusedSimpArgs false
set_option linter.unusedVariables false
open Go.RowKit
abbrev Thg := Int × Int
def encT (t : Thg) : List Value := [.int .i64 t.1, .int .i64 t.2]
theorem encT_len (t : Thg) : (encT t).length = 2 := rfl
theorem encT_one (t : Thg) : (encT t).all (·.oneCell') = true := rfl
def thV (t : Thg) : Value := .agg (encT t).toArray
def needsT (m : R4) : List Thg := [(0, m.1), (1, m.2.1)]
def givesT (m : R4) : List Thg := [(0, m.2.2.1), (1, m.2.2.2)]
def moveO (r : R4) : R4 := (r.1, 0, r.2.2.1, r.2.2.2)
def moveC (r : R4) : R4 := (r.1, r.2.2.1, r.2.2.2, 0)
def moveN (r : R3) : R4 := (r.1, 0, r.2.2, 0)
def movesA (a : Aut) : List R4 := a.opens.map moveO ++ a.closes.map moveC ++ a.inners.map moveN
def twoV (p : List Thg) : List Value := p.flatMap encT
section
variable {P : Program} {H : Heap} {nx : Nat} {ev : Operand → Option Value} {dst : Option Tmp} {type : TypeId} {pos : String} {after : Array Edge} {guard : Option (Nat × Bool)}
theorem aop_lookup3 {t : TypeId} {x i : Operand} {ok : Bool} {v k r : Value} (hx : ev x = some v) (hi : ev i = some k) (h : aLookup P H t v k ok = some r) : aop P H nx ev ⟨dst, .lookup t x i ok, type, pos, after, guard⟩ = some (r, .none) := by simp [aop, hx, hi, h]
theorem aop_mapUpdate3 {t : TypeId} {m k x : Operand} {a b c : Value} {e : Eff} (hm : ev m = some a) (hk : ev k = some b) (hx : ev x = some c) (h : aMapUpdate P H t a b c = some e) : aop P H nx ev ⟨dst, .mapUpdate t m k x, type, pos, after, guard⟩ = some (undef, e) := by simp [aop, hm, hk, hx, h]
theorem aop_makeMap3 {t : TypeId} : aop P H nx ev ⟨dst, .makeMap t none, type, pos, after, guard⟩ = some (.map (some nx), .new (.map [] [] 0)) := by simp [aop, evOpt, aMakeMap]
theorem aop_index3 {t e : TypeId} {x i : Operand} {cs : Array Value} {len : Nat} {k : IntKind} {j : Int} {sz : Nat} {v : Value} (hx : ev x = some (.agg cs)) (hi : ev i = some (.int k j)) (hu : P.underlying t = some (.array len e)) (hs : szOf P e = some sz) (h0 : 0 ≤ j) (h1 : j < len) (hv : getPart P e cs.toList (j.toNat * sz) = some v) :
  aop P H nx ev ⟨dst, .index t x i, type, pos, after, guard⟩ = some (v, .none) := by
 simp [aop, aIndex, hx, hi, hu, hs, h0, h1, hv]
end
end Go.Am
namespace Go.Proofs.YtjohiaoepbnicaaGreat
set_option linter.unusedSimpArgs false
set_option linter.unusedVariables false
open Go.RowKit Go.Am
attribute [local irreducible] aop OpsL Trip blockExit OpsD OpsK OpsR
theorem entersNeeds : Am.Enters Tryz.prog 79 := ⟨Tryz.f79, Tryz.func79, by kernel_rfl, by kernel_rfl⟩
theorem entersGives : Am.Enters Tryz.prog 62 := ⟨Tryz.f62, Tryz.func62, by kernel_rfl, by kernel_rfl⟩
theorem entersAllows : Am.Enters Tryz.prog 61 := ⟨Tryz.f61, Tryz.func61, by kernel_rfl, by kernel_rfl⟩
set_option maxRecDepth 20000 in
theorem thEq (H : Heap) (x y : Thg) : aEq Tryz.prog H 60 102 (thV x) (thV y) = some (decide (x = y)) := by
 have h1 : Tryz.prog.stoodInHeld 102 = false := by kernel_rfl
 obtain ⟨a, b⟩ := x
 obtain ⟨c, d⟩ := y
 have key : aEq Tryz.prog H 60 102 (thV (a, b)) (thV (c, d)) = some ((a == c) && (b == d)) := by
  cases h : (a == c) <;> cases h2 : (b == d) <;> simp [thV, encT, aEq, eqFields, getPart, isAggD, h, h2, h1, Tryz.underlying102, Tryz.underlying3]
 rw [key]
 congr 1
 rw [Bool.eq_iff_iff]
 simp
theorem find_none {v : Thg → Value} (H : Heap) (k : Thg) : ∀ (l : List Thg) (i : Nat), k ∉ l → aFind Tryz.prog H 102 (thV k) (l.map fun t => (thV t, v t)) i = some none := by
 intro l
 induction l with
 | nil => intro i _; rfl
 | cons t l ih =>
  intro i h
  simp only [List.mem_cons, not_or] at h
  simp only [List.map_cons, aFind, thEq, decide_eq_false h.1]
  exact ih (i + 1) h.2
theorem find_some {v : Thg → Value} (H : Heap) (k : Thg) : ∀ (l : List Thg) (i : Nat), k ∈ l → ∃ j, aFind Tryz.prog H 102 (thV k) (l.map fun t => (thV t, v t)) i = some (some (i + j, v k)) ∧ l[j]? = some k := by
 intro l
 induction l with
 | nil => intro i h; cases h
 | cons t l ih =>
  intro i h
  by_cases e : k = t
  ·subst e
   exact ⟨0, by simp only [List.map_cons, aFind, thEq, decide_true]; rfl, rfl⟩
  ·obtain ⟨j, h1, h2⟩ := ih (i + 1) ((List.mem_cons.1 h).resolve_left e)
   refine ⟨j + 1, ?_, h2⟩
   simp only [List.map_cons, aFind, thEq, decide_eq_false e]
   rw [h1]
   congr 3
   omega
theorem th_key (k : Thg) (H : Heap) : aCheckKey Tryz.prog 60 102 (thV k) = true ∧ keyOk H (thV k) = true ∧ plainKey (thV k) = true := ⟨by kernel_rfl, by kernel_rfl, by kernel_rfl⟩
def FoundAt (H : Heap) (v : Value) (F : List Thg) : Prop := ∃ m bs clk, v = .map (some m) ∧ H m = some (.map (F.map fun t => (thV t, .agg #[])) bs clk)
theorem FoundAt.ext {nx nx' : Nat} {H H' : Heap} {v : Value} {F : List Thg} (h : FoundAt H v F) (hx : Ext nx H nx' H') (hok : ∀ id o, H id = some o → id < nx) : FoundAt H' v F := by
 obtain ⟨m, bs, clk, h1, h2⟩ := h
 exact ⟨m, bs, clk, h1, by rw [hx.2 m (hok _ _ h2)]; exact h2⟩
set_option maxRecDepth 20000 in
theorem FoundAt.told {H : Heap} {v : Value} {F : List Thg} (h : FoundAt H v F) (k : Thg) : aLookup Tryz.prog H 55 v (thV k) true = some (.tuple #[.agg #[], .bool (decide (k ∈ F))]) := by
 obtain ⟨m, bs, clk, rfl, hm⟩ := h
 have hmo : mapOf H (.map (some m)) = some (F.map fun t => (thV t, .agg #[])) := by simp only [mapOf, hm]
 obtain ⟨c1, _, _⟩ := th_key k H
 unfold aLookup
 simp only [Tryz.underlying55, hmo, show zeroV Tryz.prog 104 = some (.agg #[]) from rfl, c1, show (Tryz.prog.underlying 102).isSome = true from rfl, and_self, if_true]
 by_cases hk : k ∈ F
 ·obtain ⟨j, h1, _⟩ := find_some (v := fun _ => .agg #[]) H k F 0 hk
  simp only [h1, hk, decide_true]
 ·simp only [find_none (v := fun _ => .agg #[]) H k F 0 hk, hk, decide_false]
set_option maxRecDepth 20000 in
theorem FoundAt.put {H : Heap} {m : Nat} {bs : List Nat} {clk : Nat} {F : List Thg} {k : Thg} (hm : H m = some (.map (F.map fun t => (thV t, .agg #[])) bs clk)) (hk : k ∉ F) :
  aMapUpdate Tryz.prog H 55 (.map (some m)) (thV k) (.agg #[]) = some (.upd m (.map ((F ++ [k]).map fun t => (thV t, .agg #[])) (bs ++ [clk]) (clk + 1))) := by
 obtain ⟨c1, c2, _⟩ := th_key k H
 unfold aMapUpdate
 simp only [Tryz.underlying55, hm, c1, c2, show (Tryz.prog.underlying 102).isSome = true from rfl, and_self, if_true, find_none (v := fun _ => .agg #[]) H k F 0 hk, List.map_append, List.map_cons, List.map_nil]
set_option maxRecDepth 20000 in
set_option maxHeartbeats 4000000 in
theorem needsC (W0 : World) {nx : Nat} {H : Heap} (m : R4) :
  ACalls Tryz.prog W0 79 [.agg (Go.Am.e4 m).toArray] nx H fun v nx' H' => v = .agg (twoV (needsT m)).toArray ∧ Ext nx H nx' H' := by
 refine ACalls.by_trip (fn := Tryz.f79) (c := _) Tryz.func79 rfl (fun tm n hn0 htm => ?_)
 have q0 : tm 0 = .agg (Go.Am.e4 m).toArray := htm 0
 clear htm
 replace hn0 : n = 10 := hn0
 refine Trip.seq ?_
 refine Trip.ops ?_
 refine OpsL.new (by subst_vars; decide) (aop_box (by simp only [ASt.ev, tmPut, ↓reduceIte, Nat.reduceEqDiff, *]; rfl)) ?_
 refine OpsL.new (by subst_vars; decide) (aop_alloc (l := rep 4 [.int .i64 0]) (by kernel_rfl)) ?_
 obtain ⟨G, hG⟩ : ∃ G, G = (H.put nx (.cells (Value.agg (Go.Am.e4 m).toArray).cells.toList 0 none false (some 107))).put (nx + 1) (.cells (rep 4 [.int .i64 0]) 0 none false (some 109)) := ⟨_, rfl⟩
 have hx0 : Ext nx H (nx + 1 + 1) G := by rw [hG]; exact Ext.newPut.trans Ext.newPut
 have gx : G nx = some (.cells (Go.Am.e4 m) 0 none false (some 107)) := by rw [hG, Heap.put_ne (by omega), Heap.put_eq]; rfl
 have gy : G (nx + 1) = some (.cells (rep 4 [.int .i64 0]) 0 none false (some 109)) := by rw [hG, Heap.put_eq]
 have c1 : cellAt G ⟨nx, 0, none⟩ (.int .i64 m.1) := by exact cell_of gx rfl
 have c2 : cellAt G ⟨nx, 0 + 1, none⟩ (.int .i64 m.2.1) := by rw [Nat.zero_add]; exact cell_of gx rfl
 rw [← hG]
 clear hG q0
 repeat (first | (refine OpsL.q (by first | exact ofa | exact old) ?_) | refine Trip.seq ?_ | refine Trip.ops ?_ | (refine OpsL.nil ?_; (change Trip _ _ _ _ _)))
 refine OpsL.q (aop_build (v := thV (0, m.1)) (l := [(0, .int .i64 0), (1, .int .i64 m.1)]) (by simp only [evParts, ASt.ev, tmPut, ↓reduceIte, reduceIte, Option.some.injEq, Nat.reduceEqDiff, plainC, plain1, *]) (by kernel_rfl)) ?_
 repeat (refine OpsL.q (by first | exact ofa | exact old) ?_)
 refine OpsL.q (aop_build (v := thV (1, m.2.1)) (l := [(0, .int .i64 1), (1, .int .i64 m.2.1)]) (by simp only [evParts, ASt.ev, tmPut, ↓reduceIte, reduceIte, Option.some.injEq, Nat.reduceEqDiff, plainC, plain1, *]) (by kernel_rfl)) ?_
 refine OpsL.q (aop_build (v := .agg (twoV (needsT m)).toArray) (l := [(0, thV (0, m.1)), (1, thV (1, m.2.1))]) (by simp only [evParts, ASt.ev, tmPut, ↓reduceIte, reduceIte, Option.some.injEq, Nat.reduceEqDiff, *]) (by kernel_rfl)) ?_
 refine OpsL.upd (aop_store (k := 4) (by simp only [ASt.ev, tmPut, ↓reduceIte, Nat.reduceEqDiff, *]; rfl) (by simp only [ASt.ev, tmPut, ↓reduceIte, Nat.reduceEqDiff, *]; rfl) (by exact rfl) rfl (o := .cells (twoV (needsT m)) 0 none false (some 109)) (setc_allN (vs := twoV (needsT m)) gy rfl rfl)) ?_
 repeat (first | (refine Trip.ret ?_; (dsimp only)) | (refine OpsL.nil ?_; (change Trip _ _ _ _ _)))
 have hrd : readAt Tryz.prog (G.put (nx + 1) (.cells (twoV (needsT m)) 0 none false (some 109))) 109 ⟨nx + 1, 0, none⟩ = some (.agg (twoV (needsT m)).toArray) := readAt_agg (k := 4) (by exact rfl) (by exact rfl) (by exact rfl) (getc_all Heap.put_eq rfl)
 exact ⟨.inr rfl, _, res_cell (a := ⟨nx + 1, 0, none⟩) (by simp [tmPut, *]) hrd, rfl, hx0.1, fun i hi => by show Heap.put G _ _ i = _; rw [Heap.put_ne (by omega)]; exact hx0.2 i hi⟩
set_option maxRecDepth 20000 in
set_option maxHeartbeats 4000000 in
theorem givesC (W0 : World) {nx : Nat} {H : Heap} (m : R4) :
  ACalls Tryz.prog W0 62 [.agg (Go.Am.e4 m).toArray] nx H fun v nx' H' => v = .agg (twoV (givesT m)).toArray ∧ Ext nx H nx' H' := by
 refine ACalls.by_trip (fn := Tryz.f62) (c := _) Tryz.func62 rfl (fun tm n hn0 htm => ?_)
 have q0 : tm 0 = .agg (Go.Am.e4 m).toArray := htm 0
 clear htm
 replace hn0 : n = 10 := hn0
 refine Trip.seq ?_
 refine Trip.ops ?_
 refine OpsL.new (by subst_vars; decide) (aop_box (by simp only [ASt.ev, tmPut, ↓reduceIte, Nat.reduceEqDiff, *]; rfl)) ?_
 refine OpsL.new (by subst_vars; decide) (aop_alloc (l := rep 4 [.int .i64 0]) (by kernel_rfl)) ?_
 obtain ⟨G, hG⟩ : ∃ G, G = (H.put nx (.cells (Value.agg (Go.Am.e4 m).toArray).cells.toList 0 none false (some 107))).put (nx + 1) (.cells (rep 4 [.int .i64 0]) 0 none false (some 109)) := ⟨_, rfl⟩
 have hx0 : Ext nx H (nx + 1 + 1) G := by rw [hG]; exact Ext.newPut.trans Ext.newPut
 have gx : G nx = some (.cells (Go.Am.e4 m) 0 none false (some 107)) := by rw [hG, Heap.put_ne (by omega), Heap.put_eq]; rfl
 have gy : G (nx + 1) = some (.cells (rep 4 [.int .i64 0]) 0 none false (some 109)) := by rw [hG, Heap.put_eq]
 have c1 : cellAt G ⟨nx, 0 + 2, none⟩ (.int .i64 m.2.2.1) := by rw [Nat.zero_add]; exact cell_of gx rfl
 have c2 : cellAt G ⟨nx, 0 + 3, none⟩ (.int .i64 m.2.2.2) := by rw [Nat.zero_add]; exact cell_of gx rfl
 rw [← hG]
 clear hG q0
 repeat (first | (refine OpsL.q (by first | exact ofa | exact old) ?_) | refine Trip.seq ?_ | refine Trip.ops ?_ | (refine OpsL.nil ?_; (change Trip _ _ _ _ _)))
 refine OpsL.q (aop_build (v := thV (0, m.2.2.1)) (l := [(0, .int .i64 0), (1, .int .i64 m.2.2.1)]) (by simp only [evParts, ASt.ev, tmPut, ↓reduceIte, reduceIte, Option.some.injEq, Nat.reduceEqDiff, plainC, plain1, *]) (by kernel_rfl)) ?_
 repeat (refine OpsL.q (by first | exact ofa | exact old) ?_)
 refine OpsL.q (aop_build (v := thV (1, m.2.2.2)) (l := [(0, .int .i64 1), (1, .int .i64 m.2.2.2)]) (by simp only [evParts, ASt.ev, tmPut, ↓reduceIte, reduceIte, Option.some.injEq, Nat.reduceEqDiff, plainC, plain1, *]) (by kernel_rfl)) ?_
 refine OpsL.q (aop_build (v := .agg (twoV (givesT m)).toArray) (l := [(0, thV (0, m.2.2.1)), (1, thV (1, m.2.2.2))]) (by simp only [evParts, ASt.ev, tmPut, ↓reduceIte, reduceIte, Option.some.injEq, Nat.reduceEqDiff, *]) (by kernel_rfl)) ?_
 refine OpsL.upd (aop_store (k := 4) (by simp only [ASt.ev, tmPut, ↓reduceIte, Nat.reduceEqDiff, *]; rfl) (by simp only [ASt.ev, tmPut, ↓reduceIte, Nat.reduceEqDiff, *]; rfl) (by exact rfl) rfl (o := .cells (twoV (givesT m)) 0 none false (some 109)) (setc_allN (vs := twoV (givesT m)) gy rfl rfl)) ?_
 repeat (first | (refine Trip.ret ?_; (dsimp only)) | (refine OpsL.nil ?_; (change Trip _ _ _ _ _)))
 have hrd : readAt Tryz.prog (G.put (nx + 1) (.cells (twoV (givesT m)) 0 none false (some 109))) 109 ⟨nx + 1, 0, none⟩ = some (.agg (twoV (givesT m)).toArray) := readAt_agg (k := 4) (by exact rfl) (by exact rfl) (by exact rfl) (getc_all Heap.put_eq rfl)
 exact ⟨.inr rfl, _, res_cell (a := ⟨nx + 1, 0, none⟩) (by simp [tmPut, *]) hrd, rfl, hx0.1, fun i hi => by show Heap.put G _ _ i = _; rw [Heap.put_ne (by omega)]; exact hx0.2 i hi⟩
set_option maxRecDepth 20000 in
theorem two_part (p : List Thg) (hp : p.length = 2) {i : Nat} (hi : i < 2) : getPart Tryz.prog 102 (twoV p) (i * 2) = some (thV (p[i]'(by omega))) := by
 have hfl := flat_len encT_len p
 unfold getPart twoV
 rw [Tryz.underlying102]
 simp only [isAggD, if_true, show szOf Tryz.prog 102 = some 2 from rfl]
 rw [if_pos (by rw [hfl]; omega), flat_at encT_len p i (by omega)]
 rfl
set_option maxRecDepth 20000 in
set_option maxHeartbeats 4000000 in
theorem allowsC (W0 : World) {nx : Nat} {H : Heap} {fv : Value} {F : List Thg} (m : R4) (hF : FoundAt H fv F) :
  ACalls Tryz.prog W0 61 [fv, .agg (Go.Am.e4 m).toArray] nx H fun v nx' H' => v = .bool (decide (∀ t ∈ needsT m, t ∈ F)) ∧ Ext nx H nx' H' := by
 refine ACalls.by_trip (fn := Tryz.f61) (c := _) Tryz.func61 rfl (fun tm n hn0 htm => ?_)
 have q0 : tm 0 = fv := htm 0
 have q1 : tm 1 = .agg (Go.Am.e4 m).toArray := htm 1
 clear htm
 replace hn0 : n = 23 := hn0
 refine Trip.ok fun hok => ?_
 replace hok : ∀ id o, H id = some o → id < nx := hok
 repeat (first | refine Trip.seq ?_ | refine Trip.ops ?_)
 refine OpsL.new (by subst_vars; decide) (aop_box (by simp only [ASt.ev, tmPut, ↓reduceIte, Nat.reduceEqDiff, *]; rfl)) ?_
 have hx0 : Ext nx H (nx + 1) (H.put nx (.cells (Value.agg (Go.Am.e4 m).toArray).cells.toList 0 none false (some 107))) := Ext.newPut
 have gx : (H.put nx (.cells (Value.agg (Go.Am.e4 m).toArray).cells.toList 0 none false (some 107))) nx = some (.cells (Go.Am.e4 m) 0 none false (some 107)) := Heap.put_eq
 have hok1 := ok_new (o := .cells (Value.agg (Go.Am.e4 m).toArray).cells.toList 0 none false (some 107)) hok
 generalize H.put nx (.cells (Value.agg (Go.Am.e4 m).toArray).cells.toList 0 none false (some 107)) = G at *
 repeat (first | refine OpsL.q (by exact oasg) ?_ | refine Trip.seq ?_ | refine Trip.ops ?_ | (refine OpsL.nil ?_; (change Trip _ _ _ _ _)))
 refine OpsL.q (aop_loadAgg (k := 4) (vs := Go.Am.e4 m) (by simp only [ASt.ev, tmPut, ↓reduceIte, Nat.reduceEqDiff, *]; done) (by exact rfl) rfl (by exact rfl) (getc_all gx rfl)) ?_
 refine OpsL.c1 (hf := entersNeeds) (hc := (needsC W0 m)) (h := ?_)
 rintro v1 n1 H1 ⟨rfl, x1⟩
 have hx1 := hx0.trans x1
 repeat (first | refine OpsL.q (by exact omv) ?_ | refine Trip.block ?_ | (refine OpsL.nil ?_; (change Trip _ _ _ _ _)))
 have hlen : (needsT m).length = 2 := rfl
 refine Trip.inv (fun (i : Nat) st => ∃ (tm' : Nat → Value) (nx' : Nat) (H' : Heap), st = ⟨tm', n, H', nx'⟩ ∧ Ext nx H nx' H' ∧ tm' 0 = fv ∧ tm' 10 = .agg (twoV (needsT m)).toArray ∧ tm' 11 = .int .i64 i ∧ i ≤ 2 ∧ ∀ (j : Nat) (h : j < (needsT m).length), j < i → (needsT m)[j] ∈ F) (fun i => 2 - i) 0 ?_ ?_
 ·exact ⟨_, _, _, rfl, hx1, by simp [tmPut, *], by simp [tmPut, *], by simp [tmPut, *], by omega, fun j _ h => by omega⟩
 ·clear q0 q1
  rintro i st ⟨tm, nx', H', rfl, hx, q0, q10, q11, hi, hs⟩
  by_cases hlt : i < 2
  ·have hp := two_part (needsT m) hlen hlt
   generalize ht : (needsT m)[i]'(by omega) = t at *
   repeat (first | refine Trip.seq ?_ | refine Trip.ops ?_)
   refine OpsL.lssT ?_
   repeat (first | refine Trip.seq ?_ | (refine OpsL.nil ?_; (change Trip _ _ _ _ _)))
   refine Trip.ifT ?_
   repeat (first | refine Trip.seq ?_ | refine Trip.ops ?_ | refine Trip.block ?_ | (refine Trip.skip ?_; (change Trip _ _ _ _ _)))
   refine OpsL.q (aop_index3 (len := 2) (e := 102) (sz := 2) (v := thV t) (by simp only [ASt.ev, tmPut, ↓reduceIte, Nat.reduceEqDiff, *]; rfl) (by simp only [ASt.ev, tmPut, ↓reduceIte, Nat.reduceEqDiff, *]; rfl) (by exact rfl) (by exact rfl) (by omega) (by omega) (by show getPart _ _ (twoV (needsT m)) ((i : Int).toNat * 2) = _; rw [Int.toNat_natCast]; exact hp)) ?_
   refine OpsL.new (by subst_vars; decide) (aop_alloc (l := rep 2 [.int .i64 0]) (by kernel_rfl)) ?_
   refine OpsL.upd (aop_store (k := 2) (u := thV t) (by simp only [ASt.ev, tmPut, ↓reduceIte, Nat.reduceEqDiff, *]; done) (by simp only [ASt.ev, tmPut, ↓reduceIte, Nat.reduceEqDiff, *]; done) (by exact rfl) rfl (o := .cells (encT t) 0 none false (some 102)) (setc_allN (vs := encT t) Heap.put_eq rfl rfl)) ?_
   obtain ⟨G4, hG4⟩ : ∃ G4, G4 = (H'.put nx' (.cells (rep 2 [.int .i64 0]) 0 none false (some 102))).put nx' (.cells (encT t) 0 none false (some 102)) := ⟨_, rfl⟩
   have hx4 : Ext nx' H' (nx' + 1) G4 := ⟨Nat.le_succ _, fun j hj => by rw [hG4, Heap.put_ne (by omega), Heap.put_ne (by omega)]⟩
   have hb4 : G4 nx' = some (.cells (encT t) 0 none false (some 102)) := by rw [hG4, Heap.put_eq]
   first | rw [← hG4] | skip
   clear hG4
   have hF4 := (hF.ext (hx.trans hx4) hok).told t
   repeat (first | refine OpsL.q (by exact omv) ?_ | refine Trip.seq ?_ | refine Trip.ops ?_ | (refine OpsL.nil ?_; (change Trip _ _ _ _ _)))
   refine OpsL.q (aop_loadAgg (k := 2) (vs := encT t) (by simp only [ASt.ev, tmPut, ↓reduceIte, Nat.reduceEqDiff, *]; done) (by exact rfl) rfl (by exact rfl) (getc_all hb4 rfl)) ?_
   refine OpsL.q (aop_lookup3 (by simp only [ASt.ev, tmPut, ↓reduceIte, Nat.reduceEqDiff, *]; done) (by simp only [ASt.ev, tmPut, ↓reduceIte, Nat.reduceEqDiff, *]; rfl) hF4) ?_
   repeat (first | (refine OpsL.q (by first | exact omv | exact aop_extract (by simp only [ASt.ev, tmPut, ↓reduceIte, Nat.reduceEqDiff, *]; rfl) (by exact rfl)) ?_))
   refine OpsL.new (by subst_vars; decide) (aop_alloc (l := []) (by kernel_rfl)) ?_
   refine OpsL.upd (aop_store (k := 0) (u := .agg #[]) (by simp only [ASt.ev, tmPut, ↓reduceIte, Nat.reduceEqDiff, *]; done) (by simp only [ASt.ev, tmPut, ↓reduceIte, Nat.reduceEqDiff, *]; rfl) (by exact rfl) rfl (o := .cells [] 0 none false (some 104)) (setc_allN (vs := []) Heap.put_eq rfl rfl)) ?_
   obtain ⟨G5, hG5⟩ : ∃ G5, G5 = (G4.put (nx' + 1) (.cells [] 0 none false (some 104))).put (nx' + 1) (.cells [] 0 none false (some 104)) := ⟨_, rfl⟩
   have hx5 : Ext (nx' + 1) G4 (nx' + 1 + 1) G5 := ⟨Nat.le_succ _, fun j hj => by rw [hG5, Heap.put_ne (by omega), Heap.put_ne (by omega)]⟩
   first | rw [← hG5] | skip
   clear hG5 hF4 hb4
   have hx9 := (hx.trans hx4).trans hx5
   by_cases htF : t ∈ F
   ·simp only [htF, decide_true]
    repeat (first | (refine OpsL.q (by first | exact omv | exact oasg | exact onot) ?_) | refine Trip.seq ?_ | refine Trip.ops ?_ | (refine OpsL.nil ?_; (change Trip _ _ _ _ _)))
    refine Trip.ifF ?_
    repeat (first | (refine OpsL.q (by first | exact omv | exact oadd) ?_) | refine Trip.ops ?_ | (refine Trip.skip ?_; ((repeat (refine blockExit_normal ?_)); change Trip _ _ _ _ _)) | (refine OpsL.nil ?_; (dsimp only)))
    refine ⟨i + 1, ⟨_, _, _, rfl, hx9, by simp [tmPut, *], by simp [tmPut, *], by simp [tmPut, *], by omega, fun j hj hji => ?_⟩, by omega⟩
    by_cases e : j = i
    ·subst e; rw [ht]; exact htF
    ·exact hs j hj (by omega)
   ·simp only [htF, decide_false]
    repeat (first | (refine OpsL.q (by first | exact omv | exact oasg | exact onot) ?_) | refine Trip.seq ?_ | refine Trip.ops ?_ | (refine OpsL.nil ?_; (change Trip _ _ _ _ _)))
    refine Trip.ifT ?_
    repeat (first | refine OpsL.q (by exact oasg) ?_ | refine Trip.seq ?_ | refine Trip.ops ?_ | (refine Trip.ret ?_; ((repeat (refine blockExit_ret ?_)); dsimp only)) | (refine OpsL.nil ?_; (change Trip _ _ _ _ _)))
    refine ⟨.inr rfl, _, res_tmp, ?_, hx9⟩
    have : ¬ ∀ t ∈ needsT m, t ∈ F := fun h => htF (by rw [← ht]; exact h _ (List.getElem_mem _))
    rw [decide_eq_false this]
    simp [tmPut]
  ·have hi2 : i = 2 := by omega
   subst hi2
   repeat (first | refine Trip.seq ?_ | refine Trip.ops ?_)
   refine OpsL.lssF ?_
   repeat (first | refine Trip.seq ?_ | (refine OpsL.nil ?_; (change Trip _ _ _ _ _)))
   refine Trip.ifF ?_
   repeat (first | refine OpsL.q (by exact oasg) ?_ | refine Trip.seq ?_ | refine Trip.ops ?_ | (refine Trip.exit ?_; ((repeat (refine blockExit_eq ?_)); change Trip _ _ _ _ _)) | (refine Trip.ret ?_; (dsimp only)) | (refine OpsL.nil ?_; (change Trip _ _ _ _ _)))
   refine ⟨.inr rfl, _, res_tmp, ?_, hx⟩
   have : ∀ t ∈ needsT m, t ∈ F := fun t ht => by
    obtain ⟨j, hj, rfl⟩ := List.getElem_of_mem ht
    exact hs j hj (by omega)
   rw [decide_eq_true this]
   simp [tmPut]
end Go.Proofs.YtjohiaoepbnicaaGreat
namespace Go.Am
set_option linter.unusedSimpArgs false
set_option linter.unusedVariables false
open Go.RowKit
theorem e4_len (r : R4) : (e4 r).length = 4 := rfl
theorem e4_one (r : R4) : (e4 r).all (·.oneCell') = true := rfl
theorem e3_len (r : R3) : (e3 r).length = 3 := rfl
theorem e3_one (r : R3) : (e3 r).all (·.oneCell') = true := rfl
def kindsI (ss : List (ByteArray × Int)) (k : Int) (i : Nat) : List Int := (((List.range i).filter fun j => match ss[j]? with | some x => decide (x.2 = k) | none => false).map fun (j : Nat) => (j : Int))
theorem kindsI_succ (ss : List (ByteArray × Int)) (k : Int) {i : Nat} (hi : i < ss.length) : kindsI ss k (i + 1) = if ss[i].2 = k then kindsI ss k i ++ [(i : Int)] else kindsI ss k i := by
 unfold kindsI
 rw [List.range_succ, List.filter_append, List.map_append]
 simp only [List.filter_cons, List.filter_nil, List.getElem?_eq_getElem hi, decide_eq_true_eq]
 split <;> simp_all
theorem kindsI_len (ss : List (ByteArray × Int)) (k : Int) (i : Nat) : (kindsI ss k i).length ≤ i := by
 unfold kindsI
 rw [List.length_map]
 refine Nat.le_trans (List.length_filter_le _ _) ?_
 simp
theorem kindsI_mem {ss : List (ByteArray × Int)} {k : Int} {i : Nat} (hi : i ≤ ss.length) {x : Int} (h : x ∈ kindsI ss k i) : kdF ss x k = true := by
 unfold kindsI at h
 rw [List.mem_map] at h
 obtain ⟨j, hj, rfl⟩ := h
 rw [List.mem_filter, List.mem_range] at hj
 obtain ⟨h1, h2⟩ := hj
 unfold kdF
 rw [Int.toNat_natCast]
 have h3 : j < ss.length := by omega
 simp only [List.getElem?_eq_getElem h3, decide_eq_true_eq] at h2 ⊢
 simp [h2, h3]
def pickF (ss : List (ByteArray × Int)) (k x : Int) : Int := match (kindsI ss k ss.length)[(x % ((kindsI ss k ss.length).length : Int)).toNat]? with | some y => y | none => -1
theorem pickF_kind {ss : List (ByteArray × Int)} {k x : Int} (h : 0 ≤ pickF ss k x) : kdF ss (pickF ss k x) k = true := by
 unfold pickF at *
 split at h
 ·rename_i y hy
  exact kindsI_mem (Nat.le_refl _) (List.mem_of_getElem? hy)
 ·omega
def putI (a : Aut) (p : Int) : Aut := ⟨a.N, a.G, a.init ++ [p], a.final, a.opens, a.closes, a.inners⟩
def putF (a : Aut) (p : Int) : Aut := ⟨a.N, a.G, a.init, a.final ++ [p], a.opens, a.closes, a.inners⟩
def putO (a : Aut) (p : R4) : Aut := ⟨a.N, a.G, a.init, a.final, a.opens ++ [p], a.closes, a.inners⟩
def putC (a : Aut) (p : R4) : Aut := ⟨a.N, a.G, a.init, a.final, a.opens, a.closes ++ [p], a.inners⟩
def putN (a : Aut) (p : R3) : Aut := ⟨a.N, a.G, a.init, a.final, a.opens, a.closes, a.inners ++ [p]⟩
def stepM (ss : List (ByteArray × Int)) (a : Aut) (x : Int) : Aut :=
 let y := x % 1099511627776
 let p := y / 8 % a.N
 let q := y / 80 % a.N
 let z := y / 800 % 7
 if y % 8 = 0 then putI a p
 else if y % 8 = 1 then putF a p
 else if y % 8 = 2 ∨ y % 8 = 3 then (if 0 ≤ pickF ss 1 z then putO a (p, pickF ss 1 z, q, 1 + y / 8000 % a.G) else a)
 else if y % 8 = 4 ∨ y % 8 = 5 then (if 0 ≤ pickF ss 2 z then putC a (p, pickF ss 2 z, y / 8000 % (a.G + 1), q) else a)
 else (if 0 ≤ pickF ss 3 z then putN a (p, pickF ss 3 z, q) else a)
def startM (size most : Int) : Aut := ⟨1 + size % most, 1 + size.tdiv 7 % 2, [], [], [], [], []⟩
def foldM (ss : List (ByteArray × Int)) (size most : Int) (ns : List Int) (i : Nat) : Aut := (ns.take i).foldl (stepM ss) (startM size most)
def lastM (a : Aut) : Aut := if a.init = [] then putI a 0 else a
def makeM (ss : List (ByteArray × Int)) (size most : Int) (ns : List Int) : Aut := lastM (foldM ss size most ns 24)
theorem foldM_succ (ss : List (ByteArray × Int)) (size most : Int) (ns : List Int) {i : Nat} (hi : i < ns.length) : foldM ss size most ns (i + 1) = stepM ss (foldM ss size most ns i) ns[i] := by
 unfold foldM
 rw [List.take_succ_eq_append_getElem hi, List.foldl_append]
 rfl
structure GoodM (ss : List (ByteArray × Int)) (most : Int) (a : Aut) (i : Nat) : Prop where
 N0 : 1 ≤ a.N
 N1 : a.N ≤ most
 G0 : 1 ≤ a.G
 G1 : a.G ≤ 2
 init : a.init.all (stF a.N) = true
 final : a.final.all (stF a.N) = true
 opens : a.opens.all (okO ss a) = true
 closes : a.closes.all (okC ss a) = true
 inners : a.inners.all (okI ss a) = true
 len : a.init.length ≤ i ∧ a.final.length ≤ i ∧ a.opens.length ≤ i ∧ a.closes.length ≤ i ∧ a.inners.length ≤ i
theorem GoodM.start (ss : List (ByteArray × Int)) {size most : Int} (h : 1 ≤ most) : GoodM ss most (startM size most) 0 := by
 have h1 := Int.emod_nonneg size (show most ≠ 0 by omega)
 have h2 := Int.emod_lt_of_pos size (show 0 < most by omega)
 have h3 := Int.emod_nonneg (size.tdiv 7) (show (2 : Int) ≠ 0 by omega)
 have h4 := Int.emod_lt_of_pos (size.tdiv 7) (show (0 : Int) < 2 by omega)
 exact ⟨by simp [startM]; omega, by simp [startM]; omega, by simp [startM]; omega, by simp [startM]; omega, rfl, rfl, rfl, rfl, rfl, by simp [startM]⟩
theorem all_snoc {α : Type} {p : α → Bool} {l : List α} {x : α} (h : l.all p = true) (hx : p x = true) : (l ++ [x]).all p = true := by
 rw [List.all_append, h]
 simp [hx]
theorem stF_mod {N x : Int} (h : 1 ≤ N) : stF N (x % N) = true := by
 have h1 := Int.emod_nonneg x (show N ≠ 0 by omega)
 have h2 := Int.emod_lt_of_pos x (show 0 < N by omega)
 simp [stF, h1, h2]
theorem GoodM.up {ss : List (ByteArray × Int)} {most : Int} {a : Aut} {i : Nat} (h : GoodM ss most a i) : GoodM ss most a (i + 1) :=
 ⟨h.N0, h.N1, h.G0, h.G1, h.init, h.final, h.opens, h.closes, h.inners, by have := h.len; omega⟩
theorem GoodM.putI {ss : List (ByteArray × Int)} {most : Int} {a : Aut} {i : Nat} {p : Int} (h : GoodM ss most a i) (hp : stF a.N p = true) : GoodM ss most (putI a p) (i + 1) :=
 ⟨h.N0, h.N1, h.G0, h.G1, all_snoc h.init hp, h.final, h.opens, h.closes, h.inners, by have := h.len; simp [Am.putI]; omega⟩
theorem GoodM.putF {ss : List (ByteArray × Int)} {most : Int} {a : Aut} {i : Nat} {p : Int} (h : GoodM ss most a i) (hp : stF a.N p = true) : GoodM ss most (putF a p) (i + 1) :=
 ⟨h.N0, h.N1, h.G0, h.G1, h.init, all_snoc h.final hp, h.opens, h.closes, h.inners, by have := h.len; simp [Am.putF]; omega⟩
theorem GoodM.putO {ss : List (ByteArray × Int)} {most : Int} {a : Aut} {i : Nat} {p : R4} (h : GoodM ss most a i) (hp : okO ss a p = true) : GoodM ss most (putO a p) (i + 1) :=
 ⟨h.N0, h.N1, h.G0, h.G1, h.init, h.final, all_snoc h.opens hp, h.closes, h.inners, by have := h.len; simp [Am.putO]; omega⟩
theorem GoodM.putC {ss : List (ByteArray × Int)} {most : Int} {a : Aut} {i : Nat} {p : R4} (h : GoodM ss most a i) (hp : okC ss a p = true) : GoodM ss most (putC a p) (i + 1) :=
 ⟨h.N0, h.N1, h.G0, h.G1, h.init, h.final, h.opens, all_snoc h.closes hp, h.inners, by have := h.len; simp [Am.putC]; omega⟩
theorem GoodM.putN {ss : List (ByteArray × Int)} {most : Int} {a : Aut} {i : Nat} {p : R3} (h : GoodM ss most a i) (hp : okI ss a p = true) : GoodM ss most (putN a p) (i + 1) :=
 ⟨h.N0, h.N1, h.G0, h.G1, h.init, h.final, h.opens, h.closes, all_snoc h.inners hp, by have := h.len; simp [Am.putN]; omega⟩
theorem GoodM.step {ss : List (ByteArray × Int)} {most : Int} {a : Aut} {i : Nat} (h : GoodM ss most a i) (x : Int) : GoodM ss most (stepM ss a x) (i + 1) := by
 have hy := Int.emod_nonneg x (show (1099511627776 : Int) ≠ 0 by omega)
 unfold stepM
 have g1 := Int.emod_nonneg (x % 1099511627776 / 8000) (show a.G ≠ 0 by have := h.G0; omega)
 have g2 := Int.emod_lt_of_pos (x % 1099511627776 / 8000) (show 0 < a.G by have := h.G0; omega)
 have g3 := Int.emod_nonneg (x % 1099511627776 / 8000) (show a.G + 1 ≠ 0 by have := h.G0; omega)
 have g4 := Int.emod_lt_of_pos (x % 1099511627776 / 8000) (show 0 < a.G + 1 by have := h.G0; omega)
 dsimp only
 split
 ·exact h.putI (stF_mod h.N0)
 split
 ·exact h.putF (stF_mod h.N0)
 split
 ·split
  ·rename_i hk
   exact h.putO (by simp only [okO, stF_mod h.N0, pickF_kind hk, btF, Bool.true_and, Bool.and_eq_true, decide_eq_true_eq]; omega)
  ·exact h.up
 split
 ·split
  ·rename_i hk
   exact h.putC (by simp only [okC, stF_mod h.N0, pickF_kind hk, btF, Bool.true_and, Bool.and_eq_true, decide_eq_true_eq]; omega)
  ·exact h.up
 ·split
  ·rename_i hk
   exact h.putN (by simp only [okI, stF_mod h.N0, pickF_kind hk, Bool.true_and])
  ·exact h.up
theorem GoodM.fold (ss : List (ByteArray × Int)) {size most : Int} (h : 1 ≤ most) (ns : List Int) : ∀ i, i ≤ ns.length → GoodM ss most (foldM ss size most ns i) i := by
 intro i
 induction i with
 | zero => intro _; exact GoodM.start ss h
 | succ i ih =>
  intro hi
  rw [foldM_succ ss size most ns (show i < ns.length by omega)]
  exact (ih (by omega)).step _
theorem GoodM.last {ss : List (ByteArray × Int)} {most : Int} {a : Aut} {i : Nat} (h : GoodM ss most a i) : GoodM ss most (lastM a) (i + 1) := by
 unfold lastM
 split
 ·refine h.putI ?_
  have := h.N0
  simp [stF]
  omega
 ·exact h.up
theorem foldM_take (ss : List (ByteArray × Int)) (size most : Int) (ns : List Int) {i : Nat} (h : ns.length ≤ i) : foldM ss size most ns i = foldM ss size most ns ns.length := by
 unfold foldM
 rw [List.take_of_length_le h, List.take_length]
theorem GoodM.make (ss : List (ByteArray × Int)) {size most : Int} (h : 1 ≤ most) (ns : List Int) : GoodM ss most (makeM ss size most ns) 25 := by
 unfold makeM
 by_cases h24 : 24 ≤ ns.length
 ·exact (GoodM.fold ss h ns 24 h24).last
 ·rw [foldM_take ss size most ns (show ns.length ≤ 24 by omega)]
  have := (GoodM.fold ss (size := size) h ns ns.length (Nat.le_refl _)).last
  exact ⟨this.N0, this.N1, this.G0, this.G1, this.init, this.final, this.opens, this.closes, this.inners, by have := this.len; omega⟩
theorem GoodM.lens {ss : List (ByteArray × Int)} {most : Int} {a : Aut} {i : Nat} (h : GoodM ss most a i) (hi : i ≤ 1000) : AutLen a := by
 have h1 := h.len
 exact ⟨by omega, by omega, by omega, by omega, by omega⟩
end Go.Am
