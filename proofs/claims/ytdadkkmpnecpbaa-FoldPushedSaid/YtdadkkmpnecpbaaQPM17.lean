import Derived.Test.YtdadkkmpnecpbaaQPM14
import Derived.Test.YtdadkkmpnecpbaaQPM16
import Derived.Test.YtdadkkmpnecpbaaQPM15
import Derived.Test.YtdadkkmpnecpbaaChecked
namespace Go.Am
set_option linter.unusedSimpArgs false
set_option linter.unusedVariables false
set_option linter.unnecessarySimpa false
open Go.RowKit
theorem Ext.newPut {nx : Nat} {H : Heap} {o : AObj} : Ext nx H (nx + 1) (H.put nx o) := (Ext.refl.up (Nat.le_succ _)).put (Nat.le_refl _)
theorem ok_new {H : Heap} {nx : Nat} {o : AObj} (hok : ∀ id o, H id = some o → id < nx) : ∀ id o', (H.put nx o) id = some o' → id < nx + 1 := fun id o' h => by
  by_cases hi : id = nx
  · omega
  · rw [Heap.put_ne hi] at h
    have := hok id o' h
    omega
def RowsAt {α : Type} (enc : α → List Value) (sz : Nat) (H : Heap) (v : Value) (l : List α) : Prop :=
  (∃ c, v = .slice none 0 c ∧ l = []) ∨ ∃ a c, v = .slice (some a) l.length c ∧ ∀ (i : Nat) (h : i < l.length), getc H ⟨a.block, a.off + i * sz, a.spot⟩ sz = some (enc l[i])
section
variable {α : Type} {enc : α → List Value} {sz : Nat} {H H' : Heap} {nx nx' : Nat} {v : Value} {l : List α}
theorem RowsAt.ext (h : Ext nx H nx' H') (hok : ∀ id o, H id = some o → id < nx) (hr : RowsAt enc sz H v l) : RowsAt enc sz H' v l := by
  rcases hr with h1 | ⟨a, c, rfl, hs⟩
  · exact .inl h1
  · exact .inr ⟨a, c, rfl, fun i hi => getc_ext h hok (hs i hi)⟩
theorem RowsAt.slice (h : RowsAt enc sz H v l) : ∃ a c, v = .slice a l.length c := by
  rcases h with ⟨c, rfl, rfl⟩ | ⟨a, c, rfl, _⟩
  · exact ⟨none, c, rfl⟩
  · exact ⟨some a, c, rfl⟩
theorem rows_src (hk : ∀ x, (enc x).length = sz) (h0 : 0 < sz) (h : RowsAt enc sz H v l) : source H sz v none = some (l.length, l.flatMap enc) := by
  rcases h with ⟨c, rfl, rfl⟩ | ⟨a, c, rfl, hs⟩
  · rfl
  · by_cases hl : l.length = 0
    · have : l = [] := List.eq_nil_of_length_eq_zero hl
      subst this
      show (if 0 * sz = 0 then some (0, []) else _) = _
      rw [if_pos (by omega)]
      rfl
    · have key : ∀ m (hm : m ≤ l.length), getc H a (m * sz) = some ((l.take m).flatMap enc) := by
        intro m
        induction m with
        | zero =>
          intro _
          have h1 := hs 0 (by omega)
          unfold getc at h1 ⊢
          split at h1
          · rename_i c' e t r q ho
            simp only [ho]
            split at h1
            · rename_i hc
              simp only [Nat.zero_mul, Nat.add_zero] at hc ⊢
              rw [if_pos ⟨hc.1, by omega⟩]
              rfl
            · cases h1
          all_goals cases h1
        | succ m ih =>
          intro hm
          have h1 := hs m (by omega)
          have h2 := ih (by omega)
          unfold getc at h1 h2 ⊢
          split at h1
          · rename_i c' e t r q ho
            simp only [ho] at h2 ⊢
            split at h1
            · rename_i hc
              split at h2
              · rw [if_pos ⟨hc.1, by have := hc.2; simp only at this; rw [Nat.add_mul]; omega⟩]
                simp only [Option.some.injEq] at h1 h2 ⊢
                rw [Nat.add_mul, Nat.one_mul, List.take_add, h2, List.drop_drop, h1, List.take_add_one (l := l) (i := m), List.getElem?_eq_getElem (by omega : m < l.length)]
                show _ = (l.take m ++ [l[m]]).flatMap enc
                rw [List.flatMap_append]
                simp
              · cases h2
            · cases h1
          all_goals cases h1
      show (if l.length * sz = 0 then some (l.length, []) else (getc H a (l.length * sz)).map (l.length, ·)) = _
      have : l.length * sz ≠ 0 := Nat.mul_ne_zero hl (by omega)
      rw [if_neg this, key l.length (Nat.le_refl _), List.take_length]
      rfl
theorem flat_len (hk : ∀ x, (enc x).length = sz) (l : List α) : (l.flatMap enc).length = l.length * sz := by
  induction l with
  | nil => simp
  | cons x l ih => simp only [List.flatMap_cons, List.length_append, hk, ih, List.length_cons, Nat.add_mul]; omega
theorem flat_at (hk : ∀ x, (enc x).length = sz) : ∀ (l : List α) (i : Nat) (h : i < l.length), ((l.flatMap enc).drop (i * sz)).take sz = enc l[i] := by
  intro l
  induction l with
  | nil => intro i h; simp at h
  | cons x l ih =>
    intro i h
    cases i with
    | zero => simp [← hk x]
    | succ i =>
      rw [List.flatMap_cons, Nat.add_mul, Nat.one_mul, Nat.add_comm, ← List.drop_drop, List.drop_append_of_le_length (by rw [hk]; exact Nat.le_refl _)]
      rw [show (enc x).drop sz = [] by rw [List.drop_eq_nil_of_le]; rw [hk]; exact Nat.le_refl _]
      simpa using ih i (by simpa using h)
def OwnOf (enc : α → List Value) (sz : Nat) (el : TypeId) (H : Heap) (ob : Option (Nat × Nat)) (v : Value) (l : List α) : Prop := OwnRow H ob el sz v (l.flatMap enc) l.length
theorem OwnOf.at (hk : ∀ x, (enc x).length = sz) {el : TypeId} {ob : Option (Nat × Nat)} (h : OwnOf enc sz el H ob v l) : RowsAt enc sz H v l := by
  cases ob with
  | none =>
    obtain ⟨rfl, _, h2⟩ := h
    exact .inl ⟨0, rfl, List.eq_nil_of_length_eq_zero h2⟩
  | some bt =>
    obtain ⟨b, t⟩ := bt
    obtain ⟨rfl, _, rest, ho⟩ := h
    refine .inr ⟨⟨b, 0, some t⟩, l.length, rfl, fun i hi => ?_⟩
    have hfl := flat_len hk l
    have : (i + 1) * sz ≤ l.length * sz := Nat.mul_le_mul_right sz hi
    rw [Nat.add_mul, Nat.one_mul] at this
    unfold getc
    simp only [ho, Nat.zero_add]
    rw [if_pos ⟨trivial, by rw [List.length_append, hfl]; omega⟩, List.drop_append_of_le_length (by rw [hfl]; omega), List.take_append_of_le_length (by rw [List.length_drop, hfl]; omega), flat_at hk l i hi]
end
structure AppO {α : Type} (enc : α → List Value) (sz : Nat) (el : TypeId) (nx : Nat) (H : Heap) (ob : Option (Nat × Nat)) (l : List α) (v' : Value) (nx' : Nat) (H' : Heap) (ob' : Option (Nat × Nat)) : Prop where
  own : OwnOf enc sz el H' ob' v' l
  blk : ∀ b' t', ob' = some (b', t') → b' < nx' ∧ (b' = nx ∨ ∃ t, ob = some (b', t))
  le : nx ≤ nx'
  same : ∀ i, i < nx → (∀ b t, ob = some (b, t) → i ≠ b) → H' i = H i
  ok : (∀ b t, ob = some (b, t) → b < nx) → (∀ id o, H id = some o → id < nx) → ∀ id o, H' id = some o → id < nx'
section
variable {P : Program} {W0 : World} {H : Heap} {nx n : Nat} {ev : Operand → Option Value} {dst : Option Tmp} {type : TypeId} {pos : String} {after : Array Edge} {guard : Option (Nat × Bool)} {ops : Array Oper} {l : List Oper} {tm : Nat → Value} {QQ : ASt → Prop} {d : Tmp}
theorem OpsL.appendO {α : Type} {enc : α → List Value} {sz bytes : Nat} {z : List Value} {el st xt : TypeId} {ob : Option (Nat × Nat)} {v u : Value} {zs us : List α} {x y : Operand} (hk : ∀ x, (enc x).length = sz) (h1 : ∀ x, (enc x).all (·.oneCell') = true) (h0 : 0 < sz) (hd : d < n) (h : OwnOf enc sz el H ob v zs) (hu : RowsAt enc sz H u us) (hx : ASt.ev ⟨tm, n, H, nx⟩ x = some v) (hy : ASt.ev ⟨tm, n, H, nx⟩ y = some u) (hb : ∀ b t, ob = some (b, t) → b < nx)
    (hst : P.underlying st = some (.slice el)) (hxt : P.underlying xt = some (.slice el)) (hsz : szOf P el = some sz) (hby : bytesOfT P el = some bytes) (hz : zeroOf P el = some z) (hzl : z.length = sz) (hle : zs.length + us.length ≤ 1000000) (hbl : bytes ≤ 1000)
    (hc : ∀ v' nx' H' ob', AppO enc sz el nx H ob (zs ++ us) v' nx' H' ob' → OpsL P W0 ops l ⟨tmPut tm (some d) v', n, H', nx'⟩ QQ) :
    OpsL P W0 ops (⟨some d, .call ⟨.builtin .append, #[x, y], #[st, xt]⟩, type, pos, after, none⟩ :: l) ⟨tm, n, H, nx⟩ QQ := by
  have hsrc := rows_src hk h0 hu
  have hall : ∀ l : List α, (l.flatMap enc).all (·.oneCell') = true := fun l => by
    rw [List.all_eq_true]
    intro v hv
    obtain ⟨x, _, hx⟩ := List.mem_flatMap.1 hv
    exact List.all_eq_true.1 (h1 x) v hx
  have hm1 : (2 * (zs.length + us.length) + 192) * bytes ≤ 281474976710656 := by
    have : (2 * (zs.length + us.length) + 192) * bytes ≤ (2 * (zs.length + us.length) + 192) * 1000 := Nat.mul_le_mul_left _ hbl
    omega
  by_cases hl0 : us.length = 0
  · have : us = [] := List.eq_nil_of_length_eq_zero hl0
    subst this
    have hop : aop P H nx (ASt.ev ⟨tm, n, H, nx⟩) ⟨some d, .call ⟨.builtin .append, #[x, y], #[st, xt]⟩, type, pos, after, none⟩ = some (v, .none) := by
      cases ob with
      | none =>
        obtain ⟨rfl, _, hz0⟩ := h
        simp [aop, hx, hy, evAll, aBuiltin, aAppend, hst, hxt, hsz, hby, hz, hzl, hsrc, show notInt (.slice el) = true from rfl]
      | some bt =>
        obtain ⟨b, t⟩ := bt
        obtain ⟨rfl, hc', rest, ho⟩ := h
        simp [aop, hx, hy, evAll, aBuiltin, aAppend, hst, hxt, hsz, hby, hz, hzl, hsrc, ho, show notInt (.slice el) = true from rfl]
    refine OpsL.p hd hop (hc v nx H ob ⟨by rw [List.append_nil]; exact h, fun b' t' e => ⟨hb b' t' e, .inr ⟨t', e⟩⟩, Nat.le_refl _, fun _ _ _ => rfl, fun _ h => h⟩)
  · refine OpsL.append (sz := sz) (bytes := bytes) (k := zs.length) (m := us.length) (cs := zs.flatMap enc) (xs := us.flatMap enc) (ob := ob) (u := u) (xd := .slice el) (v := v) (el := el) (z := z) hd hx hy h hsrc (hall us) hl0 hst hxt rfl hsz hby hz hzl (by omega) hm1 ?_
    refine hc _ _ _ (some (blkOf nx ob, nx)) ⟨?_, ?_, Nat.le_succ _, ?_, ?_⟩
    · refine ⟨by rw [List.length_append], ?_, [], ?_⟩
      · rw [flat_len hk]
      · rw [Heap.put_eq, List.flatMap_append, List.append_nil]
    · intro b' t' e
      cases e
      cases ob with
      | none => exact ⟨Nat.lt_succ_self _, .inl rfl⟩
      | some bt => exact ⟨Nat.lt_succ_of_lt (hb bt.1 bt.2 rfl), .inr ⟨bt.2, rfl⟩⟩
    · intro i hi hib
      refine Heap.put_ne ?_
      cases ob with
      | none => simp only [blkOf]; omega
      | some bt => exact hib bt.1 bt.2 rfl
    · intro hb' hok id o ho
      by_cases e : id = blkOf nx ob
      · subst e
        cases ob with
        | none => exact Nat.lt_succ_self _
        | some bt => exact Nat.lt_succ_of_lt (hb' bt.1 bt.2 rfl)
      · rw [Heap.put_ne e] at ho
        exact Nat.lt_succ_of_lt (hok id o ho)
end
end Go.Am
namespace Go.Am
set_option linter.unusedSimpArgs false
set_option linter.unusedVariables false
set_option linter.unnecessarySimpa false
open Go.RowKit
section
variable {P : Program} {W0 : World} {H : Heap} {nx n : Nat} {ev : Operand → Option Value} {dst : Option Tmp} {type : TypeId} {pos : String} {after : Array Edge} {guard : Option (Nat × Bool)}
end
def RowE {α : Type} (enc : α → List Value) (sz : Nat) (el : TypeId) (H : Heap) (ob : Option (Nat × Nat)) (v : Value) (l : List α) : Prop :=
  OwnOf enc sz el H ob v l ∨ (ob = none ∧ l = [] ∧ ∃ b esz ro q, v = .slice (some ⟨b, 0, none⟩) 0 0 ∧ H b = some (.cells [] esz none ro q))
structure AppE {α : Type} (enc : α → List Value) (sz : Nat) (el : TypeId) (nx : Nat) (H : Heap) (ob : Option (Nat × Nat)) (l : List α) (v' : Value) (nx' : Nat) (H' : Heap) (ob' : Option (Nat × Nat)) : Prop where
  own : RowE enc sz el H' ob' v' l
  blk : ∀ b' t', ob' = some (b', t') → b' < nx' ∧ (b' = nx ∨ ∃ t, ob = some (b', t))
  le : nx ≤ nx'
  same : ∀ i, i < nx → (∀ b t, ob = some (b, t) → i ≠ b) → H' i = H i
  ok : (∀ b t, ob = some (b, t) → b < nx) → (∀ id o, H id = some o → id < nx) → ∀ id o, H' id = some o → id < nx'
attribute [local irreducible] aop OpsL Trip blockExit OpsD OpsK OpsR
section
variable {P : Program} {W0 : World} {H : Heap} {nx n : Nat} {type : TypeId} {pos : String} {after : Array Edge} {ops : Array Oper} {l : List Oper} {tm : Nat → Value} {QQ : ASt → Prop} {d : Tmp}
end
def encN (x : Int) : List Value := [.int .i64 x]
theorem encN_len (x : Int) : (encN x).length = 1 := rfl
theorem encN_one (x : Int) : (encN x).all (·.oneCell') = true := rfl
theorem rows_intsN {H : Heap} {v : Value} {l : List Int} (h : RowsAt encN 1 H v l) : IntsAt H v l := by
  rcases h with h | ⟨a, c, rfl, hc⟩
  · exact .inl h
  · exact .inr ⟨a, c, rfl, fun i hi => by have := hc i hi; simpa [cellAt, encN] using this⟩
section
variable {P : Program} {W0 : World} {H : Heap} {nx n : Nat} {ev : Operand → Option Value} {dst : Option Tmp} {type : TypeId} {pos : String} {after : Array Edge} {guard : Option (Nat × Bool)}
theorem aop_append_full {b k m sz bytes : Nat} {el : TypeId} {u : Value} {cs xs z : List Value} {q : Option TypeId} {ro : Bool} {esz : Nat} {x y : Operand} {st xt : TypeId} {xd : TypeDesc} (hx : ev x = some (.slice (some ⟨b, 0, none⟩) k k)) (hy : ev y = some u)
    (hH : H b = some (.cells cs esz none ro q)) (hc : cs.length = k * sz)
    (hs : source H sz u none = some (m, xs)) (h1 : xs.all (·.oneCell') = true) (hm : m ≠ 0) (hst : P.underlying st = some (.slice el)) (hxt : P.underlying xt = some xd) (hxd : notInt xd = true)
    (hsz : szOf P el = some sz) (hby : bytesOfT P el = some bytes) (hz : zeroOf P el = some z) (hzl : z.length = sz) (hle : k + m ≤ 1099511627776) (hle2 : (2 * (k + m) + 192) * bytes ≤ 281474976710656) :
    aop P H nx ev ⟨dst, .call ⟨.builtin .append, #[x, y], #[st, xt]⟩, type, pos, after, guard⟩ = some (.slice (some ⟨nx, 0, some nx⟩) (k + m) (k + m), .new (.cells (cs ++ xs) sz (some nx) false (some el))) := by
  have hg : getc H ⟨b, 0, none⟩ (k * sz) = some cs := by
    unfold getc
    simp only [hH]
    rw [if_pos ⟨trivial, by omega⟩]
    simp [← hc]
  simp [aop, hx, hy, evAll, aBuiltin, aAppend, hst, hxt, hsz, hby, hz, hxd, hzl, hs, hm, hH, hle, hle2, hg]
  rw [if_pos (by simpa using h1), if_neg (by omega : ¬ (k + m ≤ k))]
end
section
variable {P : Program} {W0 : World} {H : Heap} {nx n : Nat} {ops : Array Oper} {l : List Oper} {tm : Nat → Value} {QQ : ASt → Prop}
end
end Go.Am
namespace Go.Am
set_option linter.unusedSimpArgs false
set_option linter.unusedVariables false
set_option linter.unnecessarySimpa false
open Go.RowKit
theorem cell_of {H : Heap} {b e k : Nat} {cs : List Value} {tg : Option Nat} {ro : Bool} {q : Option TypeId} {v : Value} (hH : H b = some (.cells cs e tg ro q)) (h : cs[k]? = some v) : cellAt H ⟨b, k, tg⟩ v := by
  obtain ⟨hk, rfl⟩ := List.getElem?_eq_some_iff.1 h
  exact cellAt_own hH hk
theorem getc_all {H : Heap} {b e : Nat} {cs : List Value} {tg : Option Nat} {ro : Bool} {q : Option TypeId} {m : Nat} (hH : H b = some (.cells cs e tg ro q)) (h : cs.length = m) : getc H ⟨b, 0, tg⟩ m = some cs := by
  unfold getc
  simp only [hH]
  rw [if_pos ⟨trivial, by omega⟩]
  simp [← h]
theorem cell_ext {nx nx' : Nat} {H H' : Heap} {a : Addr} {v : Value} (h : Ext nx H nx' H') (hok : ∀ id o, H id = some o → id < nx) (hc : cellAt H a v) : cellAt H' a v := getc_ext h hok hc
def ListAt {α : Type} (R : Heap → Value → α → Prop) (H : Heap) (v : Value) (l : List α) : Prop :=
  (∃ c, v = .slice none 0 c ∧ l = []) ∨ ∃ a c, v = .slice (some a) l.length c ∧ ∀ (i : Nat) (h : i < l.length), ∃ u, cellAt H ⟨a.block, a.off + i, a.spot⟩ u ∧ R H u l[i]
section
variable {α : Type} {R : Heap → Value → α → Prop} {H H' : Heap} {nx nx' : Nat} {v : Value} {l : List α}
theorem ListAt.slice (h : ListAt R H v l) : ∃ a c, v = .slice a l.length c := by
  rcases h with ⟨c, rfl, rfl⟩ | ⟨a, c, rfl, _⟩
  · exact ⟨none, c, rfl⟩
  · exact ⟨some a, c, rfl⟩
theorem ListAt.atI {a : Option Addr} {c n : Nat} (h : ListAt R H (.slice a n c) l) (d : α) {j : Int} (h0 : 0 ≤ j) (h1 : j < l.length) : ∃ p u, a = some p ∧ cellAt H ⟨p.block, p.off + j.toNat * 1, p.spot⟩ u ∧ R H u (l.getD j.toNat d) := by
  have hj : j.toNat < l.length := by omega
  rcases h with ⟨c', h, rfl⟩ | ⟨p, c', h, hv⟩
  · simp at hj
  · cases h
    obtain ⟨u, h2, h3⟩ := hv j.toNat hj
    exact ⟨p, u, rfl, by simpa using h2, by rw [List.getD_eq_getElem?_getD, List.getElem?_eq_getElem hj]; exact h3⟩
theorem ListAt.ext (hR : ∀ u x, R H u x → R H' u x) (h : Ext nx H nx' H') (hok : ∀ id o, H id = some o → id < nx) (hl : ListAt R H v l) : ListAt R H' v l := by
  rcases hl with h1 | ⟨a, c, h1, hs⟩
  · exact .inl h1
  · refine .inr ⟨a, c, h1, fun i hi => ?_⟩
    obtain ⟨u, h2, h3⟩ := hs i hi
    exact ⟨u, cell_ext h hok h2, hR _ _ h3⟩
end
theorem IntsAt.atI {H : Heap} {a : Option Addr} {c n : Nat} {l : List Int} (h : IntsAt H (.slice a n c) l) {j : Int} (h0 : 0 ≤ j) (h1 : j < l.length) : ∃ p, a = some p ∧ cellAt H ⟨p.block, p.off + j.toNat * 1, p.spot⟩ (.int .i64 (l.getD j.toNat 0)) := by
  have hj : j.toNat < l.length := by omega
  obtain ⟨p, rfl, h2⟩ := h.get hj
  exact ⟨p, rfl, by rw [List.getD_eq_getElem?_getD, List.getElem?_eq_getElem hj]; simpa using h2⟩
def BoolsAt (H : Heap) (v : Value) (l : List Bool) : Prop := ListAt (fun _ u b => u = .bool b) H v l
def L2At (H : Heap) (v : Value) (l : List (List Int)) : Prop := ListAt IntsAt H v l
def L3At (H : Heap) (v : Value) (l : List (List (List Int))) : Prop := ListAt L2At H v l
section
variable {H H' : Heap} {nx nx' : Nat} {v : Value}
theorem BoolsAt.ext {l : List Bool} (h : Ext nx H nx' H') (hok : ∀ id o, H id = some o → id < nx) (hl : BoolsAt H v l) : BoolsAt H' v l := ListAt.ext (fun _ _ h => h) h hok hl
theorem L2At.ext {l : List (List Int)} (h : Ext nx H nx' H') (hok : ∀ id o, H id = some o → id < nx) (hl : L2At H v l) : L2At H' v l := ListAt.ext (fun _ _ q => q.ext h hok) h hok hl
theorem L3At.ext {l : List (List (List Int))} (h : Ext nx H nx' H') (hok : ∀ id o, H id = some o → id < nx) (hl : L3At H v l) : L3At H' v l := ListAt.ext (fun _ _ q => L2At.ext h hok q) h hok hl
theorem BoolsAt.slice {l : List Bool} (h : BoolsAt H v l) : ∃ a c, v = .slice a l.length c := ListAt.slice h
theorem L2At.slice {l : List (List Int)} (h : L2At H v l) : ∃ a c, v = .slice a l.length c := ListAt.slice h
theorem L3At.slice {l : List (List (List Int))} (h : L3At H v l) : ∃ a c, v = .slice a l.length c := ListAt.slice h
theorem BoolsAt.atI {l : List Bool} {a : Option Addr} {c n : Nat} (h : BoolsAt H (.slice a n c) l) {j : Int} (h0 : 0 ≤ j) (h1 : j < l.length) : ∃ p, a = some p ∧ cellAt H ⟨p.block, p.off + j.toNat * 1, p.spot⟩ (.bool (l.getD j.toNat false)) := by
  obtain ⟨p, u, h2, h3, rfl⟩ := ListAt.atI h false h0 h1
  exact ⟨p, h2, h3⟩
theorem L2At.atI {l : List (List Int)} {a : Option Addr} {c n : Nat} (h : L2At H (.slice a n c) l) {j : Int} (h0 : 0 ≤ j) (h1 : j < l.length) : ∃ p b k, a = some p ∧ cellAt H ⟨p.block, p.off + j.toNat * 1, p.spot⟩ (.slice b (l.getD j.toNat []).length k) ∧ IntsAt H (.slice b (l.getD j.toNat []).length k) (l.getD j.toNat []) := by
  obtain ⟨p, u, h2, h3, h4⟩ := ListAt.atI h [] h0 h1
  obtain ⟨b, k, rfl⟩ := h4.slice
  exact ⟨p, b, k, h2, h3, h4⟩
theorem L3At.atI {l : List (List (List Int))} {a : Option Addr} {c n : Nat} (h : L3At H (.slice a n c) l) {j : Int} (h0 : 0 ≤ j) (h1 : j < l.length) : ∃ p b k, a = some p ∧ cellAt H ⟨p.block, p.off + j.toNat * 1, p.spot⟩ (.slice b (l.getD j.toNat []).length k) ∧ L2At H (.slice b (l.getD j.toNat []).length k) (l.getD j.toNat []) := by
  obtain ⟨p, u, h2, h3, h4⟩ := ListAt.atI h [] h0 h1
  obtain ⟨b, k, rfl⟩ := L2At.slice h4
  exact ⟨p, b, k, h2, h3, h4⟩
end
structure Mo where
  plains : Int
  closings : Int
  of : List Int
  entry : List Int
  final : List Bool
  inn : List (List Int)
  low : List (List Int)
  ret : List (List (List Int))
structure MoV where
  o : Value
  e : Value
  f : Value
  i : Value
  l : Value
  r : Value
def moV (m : Mo) (V : MoV) : List Value := [.int .i64 m.plains, .int .i64 m.closings, V.o, V.e, V.f, V.i, V.l, V.r]
structure MoIn (H : Heap) (m : Mo) (V : MoV) : Prop where
  of : IntsAt H V.o m.of
  entry : IntsAt H V.e m.entry
  final : BoolsAt H V.f m.final
  inn : L2At H V.i m.inn
  low : L2At H V.l m.low
  ret : L3At H V.r m.ret
theorem MoIn.ext {nx nx' : Nat} {H H' : Heap} {m : Mo} {V : MoV} (h : Ext nx H nx' H') (hok : ∀ id o, H id = some o → id < nx) (hm : MoIn H m V) : MoIn H' m V :=
  ⟨hm.of.ext h hok, hm.entry.ext h hok, hm.final.ext h hok, hm.inn.ext h hok, hm.low.ext h hok, hm.ret.ext h hok⟩
structure MoLen (m : Mo) : Prop where
  of : m.of.length ≤ 100000
  entry : m.entry.length ≤ 100000
  final : m.final.length ≤ 100000
  inn : m.inn.length ≤ 100000
  low : m.low.length ≤ 100000
  ret : m.ret.length ≤ 100000
  inn1 : ∀ i, (m.inn.getD i []).length ≤ 100000
  low1 : ∀ i, (m.low.getD i []).length ≤ 100000
  ret1 : ∀ i, (m.ret.getD i []).length ≤ 100000
  ret2 : ∀ i j, ((m.ret.getD i []).getD j []).length ≤ 100000
def allN (n : Nat) (p : Nat → Bool) : Bool := (List.range n).all p
theorem allN_zero {p : Nat → Bool} : allN 0 p = true := rfl
theorem allN_succ {n : Nat} {p : Nat → Bool} : allN (n + 1) p = (allN n p && p n) := by
  unfold allN
  rw [List.range_succ, List.all_append]
  simp
theorem allN_put {n : Nat} {p : Nat → Bool} (h : allN n p = true) (hn : p n = true) : allN (n + 1) p = true := by rw [allN_succ, h, hn]; rfl
theorem allN_no {n i : Nat} {p : Nat → Bool} (h : i < n) (hi : p i = false) : allN n p = false := by
  rw [← Bool.not_eq_true]
  intro hh
  have := List.all_eq_true.1 hh i (List.mem_range.2 h)
  rw [hi] at this
  cases this
theorem allN_iff {n : Nat} {p : Nat → Bool} : allN n p = true ↔ ∀ i, i < n → p i = true := by
  unfold allN
  rw [List.all_eq_true]
  exact ⟨fun h i hi => h i (List.mem_range.2 hi), fun h i hi => h i (List.mem_range.1 hi)⟩
def inF (m : Mo) (p k : Int) : Bool := decide ((0 ≤ p ∧ p ≤ (m.of.length : Int) - 1) ∧ m.of.getD p.toNat 0 = k)
def areF (m : Mo) (l : List Int) (k : Int) : Bool := allN l.length fun i => inF m (l.getD i 0) k
def sizedF (m : Mo) : Bool := decide ((0 ≤ m.plains ∧ m.plains ≤ 20) ∧ (0 ≤ m.closings ∧ m.closings ≤ 20) ∧ (1 ≤ (m.of.length : Int) ∧ (m.of.length : Int) ≤ 60) ∧ (1 ≤ (m.entry.length : Int) ∧ (m.entry.length : Int) ≤ 21) ∧ (m.final.length : Int) = m.of.length ∧ (m.inn.length : Int) = m.of.length ∧ (m.low.length : Int) = m.of.length ∧ (m.ret.length : Int) = m.of.length)
def housedF (m : Mo) : Bool := allN m.of.length (fun i => decide (0 ≤ m.of.getD i 0 ∧ m.of.getD i 0 ≤ (m.entry.length : Int) - 1)) && allN m.entry.length (fun i => inF m (m.entry.getD i 0) i)
def plnF (m : Mo) (p : Nat) : Bool := decide (((m.inn.getD p []).length : Int) = m.plains) && areF m (m.inn.getD p []) (m.of.getD p 0)
def lowF (m : Mo) (p : Nat) : Bool := if m.of.getD p 0 = 0 then decide (((m.low.getD p []).length : Int) = m.closings) && areF m (m.low.getD p []) 0 else decide (((m.low.getD p []).length : Int) = 0)
def rowF (m : Mo) (l : List Int) : Bool := decide ((l.length : Int) = m.of.length) && allN l.length fun q => inF m (l.getD q 0) (m.of.getD q 0)
def retF (m : Mo) (p : Nat) : Bool := if m.of.getD p 0 = 0 then decide (((m.ret.getD p []).length : Int) = 0) else decide (((m.ret.getD p []).length : Int) = m.closings) && allN (m.ret.getD p []).length fun j => rowF m ((m.ret.getD p []).getD j [])
def stateF (m : Mo) (p : Nat) : Bool := plnF m p && lowF m p && retF m p
def modF (m : Mo) : Bool := sizedF m && housedF m && allN m.of.length (stateF m)
end Go.Am
namespace Go.Proofs.Ytdadkkmpnecpbaa
set_option linter.unusedSimpArgs false
set_option linter.unusedVariables false
set_option linter.unnecessarySimpa false
open Go.Am Go.RowKit
theorem mixed13 : Try.prog.follows .mixedOrders = true := by kernel_rfl
structure MoBox (G : Heap) (b : Nat) (m : Mo) (V : MoV) : Prop where
  all : getc G ⟨b, 0, none⟩ 8 = some (moV m V)
  c0 : cellAt G ⟨b, 0, none⟩ (.int .i64 m.plains)
  c1 : cellAt G ⟨b, 1, none⟩ (.int .i64 m.closings)
  c2 : cellAt G ⟨b, 2, none⟩ V.o
  c3 : cellAt G ⟨b, 3, none⟩ V.e
  c4 : cellAt G ⟨b, 4, none⟩ V.f
  c5 : cellAt G ⟨b, 5, none⟩ V.i
  c6 : cellAt G ⟨b, 6, none⟩ V.l
  c7 : cellAt G ⟨b, 7, none⟩ V.r
theorem MoBox.of {G : Heap} {b e : Nat} {m : Mo} {V : MoV} {ro : Bool} {q : Option TypeId} (h : G b = some (.cells (moV m V) e none ro q)) : MoBox G b m V :=
  ⟨getc_all h rfl, cell_of h rfl, cell_of h rfl, cell_of h rfl, cell_of h rfl, cell_of h rfl, cell_of h rfl, cell_of h rfl, cell_of h rfl⟩
theorem MoBox.ext {nx nx' : Nat} {G G' : Heap} {b : Nat} {m : Mo} {V : MoV} (h : Ext nx G nx' G') (hok : ∀ id o, G id = some o → id < nx) (hb : MoBox G b m V) : MoBox G' b m V :=
  ⟨getc_ext h hok hb.all, cell_ext h hok hb.c0, cell_ext h hok hb.c1, cell_ext h hok hb.c2, cell_ext h hok hb.c3, cell_ext h hok hb.c4, cell_ext h hok hb.c5, cell_ext h hok hb.c6, cell_ext h hok hb.c7⟩
section
attribute [local irreducible] aop OpsL Trip blockExit OpsD OpsK OpsR
variable {W0 : World} {H : Heap} {nx n : Nat} {ops : Array Oper} {l : List Oper} {tm : Nat → Value} {QQ : ASt → Prop} {d : Tmp} {type : TypeId} {pos : String} {after : Array Edge}
theorem OpsL.boxM {t : TypeId} {x : Operand} {m : Mo} {V : MoV} (hm : MoIn H m V) (hok : ∀ id o, H id = some o → id < nx)
    (h : ∀ G, Ext nx H (nx + 1) G → (∀ id o, G id = some o → id < nx + 1) → MoBox G nx m V → MoIn G m V → OpsL Try.prog W0 ops l ⟨tmPut tm (some d) (.pointer (some ⟨nx, 0, none⟩)), n, G, nx + 1⟩ QQ)
    (hx : ASt.ev ⟨tm, n, H, nx⟩ x = some (.agg (moV m V).toArray)) (hd : d < n) :
    OpsL Try.prog W0 ops (⟨some d, .box t x, type, pos, after, none⟩ :: l) ⟨tm, n, H, nx⟩ QQ := by
  refine OpsL.new hd (aop_box hx) ?_
  exact h _ Ext.newPut (ok_new hok) (MoBox.of (e := 0) (ro := false) (q := some t) (by rw [Heap.put_eq]; rfl)) (hm.ext Ext.newPut hok)
theorem OpsL.loadM {x : Operand} {b : Nat} {m : Mo} {V : MoV} (hb : MoBox H b m V)
    (h : OpsL Try.prog W0 ops l ⟨tmPut tm (some d) (.agg (moV m V).toArray), n, H, nx⟩ QQ)
    (hx : ASt.ev ⟨tm, n, H, nx⟩ x = some (.pointer (some ⟨b, 0, none⟩))) (hd : d < n) :
    OpsL Try.prog W0 ops (⟨some d, .load 29 x, type, pos, after, none⟩ :: l) ⟨tm, n, H, nx⟩ QQ :=
  OpsL.p hd (aop_loadAgg (k := 8) hx (by exact rfl) rfl (by exact rfl) hb.all) h
end
end Go.Proofs.Ytdadkkmpnecpbaa
