import Derived.Test.YtmijhkclfoadaaaDoorQEM19
import Derived.Test.YtmijhkclfoadaaaDoorRows
import Derived.Lib.Hide
import Derived.Test.YtmijhkclfoadaaaDoorQEM17
namespace Go.Am
set_option linter.unusedSimpArgs false
set_option linter.unusedVariables false
open Go.RowKit
section
variable {P : Program} {W0 : World} {H : Heap} {nx n : Nat} {ev : Operand → Option Value} {dst : Option Tmp} {type : TypeId} {pos : String} {after : Array Edge} {guard : Option (Nat × Bool)}
theorem aop_append_e {b m sz bytes : Nat} {el : TypeId} {u : Value} {xs z : List Value} {q : Option TypeId} {ro : Bool} {esz : Nat} {x y : Operand} {st xt : TypeId} {xd : TypeDesc} (hx : ev x = some (.slice (some ⟨b, 0, none⟩) 0 0)) (hy : ev y = some u)
    (hH : H b = some (.cells [] esz none ro q))
    (hs : source H sz u none = some (m, xs)) (h1 : xs.all (·.oneCell') = true) (hm : m ≠ 0) (hst : P.underlying st = some (.slice el)) (hxt : P.underlying xt = some xd) (hxd : notInt xd = true)
    (hsz : szOf P el = some sz) (hby : bytesOfT P el = some bytes) (hz : zeroOf P el = some z) (hzl : z.length = sz) (hle : m ≤ 1099511627776) (hle2 : (2 * m + 192) * bytes ≤ 281474976710656) :
    aop P H nx ev ⟨dst, .call ⟨.builtin .append, #[x, y], #[st, xt]⟩, type, pos, after, guard⟩ = some (.slice (some ⟨nx, 0, some nx⟩) m m, .new (.cells xs sz (some nx) false (some el))) := by
  have hg : getc H ⟨b, 0, none⟩ 0 = some [] := by
    unfold getc
    simp only [hH]
    rw [if_pos ⟨trivial, by simp⟩]
    simp
  simp [aop, hx, hy, evAll, aBuiltin, aAppend, hst, hxt, hsz, hby, hz, hxd, hzl, hs, hm, hH, hle, hle2, hg]
  rw [if_pos (by simpa using h1)]
theorem aop_append_en {b sz bytes : Nat} {el : TypeId} {u : Value} {cs xs z : List Value} {q : Option TypeId} {tg : Option Nat} {ro : Bool} {esz : Nat} {x y : Operand} {st xt : TypeId} {xd : TypeDesc} (hx : ev x = some (.slice (some ⟨b, 0, tg⟩) 0 0)) (hy : ev y = some u)
    (hH : H b = some (.cells cs esz tg ro q))
    (hs : source H sz u none = some (0, xs)) (h1 : xs.all (·.oneCell') = true) (hst : P.underlying st = some (.slice el)) (hxt : P.underlying xt = some xd) (hxd : notInt xd = true)
    (hsz : szOf P el = some sz) (hby : bytesOfT P el = some bytes) (hz : zeroOf P el = some z) (hzl : z.length = sz) :
    aop P H nx ev ⟨dst, .call ⟨.builtin .append, #[x, y], #[st, xt]⟩, type, pos, after, guard⟩ = some (.slice (some ⟨b, 0, tg⟩) 0 0, .none) := by
  simp [aop, hx, hy, evAll, aBuiltin, aAppend, hst, hxt, hsz, hby, hz, hxd, hzl, hs, hH]
  rw [if_pos (by simpa using h1)]
end
def RowE {α : Type} (enc : α → List Value) (sz : Nat) (el : TypeId) (H : Heap) (ob : Option (Nat × Nat)) (v : Value) (l : List α) : Prop :=
  OwnOf enc sz el H ob v l ∨ (ob = none ∧ l = [] ∧ ∃ b esz ro q, v = .slice (some ⟨b, 0, none⟩) 0 0 ∧ H b = some (.cells [] esz none ro q))
theorem RowE.same {α : Type} {enc : α → List Value} {sz : Nat} {el : TypeId} {H H' : Heap} {nx nx' : Nat} {ob : Option (Nat × Nat)} {v : Value} {l : List α} (h : RowE enc sz el H ob v l) (hx : Ext nx H nx' H') (hok : ∀ id o, H id = some o → id < nx) (hlt : ∀ b t, ob = some (b, t) → b < nx) : RowE enc sz el H' ob v l := by
  rcases h with h | ⟨h1, h2, b, esz, ro, q, rfl, hH⟩
  · exact .inl (h.ext hx hlt)
  · exact .inr ⟨h1, h2, b, esz, ro, q, rfl, by rw [hx.2 b (hok _ _ hH)]; exact hH⟩
structure AppE {α : Type} (enc : α → List Value) (sz : Nat) (el : TypeId) (nx : Nat) (H : Heap) (ob : Option (Nat × Nat)) (l : List α) (v' : Value) (nx' : Nat) (H' : Heap) (ob' : Option (Nat × Nat)) : Prop where
  own : RowE enc sz el H' ob' v' l
  blk : ∀ b' t', ob' = some (b', t') → b' < nx' ∧ (b' = nx ∨ ∃ t, ob = some (b', t))
  le : nx ≤ nx'
  same : ∀ i, i < nx → (∀ b t, ob = some (b, t) → i ≠ b) → H' i = H i
  ok : (∀ b t, ob = some (b, t) → b < nx) → (∀ id o, H id = some o → id < nx) → ∀ id o, H' id = some o → id < nx'
attribute [local irreducible] aop OpsL Trip blockExit OpsD OpsK OpsR
section
variable {P : Program} {W0 : World} {H : Heap} {nx n : Nat} {type : TypeId} {pos : String} {after : Array Edge} {ops : Array Oper} {l : List Oper} {tm : Nat → Value} {QQ : ASt → Prop} {d : Tmp}
theorem OpsL.appendE {α : Type} {enc : α → List Value} {sz bytes : Nat} {z : List Value} {el st xt : TypeId} {ob : Option (Nat × Nat)} {v u : Value} {zs us : List α} {x y : Operand} (hk : ∀ x, (enc x).length = sz) (h1 : ∀ x, (enc x).all (·.oneCell') = true) (h0 : 0 < sz) (hd : d < n) (h : RowE enc sz el H ob v zs) (hu : RowsAt enc sz H u us) (hx : ASt.ev ⟨tm, n, H, nx⟩ x = some v) (hy : ASt.ev ⟨tm, n, H, nx⟩ y = some u) (hb : ∀ b t, ob = some (b, t) → b < nx)
    (hst : P.underlying st = some (.slice el)) (hxt : P.underlying xt = some (.slice el)) (hsz : szOf P el = some sz) (hby : bytesOfT P el = some bytes) (hz : zeroOf P el = some z) (hzl : z.length = sz) (hle : zs.length + us.length ≤ 1000000) (hbl : bytes ≤ 1000)
    (hc : ∀ v' nx' H' ob', AppE enc sz el nx H ob (zs ++ us) v' nx' H' ob' → OpsL P W0 ops l ⟨tmPut tm (some d) v', n, H', nx'⟩ QQ) :
    OpsL P W0 ops (⟨some d, .call ⟨.builtin .append, #[x, y], #[st, xt]⟩, type, pos, after, none⟩ :: l) ⟨tm, n, H, nx⟩ QQ := by
  rcases h with h | ⟨rfl, rfl, b, esz, ro, q, rfl, hH⟩
  · exact OpsL.appendO hk h1 h0 hd h hu hx hy hb hst hxt hsz hby hz hzl hle hbl fun v' nx' H' ob' hA => hc v' nx' H' ob' ⟨.inl hA.own, hA.blk, hA.le, hA.same, hA.ok⟩
  · have hsrc := rows_src hk h0 hu
    have hall : (us.flatMap enc).all (·.oneCell') = true := by
      rw [List.all_eq_true]
      intro v hv
      obtain ⟨x, _, hx⟩ := List.mem_flatMap.1 hv
      exact List.all_eq_true.1 (h1 x) v hx
    by_cases hl0 : us.length = 0
    · have : us = [] := List.eq_nil_of_length_eq_zero hl0
      subst this
      refine OpsL.p hd (aop_append_en hx hy hH hsrc hall hst hxt rfl hsz hby hz hzl) (hc _ _ _ none ⟨.inr ⟨rfl, rfl, b, esz, ro, q, rfl, hH⟩, fun b' t' e => (by cases e), Nat.le_refl _, fun _ _ _ => rfl, fun _ h => h⟩)
    · have hm1 : (2 * us.length + 192) * bytes ≤ 281474976710656 := by
        simp only [List.length_nil, Nat.zero_add] at hle
        have : (2 * us.length + 192) * bytes ≤ (2 * us.length + 192) * 1000 := Nat.mul_le_mul_left _ hbl
        omega
      refine OpsL.new hd (aop_append_e hx hy hH hsrc hall hl0 hst hxt rfl hsz hby hz hzl (by simp at hle; omega) hm1) (hc _ _ _ (some (nx, nx)) ⟨.inl ⟨rfl, by rw [List.nil_append, flat_len hk], [], by rw [Heap.put_eq, List.append_nil, List.nil_append]⟩, fun b' t' e => ?_, Nat.le_succ _, fun i hi _ => Heap.put_ne (by omega), fun _ hok => ok_new hok⟩)
      cases e
      exact ⟨Nat.lt_succ_self _, .inl rfl⟩
end
section
variable {P : Program} {W0 : World} {H : Heap} {nx n : Nat} {ev : Operand → Option Value} {dst : Option Tmp} {type : TypeId} {pos : String} {after : Array Edge} {guard : Option (Nat × Bool)}
theorem aop_append_full {b k m sz bytes : Nat} {el : TypeId} {u : Value} {cs xs z : List Value} {q : Option TypeId} {ro : Bool} {esz : Nat} {x y : Operand} {st xt : TypeId} {xd : TypeDesc} (hx : ev x = some (.slice (some ⟨b, 0, none⟩) k k)) (hy : ev y = some u)
    (hH : H b = some (.cells cs esz none ro q)) (hc : cs.length = k * sz)
    (hs : source H sz u none = some (m, xs)) (h1 : xs.all (·.oneCell') = true) (hm : m ≠ 0) (hst : P.underlying st = some (.slice el)) (hxt : P.underlying xt = some xd) (hxd : notInt xd = true)
    (hsz : szOf P el = some sz) (hby : bytesOfT P el = some bytes) (hz : zeroOf P el = some z) (hzl : z.length = sz) (hle : k + m ≤ 1099511627776) (hle2 : (2 * (k + m) + 192) * bytes ≤ 281474976710656) :
    aop P H nx ev ⟨dst, .call ⟨.builtin .append, #[x, y], #[st, xt]⟩, type, pos, after, guard⟩ = some (.slice (some ⟨nx, 0, some nx⟩) (k + m) (k + m), .new (.cells (cs ++ xs) sz (some nx) false (some el))) := by
  have hg : getc H ⟨b, 0, none⟩ (k * sz) = some cs := by
    unfold getc
    simp only [hH]
    rw [if_pos ⟨trivial, by omega⟩]
    simp [← hc]
  simp [aop, hx, hy, evAll, aBuiltin, aAppend, hst, hxt, hsz, hby, hz, hxd, hzl, hs, hm, hH, hle, hle2, hg]
  rw [if_pos (by simpa using h1), if_neg (by omega : ¬ (k + m ≤ k))]
end
section
variable {P : Program} {W0 : World} {H : Heap} {nx n : Nat} {ops : Array Oper} {l : List Oper} {tm : Nat → Value} {QQ : ASt → Prop}
end
end Go.Am
namespace Go.Proofs.YtmijhkclfoadaaaDoor
set_option linter.unusedSimpArgs false
set_option linter.unusedVariables false
open Go.Am Go.RowKit
theorem tmod_lt (a n : Int) (h0 : 0 < n) (h : a.tmod n < 0) : a.tmod n + n = a % n := by
  have e : a % n = _ := @Int.emod_eq_tmod a n
  have h3 := Int.emod_nonneg a (by omega : n ≠ 0)
  split at e <;> omega
theorem tmod_ge (a n : Int) (h0 : 0 < n) (h : ¬ a.tmod n < 0) : a.tmod n = a % n := by
  have h1 := Int.tmod_lt_of_pos a h0
  have hd := Int.mul_tdiv_add_tmod a n
  have : a % n = (n * a.tdiv n + a.tmod n) % n := by rw [hd]
  rw [this, Int.mul_add_emod_self_left, Int.emod_eq_of_lt (by omega) h1]
set_option maxHeartbeats 400000 in
theorem within_calls (a n : Int) (h0 : 0 < n) (h1 : n ≤ 4611686018427387904) (w : World) : Calls Tryd.prog 14 #[.int .i64 a, .int .i64 n] w fun e w' => e = .returned (.int .i64 (a % n)) ∧ BelD w.heap.size w w' := by
  have g1 := Int.tmod_lt_of_pos a h0
  have g2 := Int.lt_tmod_of_pos a h0
  have hn : (n == 0) = false := by rw [beq_eq_false_iff_ne]; omega
  by_cases hk : a.tmod n < 0
  · have e := tmod_lt a n h0 hk
    have E := Lib.hid e
    clear e
    go_enter Tryd.func14, Tryd.ntmps14
    go_wp2
    go_ret
    exact ⟨by rw [← E.out]; rfl, BelD.refl _ _⟩
  · have e := tmod_ge a n h0 hk
    have E := Lib.hid e
    clear e
    go_enter Tryd.func14, Tryd.ntmps14
    go_wp2
    go_ret
    exact ⟨by rw [← E.out]; rfl, BelD.refl _ _⟩
theorem entersWithin : Am.Enters Tryd.prog 14 := ⟨Tryd.f14, Tryd.func14, by kernel_rfl, by kernel_rfl⟩
theorem within_told (W0 : World) (a n k : Int) (h0 : 0 < n) (h1 : n ≤ 4611686018427387904) (hk : a % n = k) : AsTold Tryd.prog W0 (14, [.int .i64 a, .int .i64 n], .int .i64 k) := by
  subst hk
  exact told_of_calls entersWithin rfl rfl (fun w => within_calls a n h0 h1 w)
set_option maxHeartbeats 400000 in
theorem within1_calls (a n : Int) (h0 : 0 < n) (h1 : n ≤ 4611686018427387904) (w : World) : Calls Tryd.prog 39 #[.int .i64 a, .int .i64 n] w fun e w' => e = .returned (.int .i64 (a % n)) ∧ BelD w.heap.size w w' := by
  have g1 := Int.tmod_lt_of_pos a h0
  have g2 := Int.lt_tmod_of_pos a h0
  have hn : (n == 0) = false := by rw [beq_eq_false_iff_ne]; omega
  by_cases hk : a.tmod n < 0
  · have e := tmod_lt a n h0 hk
    have E := Lib.hid e
    clear e
    go_enter Tryd.func39, Tryd.ntmps39
    go_wp2
    go_ret
    exact ⟨by rw [← E.out]; rfl, BelD.refl _ _⟩
  · have e := tmod_ge a n h0 hk
    have E := Lib.hid e
    clear e
    go_enter Tryd.func39, Tryd.ntmps39
    go_wp2
    go_ret
    exact ⟨by rw [← E.out]; rfl, BelD.refl _ _⟩
theorem entersWithin1 : Am.Enters Tryd.prog 39 := ⟨Tryd.f39, Tryd.func39, by kernel_rfl, by kernel_rfl⟩
theorem within1_told (W0 : World) (a n k : Int) (h0 : 0 < n) (h1 : n ≤ 4611686018427387904) (hk : a % n = k) : AsTold Tryd.prog W0 (39, [.int .i64 a, .int .i64 n], .int .i64 k) := by
  subst hk
  exact told_of_calls entersWithin1 rfl rfl (fun w => within1_calls a n h0 h1 w)
end Go.Proofs.YtmijhkclfoadaaaDoor
namespace Go.Proofs.YtmijhkclfoadaaaDoor
set_option linter.unusedSimpArgs false
set_option linter.unusedVariables false
open Go.Am Go.RowKit
attribute [local irreducible] aop OpsL Trip blockExit OpsD
theorem withinC (W0 : World) {nx : Nat} {H : Heap} (a m : Int) (h0 : 0 < m) (h1 : m ≤ 4611686018427387904) : ACalls Tryd.prog W0 39 [.int .i64 a, .int .i64 m] nx H fun v nx' H' => v = .int .i64 (a % m) ∧ nx' = nx ∧ H' = H :=
  (within1_told W0 a m _ h0 h1 rfl).2 nx H
def SymsAt (H : Heap) (v : Value) (ss : List (ByteArray × Int)) : Prop :=
  ∃ a c, v = .slice (some a) ss.length c ∧ ∀ (i : Nat) (h : i < ss.length), getc H ⟨a.block, a.off + i * 2, a.spot⟩ 2 = some [.string ss[i].1, .int .i64 ss[i].2]
theorem SymsAt.ext {nx nx' : Nat} {H H' : Heap} {v : Value} {ss : List (ByteArray × Int)} (h : Ext nx H nx' H') (hok : ∀ id o, H id = some o → id < nx) (hs : SymsAt H v ss) : SymsAt H' v ss := by
  obtain ⟨a, c, rfl, hs⟩ := hs
  exact ⟨a, c, rfl, fun i q => getc_ext h hok (hs i q)⟩
def baseF : List (ByteArray × Int) := [(⟨#[97]⟩, 1), (⟨#[97]⟩, 2), (⟨#[98]⟩, 3), (⟨#[99]⟩, 1), (⟨#[99]⟩, 2), (⟨#[100]⟩, 3), (⟨#[120]⟩, 2)]
def symsF (n : Int) (ns : List Int) : List (ByteArray × Int) :=
  if n % 7 = 1 then [(⟨#[98]⟩, 3), (⟨#[97]⟩, 2), (⟨#[97]⟩, 1)]
  else match ns with
    | x :: _ => if n % 11 = 2 then (baseF.drop (x % 7).toNat).take 1 else baseF.take (3 + n % 5).toNat
    | [] => baseF.take (3 + n % 5).toNat
theorem baseF_kind : ∀ s ∈ baseF, s.2 = 1 ∨ s.2 = 2 ∨ s.2 = 3 := by decide
theorem symsF_good (n : Int) (ns : List Int) : 0 < (symsF n ns).length ∧ (symsF n ns).length ≤ 7 ∧ ∀ s ∈ symsF n ns, s.2 = 1 ∨ s.2 = 2 ∨ s.2 = 3 := by
  have m5 := Int.emod_nonneg n (by omega : (5 : Int) ≠ 0)
  have m5' := Int.emod_lt_of_pos n (by omega : (0 : Int) < 5)
  have hb : baseF.length = 7 := rfl
  have htake : 0 < (baseF.take (3 + n % 5).toNat).length ∧ (baseF.take (3 + n % 5).toNat).length ≤ 7 ∧ ∀ s ∈ baseF.take (3 + n % 5).toNat, s.2 = 1 ∨ s.2 = 2 ∨ s.2 = 3 :=
    ⟨by rw [List.length_take]; omega, by rw [List.length_take]; omega, fun s hs => baseF_kind s (List.mem_of_mem_take hs)⟩
  unfold symsF
  split
  · exact ⟨by simp, by simp, by simp⟩
  · split
    · rename_i x l
      have x7 := Int.emod_nonneg x (by omega : (7 : Int) ≠ 0)
      have x7' := Int.emod_lt_of_pos x (by omega : (0 : Int) < 7)
      split
      · refine ⟨?_, ?_, fun s hs => baseF_kind s (List.mem_of_mem_drop (List.mem_of_mem_take hs))⟩ <;> (rw [List.length_take, List.length_drop]; omega)
      · exact htake
    · exact htake
theorem entersSyms : Am.Enters Tryd.prog 12 := ⟨Tryd.f12, Tryd.func12, by kernel_rfl, by kernel_rfl⟩
def symCells : List Value := [.string ⟨#[97]⟩, .int .i64 1, .string ⟨#[97]⟩, .int .i64 2, .string ⟨#[98]⟩, .int .i64 3, .string ⟨#[99]⟩, .int .i64 1, .string ⟨#[99]⟩, .int .i64 2, .string ⟨#[100]⟩, .int .i64 3, .string ⟨#[120]⟩, .int .i64 2]
set_option maxRecDepth 20000 in
set_option maxHeartbeats 4000000 in
theorem symsC (W0 : World) {nx : Nat} {H : Heap} {nv : Value} {m : Int} {ns : List Int} (hn : IntsAt H nv ns) :
    ACalls Tryd.prog W0 12 [.int .i64 m, nv] nx H fun v nx' H' => SymsAt H' v (symsF m ns) ∧ Ext nx H nx' H' := by
  obtain ⟨na, nc, rfl⟩ := hn.slice
  refine ACalls.by_trip (fn := Tryd.f12) (c := _) Tryd.func12 rfl (fun tm n hn0 htm => ?_)
  have e0 : tm 0 = .int .i64 m := htm 0
  have e1 : tm 1 = .slice na ns.length nc := htm 1
  clear htm
  replace hn0 : n = 50 := hn0
  refine Trip.ok fun hok => ?_
  replace hok : ∀ id o, H id = some o → id < nx := hok
  repeat (first | (refine OpsL.p (by subst_vars; decide) (by (first | (exact aop_assign (by (first | (simp only [ASt.ev, tmPut, ↓reduceIte, Nat.reduceEqDiff, *]; rfl)))))) ?_) | (refine Trip.seq ?_) | (refine Trip.ops ?_) | (refine OpsL.nil ?_; (change Trip _ _ _ _ _)))
  refine OpsL.p (by subst_vars; decide) (aop_build (v := .agg #[.string ⟨#[97]⟩, .int .i64 1]) (by exact rfl) (by exact rfl)) ?_
  refine OpsL.p (by subst_vars; decide) (aop_build (v := .agg #[.string ⟨#[97]⟩, .int .i64 2]) (by exact rfl) (by exact rfl)) ?_
  refine OpsL.p (by subst_vars; decide) (aop_build (v := .agg #[.string ⟨#[98]⟩, .int .i64 3]) (by exact rfl) (by exact rfl)) ?_
  refine OpsL.p (by subst_vars; decide) (aop_build (v := .agg #[.string ⟨#[99]⟩, .int .i64 1]) (by exact rfl) (by exact rfl)) ?_
  refine OpsL.p (by subst_vars; decide) (aop_build (v := .agg #[.string ⟨#[99]⟩, .int .i64 2]) (by exact rfl) (by exact rfl)) ?_
  refine OpsL.p (by subst_vars; decide) (aop_build (v := .agg #[.string ⟨#[100]⟩, .int .i64 3]) (by exact rfl) (by exact rfl)) ?_
  refine OpsL.p (by subst_vars; decide) (aop_build (v := .agg #[.string ⟨#[120]⟩, .int .i64 2]) (by exact rfl) (by exact rfl)) ?_
  refine OpsL.new (o := .cells symCells 2 none false (some 60)) (by subst_vars; decide) (aop_buildSlice (l := [(0, .agg #[.string ⟨#[97]⟩, .int .i64 1]), (1, .agg #[.string ⟨#[97]⟩, .int .i64 2]), (2, .agg #[.string ⟨#[98]⟩, .int .i64 3]), (3, .agg #[.string ⟨#[99]⟩, .int .i64 1]), (4, .agg #[.string ⟨#[99]⟩, .int .i64 2]), (5, .agg #[.string ⟨#[100]⟩, .int .i64 3]), (6, .agg #[.string ⟨#[120]⟩, .int .i64 2])]) (by simp only [evParts, ASt.ev, tmPut, ↓reduceIte, reduceIte, Option.some.injEq, Nat.reduceEqDiff]) (by exact rfl)) ?_
  repeat (first | (refine OpsL.p (by subst_vars; decide) (by (first | (exact aop_move (by (first | (simp only [ASt.ev, tmPut, ↓reduceIte, Nat.reduceEqDiff, *]; rfl)))) | (exact aop_assign (by (first | (simp only [ASt.ev, tmPut, ↓reduceIte, Nat.reduceEqDiff, *]; rfl)))))) ?_) | (refine Trip.seq ?_) | (refine Trip.ops ?_) | (refine OpsL.nil ?_; (change Trip _ _ _ _ _)))
  refine OpsL.call2 (by subst_vars; decide) (by (first | (simp only [ASt.ev, tmPut, ↓reduceIte, Nat.reduceEqDiff, *]; rfl))) (by (first | (simp only [ASt.ev, tmPut, ↓reduceIte, Nat.reduceEqDiff, *]; rfl))) entersWithin1 (withinC W0 _ _ (by omega) (by omega)) ?_
  rintro v nx1 H1 ⟨rfl, rfl, rfl⟩
  have m5 := Int.emod_nonneg m (by omega : (5 : Int) ≠ 0)
  have m5' := Int.emod_lt_of_pos m (by omega : (0 : Int) < 5)
  repeat (first | (refine OpsL.p (by subst_vars; decide) (by (first | (exact aop_move (by (first | (simp only [ASt.ev, tmPut, ↓reduceIte, Nat.reduceEqDiff, *]; rfl)))) | (exact aop_assign (by (first | (simp only [ASt.ev, tmPut, ↓reduceIte, Nat.reduceEqDiff, *]; rfl)))) | (exact aop_add (by (first | (simp only [ASt.ev, tmPut, ↓reduceIte, Nat.reduceEqDiff, *]; rfl))) (by (first | (simp only [ASt.ev, tmPut, ↓reduceIte, Nat.reduceEqDiff, *]; rfl))) (by omega)))) ?_) | (refine Trip.seq ?_) | (refine Trip.ops ?_) | (refine OpsL.nil ?_; (change Trip _ _ _ _ _)))
  refine OpsL.call2 (by subst_vars; decide) (by (first | (simp only [ASt.ev, tmPut, ↓reduceIte, Nat.reduceEqDiff, *]; rfl))) (by (first | (simp only [ASt.ev, tmPut, ↓reduceIte, Nat.reduceEqDiff, *]; rfl))) entersWithin1 (withinC W0 _ _ (by omega) (by omega)) ?_
  rintro v nx1 H1 ⟨rfl, rfl, rfl⟩
  have hall : ∀ (i : Nat) (h : i < baseF.length) (k : Nat), k = i * 2 → getc (H.put nx (.cells symCells 2 none false (some 60))) ⟨nx, k, none⟩ 2 = some [.string baseF[i].1, .int .i64 baseF[i].2] := by
    intro i h k hk
    subst hk
    have : i = 0 ∨ i = 1 ∨ i = 2 ∨ i = 3 ∨ i = 4 ∨ i = 5 ∨ i = 6 := by simp [baseF] at h; omega
    rcases this with rfl | rfl | rfl | rfl | rfl | rfl | rfl <;> (rw [getc_own (by decide)]; rfl)
  repeat (first | (refine OpsL.p (by subst_vars; decide) (by (first | (exact aop_eql (by (first | (simp only [ASt.ev, tmPut, ↓reduceIte, Nat.reduceEqDiff, *]; rfl))) (by (first | (simp only [ASt.ev, tmPut, ↓reduceIte, Nat.reduceEqDiff, *]; rfl)))))) ?_) | (refine Trip.seq ?_) | (refine Trip.ite (by (first | (simp only [ASt.ev, tmPut, ↓reduceIte, Nat.reduceEqDiff, *]; rfl))) (fun _ => ?_) (fun _ => ?_)) | (refine OpsL.nil ?_; (change Trip _ _ _ _ _)))
  · rename_i h7
    refine OpsL.drawn (by kernel_rfl) (by kernel_rfl) (by kernel_rfl) ?_
    repeat (first | (refine OpsL.p (by subst_vars; decide) (by (first | (exact aop_move (by (first | (simp only [ASt.ev, tmPut, ↓reduceIte, Nat.reduceEqDiff, *]; rfl)))) | (exact aop_indexAddr (by (first | (simp only [ASt.ev, tmPut, ↓reduceIte, Nat.reduceEqDiff, *]; rfl))) (by (first | (simp only [ASt.ev, tmPut, ↓reduceIte, Nat.reduceEqDiff, *]; rfl))) (by exact rfl) (by exact rfl) (by omega) (by omega)))) ?_))
    refine OpsL.p (by subst_vars; decide) (aop_loadAgg (k := 2) (by (first | (simp only [ASt.ev, tmPut, ↓reduceIte, Nat.reduceEqDiff, *]; rfl))) (by exact rfl) rfl (by exact rfl) (hall 2 (by decide) _ (by exact rfl))) ?_
    repeat (first | (refine OpsL.p (by subst_vars; decide) (by (first | (exact aop_move (by (first | (simp only [ASt.ev, tmPut, ↓reduceIte, Nat.reduceEqDiff, *]; rfl)))) | (exact aop_indexAddr (by (first | (simp only [ASt.ev, tmPut, ↓reduceIte, Nat.reduceEqDiff, *]; rfl))) (by (first | (simp only [ASt.ev, tmPut, ↓reduceIte, Nat.reduceEqDiff, *]; rfl))) (by exact rfl) (by exact rfl) (by omega) (by omega)))) ?_))
    refine OpsL.p (by subst_vars; decide) (aop_loadAgg (k := 2) (by (first | (simp only [ASt.ev, tmPut, ↓reduceIte, Nat.reduceEqDiff, *]; rfl))) (by exact rfl) rfl (by exact rfl) (hall 1 (by decide) _ (by exact rfl))) ?_
    repeat (first | (refine OpsL.p (by subst_vars; decide) (by (first | (exact aop_move (by (first | (simp only [ASt.ev, tmPut, ↓reduceIte, Nat.reduceEqDiff, *]; rfl)))) | (exact aop_indexAddr (by (first | (simp only [ASt.ev, tmPut, ↓reduceIte, Nat.reduceEqDiff, *]; rfl))) (by (first | (simp only [ASt.ev, tmPut, ↓reduceIte, Nat.reduceEqDiff, *]; rfl))) (by exact rfl) (by exact rfl) (by omega) (by omega)))) ?_))
    refine OpsL.p (by subst_vars; decide) (aop_loadAgg (k := 2) (by (first | (simp only [ASt.ev, tmPut, ↓reduceIte, Nat.reduceEqDiff, *]; rfl))) (by exact rfl) rfl (by exact rfl) (hall 0 (by decide) _ (by exact rfl))) ?_
    refine OpsL.new (o := .cells [.string ⟨#[98]⟩, .int .i64 3, .string ⟨#[97]⟩, .int .i64 2, .string ⟨#[97]⟩, .int .i64 1] 2 none false (some 60)) (by subst_vars; decide)
      (aop_buildSlice (l := [(0, .agg #[.string ⟨#[98]⟩, .int .i64 3]), (1, .agg #[.string ⟨#[97]⟩, .int .i64 2]), (2, .agg #[.string ⟨#[97]⟩, .int .i64 1])]) (by simp only [evParts, ASt.ev, tmPut, ↓reduceIte, reduceIte, Option.some.injEq, Nat.reduceEqDiff]; rfl) (by exact rfl)) ?_
    repeat (first | (refine OpsL.p (by subst_vars; decide) (by (first | (exact aop_assign (by (first | (simp only [ASt.ev, tmPut, ↓reduceIte, Nat.reduceEqDiff, *]; rfl)))))) ?_) | (refine Trip.ret ?_; (dsimp only)) | (refine OpsL.nil ?_; (change Trip _ _ _ _ _)))
    refine ⟨.inr rfl, _, res_tmp, ?_, ⟨by show nx ≤ nx + 1 + 1; omega, fun i hi => by rw [Heap.put_ne (by omega), Heap.put_ne (by omega)]⟩⟩
    have hsy : symsF m ns = [(⟨#[98]⟩, 3), (⟨#[97]⟩, 2), (⟨#[97]⟩, 1)] := by unfold symsF; rw [if_pos h7]
    rw [hsy]
    refine ⟨⟨nx + 1, 0, none⟩, 3, by simp [tmPut], fun i hi => ?_⟩
    have : i = 0 ∨ i = 1 ∨ i = 2 := by simp at hi; omega
    rcases this with rfl | rfl | rfl <;> (rw [getc_own (by show 0 + _ * 2 + 2 ≤ 6; decide)]; rfl)
  · rename_i h7
    repeat (first | (refine OpsL.p (by subst_vars; decide) (by (first | (exact aop_move (by (first | (simp only [ASt.ev, tmPut, ↓reduceIte, Nat.reduceEqDiff, *]; rfl)))))) ?_) | (refine Trip.seq ?_) | (refine Trip.ops ?_) | (refine Trip.skip ?_; (change Trip _ _ _ _ _)))
    refine OpsL.call2 (by subst_vars; decide) (by (first | (simp only [ASt.ev, tmPut, ↓reduceIte, Nat.reduceEqDiff, *]; rfl))) (by (first | (simp only [ASt.ev, tmPut, ↓reduceIte, Nat.reduceEqDiff, *]; rfl))) entersWithin1 (withinC W0 _ _ (by omega) (by omega)) ?_
    rintro v nx1 H1 ⟨rfl, rfl, rfl⟩
    repeat' (first | (refine OpsL.p (by subst_vars; decide) (by (first | (exact aop_move (by (first | (simp only [ASt.ev, tmPut, ↓reduceIte, Nat.reduceEqDiff, *]; rfl)))) | (exact aop_gtr (by (first | (simp only [ASt.ev, tmPut, ↓reduceIte, Nat.reduceEqDiff, *]; rfl))) (by (first | (simp only [ASt.ev, tmPut, ↓reduceIte, Nat.reduceEqDiff, *]; rfl)))) | (exact aop_eql (by (first | (simp only [ASt.ev, tmPut, ↓reduceIte, Nat.reduceEqDiff, *]; rfl))) (by (first | (simp only [ASt.ev, tmPut, ↓reduceIte, Nat.reduceEqDiff, *]; rfl)))) | (exact aop_len (by (first | (simp only [ASt.ev, tmPut, ↓reduceIte, Nat.reduceEqDiff, *]; rfl))) (by exact rfl)) | (exact aop_pickT (by (first | (simp only [ASt.ev, tmPut, ↓reduceIte, Nat.reduceEqDiff, *]; rfl))) (by (first | (simp only [ASt.ev, tmPut, ↓reduceIte, Nat.reduceEqDiff, *]; rfl)))) | (exact aop_pickF (by (first | (simp only [ASt.ev, tmPut, ↓reduceIte, Nat.reduceEqDiff, *]; rfl))) (by (first | (simp only [ASt.ev, tmPut, ↓reduceIte, Nat.reduceEqDiff, *]; rfl)))))) ?_) | (refine Trip.seq ?_) | (refine Trip.ops ?_) | (refine Trip.ite (by (first | (simp only [ASt.ev, tmPut, ↓reduceIte, Nat.reduceEqDiff, *]; rfl))) (fun _ => ?_) (fun _ => ?_)) | (refine Trip.skip ?_; (change Trip _ _ _ _ _)) | (refine OpsL.nil ?_; (change Trip _ _ _ _ _)) | (refine OpsL.unguard (by exact rfl) (by (first | (simp only [ASt.ev, tmPut, ↓reduceIte, Nat.reduceEqDiff, *]; rfl))) ?_) | (refine OpsL.skipped (by exact rfl) (by (first | (simp only [ASt.ev, tmPut, ↓reduceIte, Nat.reduceEqDiff, *]; rfl))) (by subst_vars; decide) ?_) | (refine OpsL.guardT (by exact rfl) (by (first | (simp only [ASt.ev, tmPut, ↓reduceIte, Nat.reduceEqDiff, *]; rfl))) (by subst_vars; decide) (fun _ => ?_) (fun _ => ?_)))
    · rename_i h11 hlen
      obtain ⟨x, ns, rfl⟩ : ∃ x l, ns = x :: l := by cases ns with | nil => simp at hlen | cons x l => exact ⟨x, l, rfl⟩
      obtain ⟨p, rfl, hc⟩ := hn.get (i := 0) (by simp)
      replace hc : cellAt (H.put nx (.cells symCells 2 none false (some 60))) ⟨p.block, p.off + (0 : Int).toNat * 1, p.spot⟩ (.int .i64 x) := by
        obtain ⟨o, ho⟩ := getc_some hc
        have := hok _ _ ho
        unfold cellAt at *
        rw [getc_put (by simp only at this ⊢; omega)]
        exact hc
      have x7 := Int.emod_nonneg x (by omega : (7 : Int) ≠ 0)
      have x7' := Int.emod_lt_of_pos x (by omega : (0 : Int) < 7)
      repeat (first | (refine OpsL.p (by subst_vars; decide) (by (first | (exact aop_indexAddr (by (first | (simp only [ASt.ev, tmPut, ↓reduceIte, Nat.reduceEqDiff, *]; rfl))) (by (first | (simp only [ASt.ev, tmPut, ↓reduceIte, Nat.reduceEqDiff, *]; rfl))) (by exact rfl) (by exact rfl) (by omega) (by omega)) | (exact aop_load (by (first | (simp only [ASt.ev, tmPut, ↓reduceIte, Nat.reduceEqDiff, *]; rfl))) (by exact rfl) rfl (by assumption)))) ?_))
      refine OpsL.call2 (by subst_vars; decide) (by (first | (simp only [ASt.ev, tmPut, ↓reduceIte, Nat.reduceEqDiff, *]; rfl))) (by (first | (simp only [ASt.ev, tmPut, ↓reduceIte, Nat.reduceEqDiff, *]; rfl))) entersWithin1 (withinC W0 _ _ (by omega) (by omega)) ?_
      rintro v nx1 H1 ⟨rfl, rfl, rfl⟩
      repeat (first | (refine OpsL.p (by subst_vars; decide) (by (first | (exact aop_indexAddr (by (first | (simp only [ASt.ev, tmPut, ↓reduceIte, Nat.reduceEqDiff, *]; rfl))) (by (first | (simp only [ASt.ev, tmPut, ↓reduceIte, Nat.reduceEqDiff, *]; rfl))) (by exact rfl) (by exact rfl) (by omega) (by omega)))) ?_))
      have h7l : (x % 7).toNat < baseF.length := by show _ < 7; omega
      refine OpsL.p (by subst_vars; decide) (aop_loadAgg (k := 2) (by (first | (simp only [ASt.ev, tmPut, ↓reduceIte, Nat.reduceEqDiff, *]; rfl))) (by exact rfl) rfl (by exact rfl) (hall (x % 7).toNat h7l _ (by show 0 + _ * 2 = _; omega))) ?_
      refine OpsL.new (o := .cells [.string baseF[(x % 7).toNat].1, .int .i64 baseF[(x % 7).toNat].2] 2 none false (some 60)) (by subst_vars; decide)
        (aop_buildSlice (l := [(0, .agg [.string baseF[(x % 7).toNat].1, .int .i64 baseF[(x % 7).toNat].2].toArray)]) (by simp only [evParts, ASt.ev, tmPut, ↓reduceIte, reduceIte, Option.some.injEq, Nat.reduceEqDiff]) (by exact rfl)) ?_
      repeat (first | (refine OpsL.p (by subst_vars; decide) (by (first | (exact aop_assign (by (first | (simp only [ASt.ev, tmPut, ↓reduceIte, Nat.reduceEqDiff, *]; rfl)))))) ?_) | (refine Trip.ret ?_; (dsimp only)) | (refine OpsL.nil ?_; (change Trip _ _ _ _ _)))
      refine ⟨.inr rfl, _, res_tmp, ?_, ⟨by show nx ≤ nx + 1 + 1; omega, fun i hi => by rw [Heap.put_ne (by omega), Heap.put_ne (by omega)]⟩⟩
      have hsy : symsF m (x :: ns) = [baseF[(x % 7).toNat]] := by
        unfold symsF
        rw [if_neg h7]
        simp only [h11, if_true]
        rw [List.take_one, List.head?_drop, List.getElem?_eq_getElem h7l]
        rfl
      rw [hsy]
      refine ⟨⟨nx + 1, 0, none⟩, 1, by simp [tmPut], fun i hi => ?_⟩
      have : i = 0 := by simp at hi; omega
      subst this
      rw [getc_own (by show 0 + 0 * 2 + 2 ≤ 2; omega)]
      rfl
    all_goals
      try refine Trip.iteB (b := false) (by (first | (simp only [ASt.ev, tmPut, ↓reduceIte, Nat.reduceEqDiff, *]; done))) (fun h => absurd h (by decide)) (fun _ => ?_)
      repeat (first | (refine OpsL.p (by subst_vars; decide) (by (first | (exact aop_move (by (first | (simp only [ASt.ev, tmPut, ↓reduceIte, Nat.reduceEqDiff, *]; rfl)))))) ?_) | (refine Trip.seq ?_) | (refine Trip.ops ?_) | (refine Trip.skip ?_; (change Trip _ _ _ _ _)))
      refine OpsL.p (by subst_vars; decide) (aop_slice (a := none) (b := some (.int .i64 (3 + m % 5))) (c := none) (by (first | (simp only [ASt.ev, tmPut, ↓reduceIte, Nat.reduceEqDiff, *]; rfl))) rfl (by simp only [evOpt, ASt.ev, tmPut, ↓reduceIte, reduceIte, Option.some.injEq, Nat.reduceEqDiff, Option.map_some]) rfl
        (aSlice_plain (l := 0) (h := (3 + m % 5).toNat) (sz := 2) (by exact rfl) (by exact rfl) Heap.put_eq rfl rfl (.inl ⟨rfl, rfl⟩) (.inr ⟨.i64, by congr 2; omega⟩) (by omega) (by omega))) ?_
      repeat (first | (refine OpsL.p (by subst_vars; decide) (by (first | (exact aop_assign (by (first | (simp only [ASt.ev, tmPut, ↓reduceIte, Nat.reduceEqDiff, *]; rfl)))))) ?_) | (refine Trip.ret ?_; (dsimp only)) | (refine OpsL.nil ?_; (change Trip _ _ _ _ _)))
      refine ⟨.inr rfl, _, res_tmp, ?_, ⟨by show nx ≤ nx + 1; omega, fun i hi => by rw [Heap.put_ne (by omega)]⟩⟩
      have hsy : symsF m ns = baseF.take (3 + m % 5).toNat := by
        unfold symsF
        rw [if_neg h7]
        cases ns with
        | nil => rfl
        | cons x l => simp_all
      have hlen : (baseF.take (3 + m % 5).toNat).length = (3 + m % 5).toNat := by
        rw [List.length_take]; show min _ 7 = _; omega
      rw [hsy]
      refine ⟨⟨nx, 0, none⟩, 7, by rw [hlen]; simp [tmPut], fun i hi => ?_⟩
      rw [hlen] at hi
      rw [List.getElem_take]
      exact hall i (by show i < 7; omega) _ (by show 0 + i * 2 = _; omega)
end Go.Proofs.YtmijhkclfoadaaaDoor
