/-
  sets.Both, sets.Join; byAThenB at trees; what is behind the first ones of a row.
-/
import Derived.Test.YtigincejpjajpaaTidyP2
namespace Go.Proofs.Ytigincejpjajpaa
set_option linter.unusedSimpArgs false
set_option linter.unusedVariables false
open Go.RowKit Go.Am Go.Shelf
attribute [local irreducible] aop OpsL Trip blockExit OpsD OpsK OpsR

theorem cmpP_zero (x y : Int × Int) : cmpP x y = 0 ↔ x = y := by
  obtain ⟨a, b⟩ := x
  obtain ⟨c, d⟩ := y
  unfold cmpP Lib.compareInt
  simp only [Prod.mk.injEq]
  constructor
  · intro h
    split at h <;> split at h <;> (try split at h) <;> (try (cases h; done)) <;> omega
  · rintro ⟨rfl, rfl⟩
    simp
theorem cmpP_gt (x y : Int × Int) : 0 < cmpP x y ↔ ltP y x := by
  have h1 := cmpP_lt x y
  have h2 := cmpP_zero x y
  constructor
  · intro h
    by_cases hy : ltP y x
    · exact hy
    · by_cases hx : ltP x y
      · have := h1.2 hx; omega
      · have := h2.2 (ltP_total hx hy); omega
  · intro h
    by_cases hx : cmpP x y < 0
    · exact absurd (ltP_trans (h1.1 hx) h) (ltP_irrefl _)
    · by_cases hz : cmpP x y = 0
      · have e := h2.1 hz
        subst e
        exact absurd h (ltP_irrefl _)
      · omega

theorem entersCmpI : Am.Enters Try.prog 40 := ⟨Try.f40, Try.func40, by kernel_rfl, by kernel_rfl⟩
theorem entersByAB : Am.Enters Try.prog 42 := ⟨Try.f42, Try.func42, by kernel_rfl, by kernel_rfl⟩

theorem cmpIC (W0 : World) {nx : Nat} {H : Heap} (x y : Int) : ACalls Try.prog W0 40 [.int .i64 x, .int .i64 y] nx H fun v nx' H' => v = .int .i64 (Lib.compareInt x y) ∧ nx' = nx ∧ H' = H :=
  (told_of_calls (W0 := W0) (P := Try.prog) (f := 40) (args := [.int .i64 x, .int .i64 y]) (r := .int .i64 (Lib.compareInt x y)) entersCmpI rfl rfl (fun w => (AnyG.cmp_Compare_int cmpIntL x y w).mono (by
    rintro e w' ⟨h1, h2⟩
    subst h2
    exact ⟨h1, Below.refl _ _⟩))).2 nx H

set_option maxRecDepth 20000 in
set_option maxHeartbeats 4000000 in
theorem byAThenC (W0 : World) {nx : Nat} {H : Heap} (x y : Int × Int) :
    ACalls Try.prog W0 42 [.agg (encP x).toArray, .agg (encP y).toArray] nx H fun v nx' H' => v = .int .i64 (cmpP x y) ∧ Ext nx H nx' H' := by
  refine ACalls.by_trip (fn := Try.f42) (c := _) Try.func42 rfl (fun tm n hn0 htm => ?_)
  have e0 : tm 0 = .agg (encP x).toArray := htm 0
  have e1 : tm 1 = .agg (encP y).toArray := htm 1
  clear htm
  replace hn0 : n = 20 := hn0
  refine Trip.seq ?_
  refine Trip.ops ?_
  refine OpsL.new (by subst_vars; decide) (aop_box (by (first | (simp only [ASt.ev, tmPut, ↓reduceIte, reduceIte, Nat.reduceEqDiff, plain1, *]; rfl) | fail))) ?_
  refine OpsL.new (by subst_vars; decide) (aop_box (by (first | (simp only [ASt.ev, tmPut, ↓reduceIte, reduceIte, Nat.reduceEqDiff, plain1, *]; rfl) | fail))) ?_
  obtain ⟨G, hG⟩ : ∃ G, G = (H.put nx (.cells (Value.agg (encP x).toArray).cells.toList 0 none false (some 27))).put (nx + 1) (.cells (Value.agg (encP y).toArray).cells.toList 0 none false (some 27)) := ⟨_, rfl⟩
  have hx0 : Ext nx H (nx + 1 + 1) G := by rw [hG]; exact Ext.newPut.trans Ext.newPut
  have gx : getc G ⟨nx, 0, none⟩ 2 = some [.int .i64 x.1, .int .i64 x.2] := by rw [hG, getc_put (by simp)]; exact getc_own (by show 0 + 2 ≤ 2; decide)
  have gy : getc G ⟨nx + 1, 0, none⟩ 2 = some [.int .i64 y.1, .int .i64 y.2] := by rw [hG]; exact getc_own (by show 0 + 2 ≤ 2; decide)
  have c1 := cellAt0_of_getc gx
  have c2 := cellAt_of_getc gx
  have c3 := cellAt0_of_getc gy
  have c4 := cellAt_of_getc gy
  dsimp only at c1 c2 c3 c4
  rw [← hG]
  clear hG gx gy
  repeat (first | (refine OpsL.p (by subst_vars; decide) (by (first | (exact aop_load (by (first | (simp only [ASt.ev, tmPut, ↓reduceIte, reduceIte, Nat.reduceEqDiff, plain1, *]; rfl) | fail)) (by exact rfl) rfl (by assumption)) | (exact aop_fieldAddr (by (first | (simp only [ASt.ev, tmPut, ↓reduceIte, reduceIte, Nat.reduceEqDiff, plain1, *]; rfl) | fail)) (by exact rfl)) | (exact aop_assign (by (first | (simp only [ASt.ev, tmPut, ↓reduceIte, reduceIte, Nat.reduceEqDiff, plain1, *]; rfl) | fail))) | fail)) ?_) | (refine Trip.seq ?_) | (refine Trip.ops ?_) | (refine OpsL.nil ?_; ((repeat (first | refine blockExit_eq ?_ | refine blockExit_ne (by decide) ?_ | refine blockExit_normal ?_ | refine blockExit_ret ?_ | refine blockExit_goto ?_)); first | (change Trip _ _ _ _ _) | dsimp only | skip)) | fail)
  by_cases he : x.1 = y.1
  · refine OpsL.p (by subst_vars; decide) (aop_neqF (by (first | (simp only [ASt.ev, tmPut, ↓reduceIte, reduceIte, Nat.reduceEqDiff, plain1, *]; rfl) | fail)) (by (first | (simp only [ASt.ev, tmPut, ↓reduceIte, reduceIte, Nat.reduceEqDiff, plain1, *]; done) | fail)) he) ?_
    repeat (first | (refine OpsL.nil ?_; ((repeat (first | refine blockExit_eq ?_ | refine blockExit_ne (by decide) ?_ | refine blockExit_normal ?_ | refine blockExit_ret ?_ | refine blockExit_goto ?_)); first | (change Trip _ _ _ _ _) | dsimp only | skip)) | fail)
    refine Trip.iteB (b := false) (by (first | (simp only [ASt.ev, tmPut, ↓reduceIte, reduceIte, Nat.reduceEqDiff, decide_true, decide_false, not_true_eq_false, not_false_eq_true, Bool.not_true, Bool.not_false, *]; done) | fail)) (fun h => absurd h (by decide)) (fun _ => ?_)
    repeat (first | (refine OpsL.p (by subst_vars; decide) (by (first | (exact aop_fieldAddr (by (first | (simp only [ASt.ev, tmPut, ↓reduceIte, reduceIte, Nat.reduceEqDiff, plain1, *]; rfl) | fail)) (by exact rfl)) | (exact aop_load (by (first | (simp only [ASt.ev, tmPut, ↓reduceIte, reduceIte, Nat.reduceEqDiff, plain1, *]; rfl) | fail)) (by exact rfl) rfl (by assumption)) | fail)) ?_) | (refine Trip.seq ?_) | (refine Trip.ops ?_) | (refine Trip.skip ?_; ((repeat (first | refine blockExit_eq ?_ | refine blockExit_ne (by decide) ?_ | refine blockExit_normal ?_ | refine blockExit_ret ?_ | refine blockExit_goto ?_)); first | (change Trip _ _ _ _ _) | dsimp only | skip)) | fail)
    refine OpsL.call2 (by subst_vars; decide) (by (first | (simp only [ASt.ev, tmPut, ↓reduceIte, reduceIte, Nat.reduceEqDiff, plain1, *]; rfl) | fail)) (by (first | (simp only [ASt.ev, tmPut, ↓reduceIte, reduceIte, Nat.reduceEqDiff, plain1, *]; rfl) | fail)) entersCmpI (cmpIC W0 _ _) ?_
    rintro v1 nx1 H1 ⟨rfl, rfl, rfl⟩
    repeat (first | (refine OpsL.p (by subst_vars; decide) (by (first | (exact aop_assign (by (first | (simp only [ASt.ev, tmPut, ↓reduceIte, reduceIte, Nat.reduceEqDiff, plain1, *]; rfl) | fail))) | fail)) ?_) | (refine Trip.ret ?_; ((repeat (first | refine blockExit_eq ?_ | refine blockExit_ne (by decide) ?_ | refine blockExit_normal ?_ | refine blockExit_ret ?_ | refine blockExit_goto ?_)); first | (change Trip _ _ _ _ _) | dsimp only | skip)) | (refine OpsL.nil ?_; ((repeat (first | refine blockExit_eq ?_ | refine blockExit_ne (by decide) ?_ | refine blockExit_normal ?_ | refine blockExit_ret ?_ | refine blockExit_goto ?_)); first | (change Trip _ _ _ _ _) | dsimp only | skip)) | fail)
    exact ⟨.inr rfl, _, res_tmp, by simp only [tmPut, ↓reduceIte, cmpP, if_pos he], hx0⟩
  · refine OpsL.p (by subst_vars; decide) (aop_neqT (by (first | (simp only [ASt.ev, tmPut, ↓reduceIte, reduceIte, Nat.reduceEqDiff, plain1, *]; rfl) | fail)) (by (first | (simp only [ASt.ev, tmPut, ↓reduceIte, reduceIte, Nat.reduceEqDiff, plain1, *]; done) | fail)) he) ?_
    repeat (first | (refine OpsL.nil ?_; ((repeat (first | refine blockExit_eq ?_ | refine blockExit_ne (by decide) ?_ | refine blockExit_normal ?_ | refine blockExit_ret ?_ | refine blockExit_goto ?_)); first | (change Trip _ _ _ _ _) | dsimp only | skip)) | fail)
    refine Trip.iteB (b := true) (by (first | (simp only [ASt.ev, tmPut, ↓reduceIte, reduceIte, Nat.reduceEqDiff, decide_true, decide_false, not_true_eq_false, not_false_eq_true, Bool.not_true, Bool.not_false, *]; done) | fail)) (fun _ => ?_) (fun h => absurd h (by decide))
    repeat (first | (refine OpsL.p (by subst_vars; decide) (by (first | (exact aop_fieldAddr (by (first | (simp only [ASt.ev, tmPut, ↓reduceIte, reduceIte, Nat.reduceEqDiff, plain1, *]; rfl) | fail)) (by exact rfl)) | (exact aop_load (by (first | (simp only [ASt.ev, tmPut, ↓reduceIte, reduceIte, Nat.reduceEqDiff, plain1, *]; rfl) | fail)) (by exact rfl) rfl (by assumption)) | fail)) ?_) | (refine Trip.seq ?_) | (refine Trip.ops ?_) | fail)
    refine OpsL.call2 (by subst_vars; decide) (by (first | (simp only [ASt.ev, tmPut, ↓reduceIte, reduceIte, Nat.reduceEqDiff, plain1, *]; rfl) | fail)) (by (first | (simp only [ASt.ev, tmPut, ↓reduceIte, reduceIte, Nat.reduceEqDiff, plain1, *]; rfl) | fail)) entersCmpI (cmpIC W0 _ _) ?_
    rintro v1 nx1 H1 ⟨rfl, rfl, rfl⟩
    repeat (first | (refine OpsL.p (by subst_vars; decide) (by (first | (exact aop_assign (by (first | (simp only [ASt.ev, tmPut, ↓reduceIte, reduceIte, Nat.reduceEqDiff, plain1, *]; rfl) | fail))) | fail)) ?_) | (refine Trip.ret ?_; ((repeat (first | refine blockExit_eq ?_ | refine blockExit_ne (by decide) ?_ | refine blockExit_normal ?_ | refine blockExit_ret ?_ | refine blockExit_goto ?_)); first | (change Trip _ _ _ _ _) | dsimp only | skip)) | (refine OpsL.nil ?_; ((repeat (first | refine blockExit_eq ?_ | refine blockExit_ne (by decide) ?_ | refine blockExit_normal ?_ | refine blockExit_ret ?_ | refine blockExit_goto ?_)); first | (change Trip _ _ _ _ _) | dsimp only | skip)) | fail)
    exact ⟨.inr rfl, _, res_tmp, by simp only [tmPut, ↓reduceIte, cmpP, if_neg he], hx0⟩

/-- What is behind the first ones of a row of one's own. -/
def SufOf (H : Heap) (ob : Option (Nat × Nat)) (v : Value) (l d : List (Int × Int)) : Prop :=
  match ob with
  | none => v = .slice none 0 0 ∧ l = [] ∧ d = []
  | some (b, t) => ∃ k sp rest, k ≤ l.length ∧ d = l.drop k ∧ v = .slice (some ⟨b, k * 2, sp⟩) (l.length - k) (l.length - k) ∧ (k < l.length → sp = some t) ∧ H b = some (.cells (l.flatMap encP ++ rest) 2 (some t) false (some 27))

section
variable {H H' : Heap} {ob : Option (Nat × Nat)} {v : Value} {l d : List (Int × Int)}
theorem SufOf.own (h : OwnPairs H ob v l) : SufOf H ob v l l := by
  cases ob with
  | none =>
    obtain ⟨rfl, _, h2⟩ := h
    have := List.eq_nil_of_length_eq_zero h2
    exact ⟨rfl, this, this⟩
  | some bt =>
    obtain ⟨b, t⟩ := bt
    obtain ⟨rfl, _, rest, ho⟩ := h
    exact ⟨0, some t, rest, Nat.zero_le _, rfl, by simp, fun _ => rfl, ho⟩
theorem SufOf.same (h : SufOf H ob v l d) (hs : ∀ b t, ob = some (b, t) → H' b = H b) : SufOf H' ob v l d := by
  cases ob with
  | none => exact h
  | some bt =>
    obtain ⟨b, t⟩ := bt
    obtain ⟨k, sp, rest, h1, h2, h3, h4, h5⟩ := h
    exact ⟨k, sp, rest, h1, h2, h3, h4, by rw [hs b t rfl]; exact h5⟩
theorem SufOf.slice (h : SufOf H ob v l d) : ∃ a, v = .slice a d.length d.length := by
  cases ob with
  | none => obtain ⟨rfl, _, rfl⟩ := h; exact ⟨none, rfl⟩
  | some bt =>
    obtain ⟨b, t⟩ := bt
    obtain ⟨k, sp, rest, h1, rfl, rfl, h4, h5⟩ := h
    exact ⟨_, by rw [List.length_drop]⟩
theorem SufOf.head {x : Int × Int} {d' : List (Int × Int)} {a : Option Addr} {m c : Nat} (h : SufOf H ob (.slice a m c) l (x :: d')) : ∃ p, a = some p ∧ getc H ⟨p.block, p.off + 0 * 2, p.spot⟩ 2 = some (encP x) := by
  cases ob with
  | none => obtain ⟨_, _, h3⟩ := h; cases h3
  | some bt =>
    obtain ⟨b, t⟩ := bt
    obtain ⟨k, sp, rest, h1, h2, h3, h4, h5⟩ := h
    cases h3
    have hk : k < l.length := by
      have := congrArg List.length h2
      rw [List.length_drop] at this
      simp at this
      omega
    have hsp := h4 hk
    subst hsp
    refine ⟨_, rfl, ?_⟩
    have hx : x = l[k] := by
      have := congrArg (·[0]?) h2
      simpa [List.getElem?_drop, List.getElem?_eq_getElem hk] using this
    have := getc_flat (i := k) encP_len h5 hk
    rw [hx]
    simpa using this
set_option maxRecDepth 20000 in
theorem SufOf.tail {x : Int × Int} {d' : List (Int × Int)} (h : SufOf H ob v l (x :: d')) : ∃ r, aSlice Try.prog H 24 v (some (.int .i64 1)) none none = some r ∧ SufOf H ob r l d' := by
  cases ob with
  | none => obtain ⟨_, _, h3⟩ := h; cases h3
  | some bt =>
    obtain ⟨b, t⟩ := bt
    obtain ⟨k, sp, rest, h1, h2, h3, h4, h5⟩ := h
    subst h3
    have hl := congrArg List.length h2
    rw [List.length_drop, List.length_cons] at hl
    have hk : k < l.length := by omega
    have hsp := h4 hk
    subst hsp
    refine ⟨_, aSlice_tagged (el := 27) (sz := 2) (a := ⟨b, k * 2, some t⟩) (len := l.length - k) (cap := l.length - k) (l := 1) (h := l.length - k) (tg := t) (lo := some (.int .i64 1)) (hi := none) (by exact rfl) (by exact rfl) h5 rfl rfl rfl (.inr ⟨.i64, rfl⟩) (.inl ⟨rfl, rfl⟩) (by omega) (Nat.le_refl _), ?_⟩
    refine ⟨k + 1, if 1 = l.length - k ∧ 0 < 1 then none else some t, rest, by omega, ?_, ?_, fun hlt => ?_, h5⟩
    · have := congrArg List.tail h2
      rw [List.tail_cons, List.tail_drop] at this
      exact this
    · rw [Nat.add_mul, Nat.sub_sub]
    · rw [if_neg (by omega)]
end

theorem strict_snoc {l : List (Int × Int)} {x : Int × Int} (h : StrictP l) (hx : ∀ y ∈ l, ltP y x) : StrictP (l ++ [x]) :=
  List.pairwise_append.2 ⟨h, List.pairwise_singleton _ _, fun y hy z hz => by rw [List.mem_singleton] at hz; subst hz; exact hx y hy⟩

section
variable {ra rb r da db l : List (Int × Int)} {x y : Int × Int}
theorem both_eq (hsr : StrictP r) (hsa : StrictP (x :: da)) (hsb : StrictP (x :: db)) (hlt : ∀ z ∈ r, ∀ y ∈ x :: da, ltP z y) (hmem : ∀ z, (z ∈ ra ∧ z ∈ rb) ↔ (z ∈ r ∨ (z ∈ x :: da ∧ z ∈ x :: db))) :
    StrictP (r ++ [x]) ∧ (∀ z ∈ r ++ [x], ∀ y ∈ da, ltP z y) ∧ ∀ z, (z ∈ ra ∧ z ∈ rb) ↔ (z ∈ r ++ [x] ∨ (z ∈ da ∧ z ∈ db)) := by
  unfold StrictP at hsa hsb
  rw [List.pairwise_cons] at hsa hsb
  refine ⟨strict_snoc hsr fun z hz => hlt z hz x List.mem_cons_self, fun z hz y hy => ?_, fun z => ?_⟩
  · rcases List.mem_append.1 hz with hz | hz
    · exact hlt z hz y (List.mem_cons_of_mem _ hy)
    · rw [List.mem_singleton] at hz
      subst hz
      exact hsa.1 y hy
  · rw [hmem, List.mem_append, List.mem_singleton, List.mem_cons, List.mem_cons]
    constructor
    · rintro (h | ⟨h1, h2⟩)
      · exact .inl (.inl h)
      · rcases h1 with h1 | h1
        · exact .inl (.inr h1)
        · rcases h2 with h2 | h2
          · exact .inl (.inr h2)
          · exact .inr ⟨h1, h2⟩
    · rintro ((h | h) | ⟨h1, h2⟩)
      · exact .inl h
      · exact .inr ⟨.inl h, .inl h⟩
      · exact .inr ⟨.inr h1, .inr h2⟩
theorem both_lt (hsb : StrictP (y :: db)) (hxy : ltP x y) (hmem : ∀ z, (z ∈ ra ∧ z ∈ rb) ↔ (z ∈ r ∨ (z ∈ x :: da ∧ z ∈ y :: db))) : ∀ z, (z ∈ ra ∧ z ∈ rb) ↔ (z ∈ r ∨ (z ∈ da ∧ z ∈ y :: db)) := by
  unfold StrictP at hsb
  rw [List.pairwise_cons] at hsb
  intro z
  rw [hmem]
  constructor
  · rintro (h | ⟨h1, h2⟩)
    · exact .inl h
    · rcases List.mem_cons.1 h1 with h1 | h1
      · subst h1
        exfalso
        rcases List.mem_cons.1 h2 with h2 | h2
        · subst h2; exact ltP_irrefl _ hxy
        · exact ltP_irrefl _ (ltP_trans hxy (hsb.1 z h2))
      · exact .inr ⟨h1, h2⟩
  · rintro (h | ⟨h1, h2⟩)
    · exact .inl h
    · exact .inr ⟨List.mem_cons_of_mem _ h1, h2⟩
theorem both_gt (hsa : StrictP (x :: da)) (hxy : ltP y x) (hmem : ∀ z, (z ∈ ra ∧ z ∈ rb) ↔ (z ∈ r ∨ (z ∈ x :: da ∧ z ∈ y :: db))) : ∀ z, (z ∈ ra ∧ z ∈ rb) ↔ (z ∈ r ∨ (z ∈ x :: da ∧ z ∈ db)) := by
  intro z
  have := both_lt (ra := rb) (rb := ra) (r := r) (x := y) (y := x) hsa hxy (fun z => by rw [and_comm, hmem, and_comm (a := z ∈ x :: da)]) z
  rw [and_comm, this, and_comm (a := z ∈ db)]
theorem strict_tail (h : StrictP (x :: l)) : StrictP l := by
  unfold StrictP at *
  rw [List.pairwise_cons] at h
  exact h.2
end

section
variable {P : Program} {H : Heap} {nx : Nat} {ev : Operand → Option Value} {dst : Option Tmp} {type : TypeId} {pos : String} {after : Array Edge} {guard : Option (Nat × Bool)}
theorem aop_eqlT {t u : TypeId} {k : IntKind} {x y : Operand} {a b : Int} (hx : ev x = some (.int k a)) (hy : ev y = some (.int k b)) (h : a = b) :
    aop P H nx ev ⟨dst, .binOp .eql t x y u, type, pos, after, guard⟩ = some (.bool true, .none) := by rw [aop_eql hx hy]; simp [h]
end

theorem entersBothS : Am.Enters Try.prog 21 := ⟨Try.f21, Try.func21, by kernel_rfl, by kernel_rfl⟩
theorem entersJoinS : Am.Enters Try.prog 23 := ⟨Try.f23, Try.func23, by kernel_rfl, by kernel_rfl⟩

set_option maxRecDepth 20000 in
set_option maxHeartbeats 4000000 in
theorem joinC (W0 : World) {nx : Nat} {H : Heap} {av bv : Value} {la lb : List (Int × Int)} (ha : PairsAt H av la) (hb : PairsAt H bv lb) (hm : la.length + lb.length ≤ 100000) :
    ACalls Try.prog W0 23 [av, bv] nx H fun v nx' H' => ∃ ob r, StrictP r ∧ (∀ x, x ∈ r ↔ x ∈ la ∨ x ∈ lb) ∧ r.length ≤ la.length + lb.length ∧ OwnPairs H' ob v r ∧ Fresh nx H nx' H' ob := by
  refine ACalls.by_trip (fn := Try.f23) (c := _) Try.func23 rfl (fun tm n hn0 htm => ?_)
  have e0 : tm 0 = av := htm 0
  have e1 : tm 1 = bv := htm 1
  clear htm
  replace hn0 : n = 9 := hn0
  refine Trip.ok fun hok => ?_
  replace hok : ∀ id o, H id = some o → id < nx := hok
  obtain ⟨aa, ac, rfl⟩ := ha.slice
  obtain ⟨ba, bc, rfl⟩ := hb.slice
  repeat (first | (refine OpsL.p (by subst_vars; decide) (by (first | (exact aop_move (by (first | (simp only [ASt.ev, tmPut, ↓reduceIte, reduceIte, Nat.reduceEqDiff, plain1, *]; rfl) | fail))) | (exact aop_assign (by (first | (simp only [ASt.ev, tmPut, ↓reduceIte, reduceIte, Nat.reduceEqDiff, plain1, *]; rfl) | fail))) | fail)) ?_) | (refine Trip.seq ?_) | (refine Trip.ops ?_) | (refine OpsL.nil ?_; ((repeat (first | refine blockExit_eq ?_ | refine blockExit_ne (by decide) ?_ | refine blockExit_normal ?_ | refine blockExit_ret ?_ | refine blockExit_goto ?_)); first | (change Trip _ _ _ _ _) | dsimp only | skip)) | fail)
  refine OpsL.new (by subst_vars; decide) (aop_buildSlice (l := [(0, .slice aa la.length ac), (1, .slice ba lb.length bc)]) (r := (.slice (some ⟨nx, 0, none⟩) 2 2, .new (.cells [.slice aa la.length ac, .slice ba lb.length bc] 1 none false (some 24)))) (by simp only [evParts, ASt.ev, tmPut, ↓reduceIte, reduceIte, Option.some.injEq, Nat.reduceEqDiff, *]) (by kernel_rfl)) ?_
  have hx0 : Ext nx H (nx + 1) (H.put nx (.cells [.slice aa la.length ac, .slice ba lb.length bc] 1 none false (some 24))) := Ext.newPut
  have hin : RowsIn (H.put nx (.cells [.slice aa la.length ac, .slice ba lb.length bc] 1 none false (some 24))) (.slice (some ⟨nx, 0, none⟩) 2 2) [(.slice aa la.length ac, la), (.slice ba lb.length bc, lb)] := ⟨nx, rfl, Heap.put_eq, fun x hx => by
    rcases List.mem_cons.1 hx with rfl | hx
    · exact ha.ext hx0 hok
    · rw [List.mem_singleton] at hx
      subst hx
      exact hb.ext hx0 hok⟩
  have hall : allOf [(Value.slice aa la.length ac, la), (Value.slice ba lb.length bc, lb)] = la ++ lb := by simp [allOf]
  refine OpsL.call2 (by subst_vars; decide) (by (first | (simp only [ASt.ev, tmPut, ↓reduceIte, reduceIte, Nat.reduceEqDiff, plain1, *]; done) | fail)) (by (first | (simp only [ASt.ev, tmPut, ↓reduceIte, reduceIte, Nat.reduceEqDiff, plain1, *]; done) | fail)) entersTidyP (tidyPC W0 hin (by rw [hall, List.length_append]; exact hm) (by simp)) ?_
  rintro v1 nx1 H1 ⟨ob, r, h1, h2, h3, h4, hx1, hob1⟩
  rw [hall] at h2 h3
  repeat (first | (refine OpsL.p (by subst_vars; decide) (by (first | (exact aop_assign (by (first | (simp only [ASt.ev, tmPut, ↓reduceIte, reduceIte, Nat.reduceEqDiff, plain1, *]; rfl) | fail))) | fail)) ?_) | (refine Trip.ret ?_; ((repeat (first | refine blockExit_eq ?_ | refine blockExit_ne (by decide) ?_ | refine blockExit_normal ?_ | refine blockExit_ret ?_ | refine blockExit_goto ?_)); first | (change Trip _ _ _ _ _) | dsimp only | skip)) | (refine OpsL.nil ?_; ((repeat (first | refine blockExit_eq ?_ | refine blockExit_ne (by decide) ?_ | refine blockExit_normal ?_ | refine blockExit_ret ?_ | refine blockExit_goto ?_)); first | (change Trip _ _ _ _ _) | dsimp only | skip)) | fail)
  exact ⟨.inr rfl, _, res_tmp, ob, r, h1, fun x => by rw [h2, List.mem_append], by rw [List.length_append] at h3; exact h3, by simpa [tmPut] using h4, hx0.trans hx1, fun b t h => by have := hob1 b t h; omega⟩

set_option maxRecDepth 20000 in
set_option maxHeartbeats 4000000 in
theorem bothC (W0 : World) {nx : Nat} {H : Heap} {av bv : Value} {la lb : List (Int × Int)} (ha : PairsAt H av la) (hb : PairsAt H bv lb) (hm : la.length ≤ 100000) (hm2 : lb.length ≤ 100000) :
    ACalls Try.prog W0 21 [av, bv] nx H fun v nx' H' => ∃ ob r, StrictP r ∧ (∀ x, x ∈ r ↔ x ∈ la ∧ x ∈ lb) ∧ r.length ≤ la.length ∧ OwnPairs H' ob v r ∧ Fresh nx H nx' H' ob := by
  refine ACalls.by_trip (fn := Try.f21) (c := _) Try.func21 rfl (fun tm n hn0 htm => ?_)
  have e0 : tm 0 = av := htm 0
  have e1 : tm 1 = bv := htm 1
  clear htm
  replace hn0 : n = 43 := hn0
  refine Trip.ok fun hok => ?_
  replace hok : ∀ id o, H id = some o → id < nx := hok
  repeat (first | (refine OpsL.p (by subst_vars; decide) (by (first | (exact aop_move (by (first | (simp only [ASt.ev, tmPut, ↓reduceIte, reduceIte, Nat.reduceEqDiff, plain1, *]; rfl) | fail))) | (exact aop_assign (by (first | (simp only [ASt.ev, tmPut, ↓reduceIte, reduceIte, Nat.reduceEqDiff, plain1, *]; rfl) | fail))) | fail)) ?_) | (refine Trip.seq ?_) | (refine Trip.ops ?_) | (refine OpsL.nil ?_; ((repeat (first | refine blockExit_eq ?_ | refine blockExit_ne (by decide) ?_ | refine blockExit_normal ?_ | refine blockExit_ret ?_ | refine blockExit_goto ?_)); first | (change Trip _ _ _ _ _) | dsimp only | skip)) | fail)
  refine OpsL.call1 (by subst_vars; decide) (by (first | (simp only [ASt.ev, tmPut, ↓reduceIte, reduceIte, Nat.reduceEqDiff, plain1, *]; done) | fail)) entersPairsS (pairsC W0 ha hm).ok ?_
  rintro v1 nx1 H1 ⟨⟨ob1, ra, a1, a2, a3, a4, ax, aob⟩, hok1⟩
  repeat (first | (refine OpsL.p (by subst_vars; decide) (by (first | (exact aop_move (by (first | (simp only [ASt.ev, tmPut, ↓reduceIte, reduceIte, Nat.reduceEqDiff, plain1, *]; rfl) | fail))) | fail)) ?_) | fail)
  refine OpsL.call1 (by subst_vars; decide) (by (first | (simp only [ASt.ev, tmPut, ↓reduceIte, reduceIte, Nat.reduceEqDiff, plain1, *]; done) | fail)) entersPairsS (pairsC W0 (hb.ext ax hok) hm2).ok ?_
  rintro v2 nx2 H2 ⟨⟨ob2, rb, b1, b2, b3, b4, bx, bob⟩, hok2⟩
  have s1 : SufOf H2 ob1 v1 ra ra := (SufOf.own a4).same fun b t h => bx.2 b (aob b t h).2
  have s2 : SufOf H2 ob2 v2 rb rb := SufOf.own b4
  have hob1 : ∀ b t, ob1 = some (b, t) → b < nx2 := fun b t h => Nat.lt_of_lt_of_le (aob b t h).2 bx.1
  have hob2 : ∀ b t, ob2 = some (b, t) → b < nx2 := fun b t h => (bob b t h).2
  have hx02 : Ext nx H nx2 H2 := ax.trans bx
  clear a4 b4 ax bx aob bob hok1
  repeat (first | (refine OpsL.p (by subst_vars; decide) (by (first | (exact aop_assign (by (first | (simp only [ASt.ev, tmPut, ↓reduceIte, reduceIte, Nat.reduceEqDiff, plain1, *]; rfl) | fail))) | fail)) ?_) | (refine Trip.seq ?_) | (refine Trip.block ?_) | (refine OpsL.nil ?_; ((repeat (first | refine blockExit_eq ?_ | refine blockExit_ne (by decide) ?_ | refine blockExit_normal ?_ | refine blockExit_ret ?_ | refine blockExit_goto ?_)); first | (change Trip _ _ _ _ _) | dsimp only | skip)) | fail)
  refine Trip.inv (fun (da : List (Int × Int) × List (Int × Int)) st => ∃ (tm : Nat → Value) (nx' : Nat) (H' : Heap) (ob : Option (Nat × Nat)) (v v1 v2 : Value) (r : List (Int × Int)), st = ⟨tm, n, H', nx'⟩ ∧ Fresh nx2 H2 nx' H' ob ∧ OwnPairs H' ob v r ∧ SufOf H' ob1 v1 ra da.1 ∧ SufOf H' ob2 v2 rb da.2 ∧
      StrictP r ∧ StrictP da.1 ∧ StrictP da.2 ∧ (∀ x ∈ r, ∀ y ∈ da.1, ltP x y) ∧ (∀ x, (x ∈ ra ∧ x ∈ rb) ↔ (x ∈ r ∨ (x ∈ da.1 ∧ x ∈ da.2))) ∧ r.length + da.1.length ≤ ra.length ∧ tm 0 = v1 ∧ tm 1 = v2 ∧ tm 5 = v ∧ da.2.length ≤ rb.length) (fun da => da.1.length + da.2.length) (ra, rb) ?_ ?_
  · exact ⟨_, _, _, none, _, _, _, [], rfl, ⟨Ext.refl, fun _ _ h => (by cases h)⟩, ⟨rfl, rfl, rfl⟩, s1, s2, List.Pairwise.nil, a1, b1, fun x hx => (by cases hx), fun x => by simp, by simp, by simp [tmPut, *], by simp [tmPut, *], by simp [tmPut, *], Nat.le_refl _⟩
  · clear e0 e1 s1 s2
    rintro ⟨da, db⟩ st ⟨tm, nx', H', ob, v, v1, v2, r, rfl, ⟨hx, hob⟩, hown, s1, s2, hsr, hsa, hsb, hlt, hmem, hlen, e0, e1, e5, hlb⟩
    dsimp only at s1 s2 hsa hsb hlt hmem hlen hlb
    refine Trip.ok fun hok' => ?_
    replace hok' : ∀ id o, H' id = some o → id < nx' := hok'
    obtain ⟨p1, rfl⟩ := s1.slice
    obtain ⟨p2, rfl⟩ := s2.slice
    by_cases hgo : 0 < da.length ∧ 0 < db.length
    · obtain ⟨ha0, hb0⟩ := hgo
      obtain ⟨x, da, rfl⟩ : ∃ x l, da = x :: l := by
        cases da with
        | nil => simp at ha0
        | cons x l => exact ⟨x, l, rfl⟩
      obtain ⟨y, db, rfl⟩ : ∃ x l, db = x :: l := by
        cases db with
        | nil => simp at hb0
        | cons x l => exact ⟨x, l, rfl⟩
      obtain ⟨q1, rfl, g1⟩ := s1.head
      obtain ⟨q2, rfl, g2⟩ := s2.head
      replace g1 : getc H' ⟨q1.block, q1.off + (0 : Int).toNat * 2, q1.spot⟩ 2 = some (encP x) := g1
      replace g2 : getc H' ⟨q2.block, q2.off + (0 : Int).toNat * 2, q2.spot⟩ 2 = some (encP y) := g2
      simp only [List.length_cons] at ha0 hb0 hlen hlb e0 e1
      obtain ⟨m1, hm1⟩ : ∃ m, m = da.length + 1 := ⟨_, rfl⟩
      obtain ⟨m2, hm2⟩ : ∃ m, m = db.length + 1 := ⟨_, rfl⟩
      rw [← hm1] at e0
      rw [← hm2] at e1
      repeat (first | (refine OpsL.p (by subst_vars; decide) (by (first | (exact aop_move (by (first | (simp only [ASt.ev, tmPut, ↓reduceIte, reduceIte, Nat.reduceEqDiff, plain1, *]; rfl) | fail))) | (exact aop_len (by (first | (simp only [ASt.ev, tmPut, ↓reduceIte, reduceIte, Nat.reduceEqDiff, plain1, *]; rfl) | fail)) (by exact rfl)) | fail)) ?_) | (refine Trip.seq ?_) | (refine Trip.ops ?_) | fail)
      refine OpsL.p (by subst_vars; decide) (aop_gtrT (by (first | (simp only [ASt.ev, tmPut, ↓reduceIte, reduceIte, Nat.reduceEqDiff, plain1, *]; rfl) | fail)) (by (first | (simp only [ASt.ev, tmPut, ↓reduceIte, reduceIte, Nat.reduceEqDiff, plain1, *]; rfl) | fail)) (by omega)) ?_
      repeat (first | (refine OpsL.p (by subst_vars; decide) (by (first | (exact aop_move (by (first | (simp only [ASt.ev, tmPut, ↓reduceIte, reduceIte, Nat.reduceEqDiff, plain1, *]; rfl) | fail))) | (exact aop_len (by (first | (simp only [ASt.ev, tmPut, ↓reduceIte, reduceIte, Nat.reduceEqDiff, plain1, *]; rfl) | fail)) (by exact rfl)) | fail)) ?_) | (refine OpsL.unguard (by exact rfl) (by (first | (simp only [ASt.ev, tmPut, ↓reduceIte, reduceIte, Nat.reduceEqDiff, decide_true, decide_false, not_true_eq_false, not_false_eq_true, Bool.not_true, Bool.not_false, *]; done) | fail)) ?_) | fail)
      refine OpsL.p (by subst_vars; decide) (aop_gtrT (by (first | (simp only [ASt.ev, tmPut, ↓reduceIte, reduceIte, Nat.reduceEqDiff, plain1, *]; rfl) | fail)) (by (first | (simp only [ASt.ev, tmPut, ↓reduceIte, reduceIte, Nat.reduceEqDiff, plain1, *]; rfl) | fail)) (by omega)) ?_
      repeat (first | (refine OpsL.p (by subst_vars; decide) (by (first | (exact aop_pickT (by (first | (simp only [ASt.ev, tmPut, ↓reduceIte, reduceIte, Nat.reduceEqDiff, decide_true, decide_false, not_true_eq_false, not_false_eq_true, Bool.not_true, Bool.not_false, *]; done) | fail)) (by (first | (simp only [ASt.ev, tmPut, ↓reduceIte, reduceIte, Nat.reduceEqDiff, plain1, *]; rfl) | fail))) | fail)) ?_) | (refine OpsL.nil ?_; ((repeat (first | refine blockExit_eq ?_ | refine blockExit_ne (by decide) ?_ | refine blockExit_normal ?_ | refine blockExit_ret ?_ | refine blockExit_goto ?_)); first | (change Trip _ _ _ _ _) | dsimp only | skip)) | fail)
      refine Trip.iteB (b := true) (by (first | (simp only [ASt.ev, tmPut, ↓reduceIte, reduceIte, Nat.reduceEqDiff, decide_true, decide_false, not_true_eq_false, not_false_eq_true, Bool.not_true, Bool.not_false, *]; done) | fail)) (fun _ => ?_) (fun h => absurd h (by decide))
      repeat (first | (refine Trip.seq ?_) | (refine Trip.block ?_) | (refine Trip.skip ?_; ((repeat (first | refine blockExit_eq ?_ | refine blockExit_ne (by decide) ?_ | refine blockExit_normal ?_ | refine blockExit_ret ?_ | refine blockExit_goto ?_)); first | (change Trip _ _ _ _ _) | dsimp only | skip)) | fail)
      refine Trip.mono (Q := fun e st => e = .normal ∧ ∃ (tm' : Nat → Value) (nx3 : Nat) (H3 : Heap), st = ⟨tm', n, H3, nx3⟩ ∧ Ext nx' H' nx3 H3 ∧ (∀ id o, H3 id = some o → id < nx3) ∧ tm' 0 = .slice (some q1) m1 m1 ∧ tm' 1 = .slice (some q2) m2 m2 ∧ tm' 5 = v ∧ tm' 6 = .int .i64 (cmpP x y)) ?_ ?_
      · refine OpsR.drawn [6] (K := fun _ _ => True) mixedP (by kernel_rfl) (by kernel_rfl) [0, 1, 2, 3, 4, 5, 6, 7] (by kernel_rfl) trivial ?_
        refine OpsR.one rfl rfl rfl (by kernel_rfl) ?_
        repeat (first | (refine OpsL.p (by subst_vars; decide) (by (first | (exact aop_move (by (first | (simp only [ASt.ev, tmPut, ↓reduceIte, reduceIte, Nat.reduceEqDiff, plain1, *]; rfl) | fail))) | fail)) ?_) | (refine OpsL.nil ?_; ((repeat (first | refine blockExit_eq ?_ | refine blockExit_ne (by decide) ?_ | refine blockExit_normal ?_ | refine blockExit_ret ?_ | refine blockExit_goto ?_)); first | (change Trip _ _ _ _ _) | dsimp only | skip)) | fail)
        refine OpsR.one rfl rfl rfl (by kernel_rfl) ?_
        repeat (first | (refine OpsL.p (by subst_vars; decide) (by (first | (exact aop_indexAddr (by (first | (simp only [ASt.ev, tmPut, ↓reduceIte, reduceIte, Nat.reduceEqDiff, plain1, *]; rfl) | fail)) (by (first | (simp only [ASt.ev, tmPut, ↓reduceIte, reduceIte, Nat.reduceEqDiff, plain1, *]; rfl) | fail)) (by exact rfl) (by exact rfl) (by omega) (by omega)) | fail)) ?_) | (refine OpsL.nil ?_; ((repeat (first | refine blockExit_eq ?_ | refine blockExit_ne (by decide) ?_ | refine blockExit_normal ?_ | refine blockExit_ret ?_ | refine blockExit_goto ?_)); first | (change Trip _ _ _ _ _) | dsimp only | skip)) | fail)
        refine OpsR.one rfl rfl rfl (by kernel_rfl) ?_
        repeat (first | (refine OpsL.p (by subst_vars; decide) (by (first | (exact aop_loadAgg (k := 2) (by (first | (simp only [ASt.ev, tmPut, ↓reduceIte, reduceIte, Nat.reduceEqDiff, plain1, *]; rfl) | fail)) (by exact rfl) rfl (by exact rfl) (by assumption)) | fail)) ?_) | (refine OpsL.nil ?_; ((repeat (first | refine blockExit_eq ?_ | refine blockExit_ne (by decide) ?_ | refine blockExit_normal ?_ | refine blockExit_ret ?_ | refine blockExit_goto ?_)); first | (change Trip _ _ _ _ _) | dsimp only | skip)) | fail)
        refine OpsR.one rfl rfl rfl (by kernel_rfl) ?_
        repeat (first | (refine OpsL.p (by subst_vars; decide) (by (first | (exact aop_move (by (first | (simp only [ASt.ev, tmPut, ↓reduceIte, reduceIte, Nat.reduceEqDiff, plain1, *]; rfl) | fail))) | fail)) ?_) | (refine OpsL.nil ?_; ((repeat (first | refine blockExit_eq ?_ | refine blockExit_ne (by decide) ?_ | refine blockExit_normal ?_ | refine blockExit_ret ?_ | refine blockExit_goto ?_)); first | (change Trip _ _ _ _ _) | dsimp only | skip)) | fail)
        refine OpsR.one rfl rfl rfl (by kernel_rfl) ?_
        repeat (first | (refine OpsL.p (by subst_vars; decide) (by (first | (exact aop_indexAddr (by (first | (simp only [ASt.ev, tmPut, ↓reduceIte, reduceIte, Nat.reduceEqDiff, plain1, *]; rfl) | fail)) (by (first | (simp only [ASt.ev, tmPut, ↓reduceIte, reduceIte, Nat.reduceEqDiff, plain1, *]; rfl) | fail)) (by exact rfl) (by exact rfl) (by omega) (by omega)) | fail)) ?_) | (refine OpsL.nil ?_; ((repeat (first | refine blockExit_eq ?_ | refine blockExit_ne (by decide) ?_ | refine blockExit_normal ?_ | refine blockExit_ret ?_ | refine blockExit_goto ?_)); first | (change Trip _ _ _ _ _) | dsimp only | skip)) | fail)
        refine OpsR.one rfl rfl rfl (by kernel_rfl) ?_
        repeat (first | (refine OpsL.p (by subst_vars; decide) (by (first | (exact aop_loadAgg (k := 2) (by (first | (simp only [ASt.ev, tmPut, ↓reduceIte, reduceIte, Nat.reduceEqDiff, plain1, *]; rfl) | fail)) (by exact rfl) rfl (by exact rfl) (by assumption)) | fail)) ?_) | (refine OpsL.nil ?_; ((repeat (first | refine blockExit_eq ?_ | refine blockExit_ne (by decide) ?_ | refine blockExit_normal ?_ | refine blockExit_ret ?_ | refine blockExit_goto ?_)); first | (change Trip _ _ _ _ _) | dsimp only | skip)) | fail)
        refine OpsR.act (by kernel_rfl) (ActStep.call2 rfl rfl (by subst_vars; decide) (by exact rfl) (by (first | (simp only [ASt.ev, tmPut, ↓reduceIte, reduceIte, Nat.reduceEqDiff, plain1, *]; done) | fail)) (by (first | (simp only [ASt.ev, tmPut, ↓reduceIte, reduceIte, Nat.reduceEqDiff, plain1, *]; done) | fail)) entersByAB (byAThenC W0 x y).ok ?_)
        rintro v3 nx3 H3 ⟨⟨rfl, hx3⟩, hok3⟩
        refine ⟨trivial, ?_⟩
        refine OpsR.one rfl rfl rfl (by kernel_rfl) ?_
        repeat (first | (refine OpsL.p (by subst_vars; decide) (by (first | (exact aop_assign (by (first | (simp only [ASt.ev, tmPut, ↓reduceIte, reduceIte, Nat.reduceEqDiff, plain1, *]; rfl) | fail))) | fail)) ?_) | (refine OpsL.nil ?_; ((repeat (first | refine blockExit_eq ?_ | refine blockExit_ne (by decide) ?_ | refine blockExit_normal ?_ | refine blockExit_ret ?_ | refine blockExit_goto ?_)); first | (change Trip _ _ _ _ _) | dsimp only | skip)) | fail)
        refine OpsR.nil ?_
        exact ⟨rfl, _, _, _, rfl, hx3, hok3, by simp [tmPut, *], by simp [tmPut, *], by simp [tmPut, *], by simp [tmPut, *]⟩
      · clear e0 e1 e5
        rintro e st ⟨rfl, tm', nx3, H3, rfl, hx3, hok3, e0, e1, e5, e6⟩
        ((repeat (first | refine blockExit_eq ?_ | refine blockExit_ne (by decide) ?_ | refine blockExit_normal ?_ | refine blockExit_ret ?_ | refine blockExit_goto ?_)); first | (change Trip _ _ _ _ _) | dsimp only | skip)
        replace g1 := getc_ext hx3 hok' g1
        have t1 : SufOf H3 ob1 (.slice (some q1) m1 m1) ra (x :: da) := by rw [hm1]; exact s1.same fun b t h => hx3.2 b (by have := hob1 b t h; have := hx.1; omega)
        have t2 : SufOf H3 ob2 (.slice (some q2) m2 m2) rb (y :: db) := by rw [hm2]; exact s2.same fun b t h => hx3.2 b (by have := hob2 b t h; have := hx.1; omega)
        have hown3 := hown.ext hx3 (fun b t h => (hob b t h).2)
        have hob3 : ∀ b t, ob = some (b, t) → nx2 ≤ b ∧ b < nx3 := fun b t h => by have := hob b t h; have := hx3.1; omega
        have hx23 : Ext nx2 H2 nx3 H3 := hx.trans hx3
        clear s1 s2 hown g2 hok' hx hx3 hob
        obtain ⟨r1, hr1, u1⟩ := t1.tail
        obtain ⟨r2, hr2, u2⟩ := t2.tail
        by_cases hz : x = y
        · have hc : cmpP x y = 0 := (cmpP_zero x y).2 hz
          subst hz
          rw [hc] at e6
          obtain ⟨k1, k2, k3⟩ := both_eq hsr hsa hsb hlt hmem
          repeat (first | (refine OpsL.p (by subst_vars; decide) (by (first | (exact aop_move (by (first | (simp only [ASt.ev, tmPut, ↓reduceIte, reduceIte, Nat.reduceEqDiff, plain1, *]; rfl) | fail))) | fail)) ?_) | (refine Trip.seq ?_) | (refine Trip.ops ?_) | fail)
          refine OpsL.p (by subst_vars; decide) (aop_eqlT (by (first | (simp only [ASt.ev, tmPut, ↓reduceIte, reduceIte, Nat.reduceEqDiff, plain1, *]; rfl) | fail)) (by (first | (simp only [ASt.ev, tmPut, ↓reduceIte, reduceIte, Nat.reduceEqDiff, plain1, *]; rfl) | fail)) rfl) ?_
          repeat (first | (refine OpsL.nil ?_; ((repeat (first | refine blockExit_eq ?_ | refine blockExit_ne (by decide) ?_ | refine blockExit_normal ?_ | refine blockExit_ret ?_ | refine blockExit_goto ?_)); first | (change Trip _ _ _ _ _) | dsimp only | skip)) | fail)
          refine Trip.iteB (b := true) (by (first | (simp only [ASt.ev, tmPut, ↓reduceIte, reduceIte, Nat.reduceEqDiff, decide_true, decide_false, not_true_eq_false, not_false_eq_true, Bool.not_true, Bool.not_false, *]; done) | fail)) (fun _ => ?_) (fun h => absurd h (by decide))
          repeat (first | (refine OpsL.p (by subst_vars; decide) (by (first | (exact aop_move (by (first | (simp only [ASt.ev, tmPut, ↓reduceIte, reduceIte, Nat.reduceEqDiff, plain1, *]; rfl) | fail))) | (exact aop_indexAddr (by (first | (simp only [ASt.ev, tmPut, ↓reduceIte, reduceIte, Nat.reduceEqDiff, plain1, *]; rfl) | fail)) (by (first | (simp only [ASt.ev, tmPut, ↓reduceIte, reduceIte, Nat.reduceEqDiff, plain1, *]; rfl) | fail)) (by exact rfl) (by exact rfl) (by omega) (by omega)) | (exact aop_loadAgg (k := 2) (by (first | (simp only [ASt.ev, tmPut, ↓reduceIte, reduceIte, Nat.reduceEqDiff, plain1, *]; rfl) | fail)) (by exact rfl) rfl (by exact rfl) (by assumption)) | fail)) ?_) | (refine Trip.ops ?_) | fail)
          refine OpsL.new (by subst_vars; decide) (aop_buildSlice (l := [(0, .agg (encP x).toArray)]) (r := (.slice (some ⟨nx3, 0, none⟩) 1 1, .new (.cells [.int .i64 x.1, .int .i64 x.2] 2 none false (some 27)))) (by simp only [evParts, ASt.ev, tmPut, ↓reduceIte, reduceIte, Option.some.injEq, Nat.reduceEqDiff, *]) (by kernel_rfl)) ?_
          have hx4 : Ext nx3 H3 (nx3 + 1) (H3.put nx3 (.cells [.int .i64 x.1, .int .i64 x.2] 2 none false (some 27))) := Ext.newPut
          have hone : PairsAt (H3.put nx3 (.cells [.int .i64 x.1, .int .i64 x.2] 2 none false (some 27))) (.slice (some ⟨nx3, 0, none⟩) 1 1) [x] := by
            refine .inr ⟨⟨nx3, 0, none⟩, 1, rfl, fun j hj => ?_⟩
            have : j = 0 := by simpa using hj
            subst this
            exact getc_own (by show 0 + 2 ≤ 2; decide)
          refine OpsL.appendO (bytes := 16) (z := [.int .i64 0, .int .i64 0]) encP_len encP_one (by omega) (by subst_vars; decide) (hown3.ext hx4 (fun b t h => (hob3 b t h).2)) hone (by (first | (simp only [ASt.ev, tmPut, ↓reduceIte, reduceIte, Nat.reduceEqDiff, plain1, *]; done) | fail)) (by (first | (simp only [ASt.ev, tmPut, ↓reduceIte, reduceIte, Nat.reduceEqDiff, plain1, *]; done) | fail)) (fun b t h => by have := (hob3 b t h).2; omega) (by exact rfl) (by exact rfl) (by exact rfl) (by exact rfl) (by exact rfl) rfl (by simp; omega) (by omega) ?_
          intro v' nx5 H5 ob5 hA
          have hk5 : ∀ b, b < nx2 → H5 b = H3 b := fun b hb => by rw [hA.same b (by have := hx23.1; omega) (fun b' t h => by have := (hob3 b' t h).1; omega), hx4.2 b (by have := hx23.1; omega)]
          have w1 := t1.same (H' := H5) fun b t h => hk5 b (hob1 b t h)
          have w2 := t2.same (H' := H5) fun b t h => hk5 b (hob2 b t h)
          obtain ⟨r1, hr1, u1⟩ := w1.tail
          obtain ⟨r2, hr2, u2⟩ := w2.tail
          repeat (first | (refine OpsL.p (by subst_vars; decide) (by (first | (exact aop_move (by (first | (simp only [ASt.ev, tmPut, ↓reduceIte, reduceIte, Nat.reduceEqDiff, plain1, *]; rfl) | fail))) | (exact aop_assign (by (first | (simp only [ASt.ev, tmPut, ↓reduceIte, reduceIte, Nat.reduceEqDiff, plain1, *]; rfl) | fail))) | fail)) ?_) | (refine Trip.seq ?_) | (refine Trip.ops ?_) | (refine OpsL.nil ?_; ((repeat (first | refine blockExit_eq ?_ | refine blockExit_ne (by decide) ?_ | refine blockExit_normal ?_ | refine blockExit_ret ?_ | refine blockExit_goto ?_)); first | (change Trip _ _ _ _ _) | dsimp only | skip)) | fail)
          refine OpsL.p (by subst_vars; decide) (aop_leqT (by (first | (simp only [ASt.ev, tmPut, ↓reduceIte, reduceIte, Nat.reduceEqDiff, plain1, *]; rfl) | fail)) (by (first | (simp only [ASt.ev, tmPut, ↓reduceIte, reduceIte, Nat.reduceEqDiff, plain1, *]; rfl) | fail)) (Int.le_refl 0)) ?_
          repeat (first | (refine OpsL.nil ?_; ((repeat (first | refine blockExit_eq ?_ | refine blockExit_ne (by decide) ?_ | refine blockExit_normal ?_ | refine blockExit_ret ?_ | refine blockExit_goto ?_)); first | (change Trip _ _ _ _ _) | dsimp only | skip)) | fail)
          refine Trip.iteB (b := true) (by (first | (simp only [ASt.ev, tmPut, ↓reduceIte, reduceIte, Nat.reduceEqDiff, decide_true, decide_false, not_true_eq_false, not_false_eq_true, Bool.not_true, Bool.not_false, *]; done) | fail)) (fun _ => ?_) (fun h => absurd h (by decide))
          repeat (first | (refine OpsL.p (by subst_vars; decide) (by (first | (exact aop_move (by (first | (simp only [ASt.ev, tmPut, ↓reduceIte, reduceIte, Nat.reduceEqDiff, plain1, *]; rfl) | fail))) | fail)) ?_) | (refine Trip.ops ?_) | fail)
          refine OpsL.p (by subst_vars; decide) (aop_slice (r := r1) (a := some (.int .i64 1)) (b := none) (c := none) (by (first | (simp only [ASt.ev, tmPut, ↓reduceIte, reduceIte, Nat.reduceEqDiff, plain1, *]; done) | fail)) (by simp only [evOpt, ASt.ev, Option.map_some]; rfl) rfl rfl hr1) ?_
          repeat (first | (refine OpsL.p (by subst_vars; decide) (by (first | (exact aop_move (by (first | (simp only [ASt.ev, tmPut, ↓reduceIte, reduceIte, Nat.reduceEqDiff, plain1, *]; rfl) | fail))) | (exact aop_assign (by (first | (simp only [ASt.ev, tmPut, ↓reduceIte, reduceIte, Nat.reduceEqDiff, plain1, *]; rfl) | fail))) | fail)) ?_) | (refine Trip.seq ?_) | (refine Trip.ops ?_) | (refine OpsL.nil ?_; ((repeat (first | refine blockExit_eq ?_ | refine blockExit_ne (by decide) ?_ | refine blockExit_normal ?_ | refine blockExit_ret ?_ | refine blockExit_goto ?_)); first | (change Trip _ _ _ _ _) | dsimp only | skip)) | fail)
          refine OpsL.p (by subst_vars; decide) (aop_geqT (by (first | (simp only [ASt.ev, tmPut, ↓reduceIte, reduceIte, Nat.reduceEqDiff, plain1, *]; rfl) | fail)) (by (first | (simp only [ASt.ev, tmPut, ↓reduceIte, reduceIte, Nat.reduceEqDiff, plain1, *]; rfl) | fail)) (Int.le_refl 0)) ?_
          repeat (first | (refine OpsL.nil ?_; ((repeat (first | refine blockExit_eq ?_ | refine blockExit_ne (by decide) ?_ | refine blockExit_normal ?_ | refine blockExit_ret ?_ | refine blockExit_goto ?_)); first | (change Trip _ _ _ _ _) | dsimp only | skip)) | fail)
          refine Trip.iteB (b := true) (by (first | (simp only [ASt.ev, tmPut, ↓reduceIte, reduceIte, Nat.reduceEqDiff, decide_true, decide_false, not_true_eq_false, not_false_eq_true, Bool.not_true, Bool.not_false, *]; done) | fail)) (fun _ => ?_) (fun h => absurd h (by decide))
          repeat (first | (refine OpsL.p (by subst_vars; decide) (by (first | (exact aop_move (by (first | (simp only [ASt.ev, tmPut, ↓reduceIte, reduceIte, Nat.reduceEqDiff, plain1, *]; rfl) | fail))) | fail)) ?_) | (refine Trip.ops ?_) | fail)
          refine OpsL.p (by subst_vars; decide) (aop_slice (r := r2) (a := some (.int .i64 1)) (b := none) (c := none) (by (first | (simp only [ASt.ev, tmPut, ↓reduceIte, reduceIte, Nat.reduceEqDiff, plain1, *]; done) | fail)) (by simp only [evOpt, ASt.ev, Option.map_some]; rfl) rfl rfl hr2) ?_
          repeat (first | (refine OpsL.p (by subst_vars; decide) (by (first | (exact aop_assign (by (first | (simp only [ASt.ev, tmPut, ↓reduceIte, reduceIte, Nat.reduceEqDiff, plain1, *]; rfl) | fail))) | fail)) ?_) | (refine OpsL.nil ?_; ((repeat (first | refine blockExit_eq ?_ | refine blockExit_ne (by decide) ?_ | refine blockExit_normal ?_ | refine blockExit_ret ?_ | refine blockExit_goto ?_)); first | (change Trip _ _ _ _ _) | dsimp only | skip)) | fail)
          refine ⟨(da, db), ⟨_, nx5, H5, ob5, v', r1, r2, r ++ [x], rfl, ⟨⟨by have := hx23.1; have := hA.le; omega, fun j hj => by rw [hk5 j hj, hx23.2 j hj]⟩, fun b t h => ?_⟩, hA.own, u1, u2, k1, strict_tail hsa, strict_tail hsb, k2, k3, by rw [List.length_append, List.length_singleton]; dsimp only; omega, by simp [tmPut, *], by simp [tmPut, *], by simp [tmPut, *], by dsimp only; omega⟩, by simp only [List.length_cons]; omega⟩
          obtain ⟨i1, i2⟩ := hA.blk b t h
          refine ⟨?_, i1⟩
          rcases i2 with rfl | ⟨t', h'⟩
          · have := hx23.1; omega
          · exact (hob3 _ _ h').1
        · by_cases hl : ltP x y
          · have hc : cmpP x y < 0 := (cmpP_lt x y).2 hl
            have k3 := both_lt hsb hl hmem
            generalize cmpP x y = c at *
            repeat (first | (refine OpsL.p (by subst_vars; decide) (by (first | (exact aop_move (by (first | (simp only [ASt.ev, tmPut, ↓reduceIte, reduceIte, Nat.reduceEqDiff, plain1, *]; rfl) | fail))) | fail)) ?_) | (refine Trip.seq ?_) | (refine Trip.ops ?_) | fail)
            refine OpsL.p (by subst_vars; decide) (aop_eqlF (by (first | (simp only [ASt.ev, tmPut, ↓reduceIte, reduceIte, Nat.reduceEqDiff, plain1, *]; rfl) | fail)) (by (first | (simp only [ASt.ev, tmPut, ↓reduceIte, reduceIte, Nat.reduceEqDiff, plain1, *]; rfl) | fail)) (by omega)) ?_
            repeat (first | (refine OpsL.nil ?_; ((repeat (first | refine blockExit_eq ?_ | refine blockExit_ne (by decide) ?_ | refine blockExit_normal ?_ | refine blockExit_ret ?_ | refine blockExit_goto ?_)); first | (change Trip _ _ _ _ _) | dsimp only | skip)) | fail)
            refine Trip.iteB (b := false) (by (first | (simp only [ASt.ev, tmPut, ↓reduceIte, reduceIte, Nat.reduceEqDiff, decide_true, decide_false, not_true_eq_false, not_false_eq_true, Bool.not_true, Bool.not_false, *]; done) | fail)) (fun h => absurd h (by decide)) (fun _ => ?_)
            repeat (first | (refine OpsL.p (by subst_vars; decide) (by (first | (exact aop_move (by (first | (simp only [ASt.ev, tmPut, ↓reduceIte, reduceIte, Nat.reduceEqDiff, plain1, *]; rfl) | fail))) | fail)) ?_) | (refine Trip.seq ?_) | (refine Trip.ops ?_) | (refine Trip.skip ?_; ((repeat (first | refine blockExit_eq ?_ | refine blockExit_ne (by decide) ?_ | refine blockExit_normal ?_ | refine blockExit_ret ?_ | refine blockExit_goto ?_)); first | (change Trip _ _ _ _ _) | dsimp only | skip)) | fail)
            refine OpsL.p (by subst_vars; decide) (aop_leqT (by (first | (simp only [ASt.ev, tmPut, ↓reduceIte, reduceIte, Nat.reduceEqDiff, plain1, *]; rfl) | fail)) (by (first | (simp only [ASt.ev, tmPut, ↓reduceIte, reduceIte, Nat.reduceEqDiff, plain1, *]; rfl) | fail)) (by omega)) ?_
            repeat (first | (refine OpsL.nil ?_; ((repeat (first | refine blockExit_eq ?_ | refine blockExit_ne (by decide) ?_ | refine blockExit_normal ?_ | refine blockExit_ret ?_ | refine blockExit_goto ?_)); first | (change Trip _ _ _ _ _) | dsimp only | skip)) | fail)
            refine Trip.iteB (b := true) (by (first | (simp only [ASt.ev, tmPut, ↓reduceIte, reduceIte, Nat.reduceEqDiff, decide_true, decide_false, not_true_eq_false, not_false_eq_true, Bool.not_true, Bool.not_false, *]; done) | fail)) (fun _ => ?_) (fun h => absurd h (by decide))
            repeat (first | (refine OpsL.p (by subst_vars; decide) (by (first | (exact aop_move (by (first | (simp only [ASt.ev, tmPut, ↓reduceIte, reduceIte, Nat.reduceEqDiff, plain1, *]; rfl) | fail))) | fail)) ?_) | (refine Trip.ops ?_) | fail)
            refine OpsL.p (by subst_vars; decide) (aop_slice (r := r1) (a := some (.int .i64 1)) (b := none) (c := none) (by (first | (simp only [ASt.ev, tmPut, ↓reduceIte, reduceIte, Nat.reduceEqDiff, plain1, *]; done) | fail)) (by simp only [evOpt, ASt.ev, Option.map_some]; rfl) rfl rfl hr1) ?_
            repeat (first | (refine OpsL.p (by subst_vars; decide) (by (first | (exact aop_move (by (first | (simp only [ASt.ev, tmPut, ↓reduceIte, reduceIte, Nat.reduceEqDiff, plain1, *]; rfl) | fail))) | (exact aop_assign (by (first | (simp only [ASt.ev, tmPut, ↓reduceIte, reduceIte, Nat.reduceEqDiff, plain1, *]; rfl) | fail))) | fail)) ?_) | (refine Trip.seq ?_) | (refine Trip.ops ?_) | (refine OpsL.nil ?_; ((repeat (first | refine blockExit_eq ?_ | refine blockExit_ne (by decide) ?_ | refine blockExit_normal ?_ | refine blockExit_ret ?_ | refine blockExit_goto ?_)); first | (change Trip _ _ _ _ _) | dsimp only | skip)) | fail)
            refine OpsL.p (by subst_vars; decide) (aop_geqF (by (first | (simp only [ASt.ev, tmPut, ↓reduceIte, reduceIte, Nat.reduceEqDiff, plain1, *]; rfl) | fail)) (by (first | (simp only [ASt.ev, tmPut, ↓reduceIte, reduceIte, Nat.reduceEqDiff, plain1, *]; rfl) | fail)) (by omega)) ?_
            repeat (first | (refine OpsL.nil ?_; ((repeat (first | refine blockExit_eq ?_ | refine blockExit_ne (by decide) ?_ | refine blockExit_normal ?_ | refine blockExit_ret ?_ | refine blockExit_goto ?_)); first | (change Trip _ _ _ _ _) | dsimp only | skip)) | fail)
            refine Trip.iteB (b := false) (by (first | (simp only [ASt.ev, tmPut, ↓reduceIte, reduceIte, Nat.reduceEqDiff, decide_true, decide_false, not_true_eq_false, not_false_eq_true, Bool.not_true, Bool.not_false, *]; done) | fail)) (fun h => absurd h (by decide)) (fun _ => ?_)
            repeat (first | (refine Trip.skip ?_; ((repeat (first | refine blockExit_eq ?_ | refine blockExit_ne (by decide) ?_ | refine blockExit_normal ?_ | refine blockExit_ret ?_ | refine blockExit_goto ?_)); first | (change Trip _ _ _ _ _) | dsimp only | skip)) | fail)
            exact ⟨(da, y :: db), ⟨_, nx3, H3, ob, v, r1, _, r, rfl, ⟨hx23, hob3⟩, hown3, u1, t2, hsr, strict_tail hsa, hsb, fun z hz w hw => hlt z hz w (List.mem_cons_of_mem _ hw), k3, by dsimp only; omega, by simp [tmPut, *], by simp [tmPut, *], by simp [tmPut, *], hlb⟩, by simp only [List.length_cons]; omega⟩
          · have hl' : ltP y x := by
              by_cases h : ltP y x
              · exact h
              · exact absurd (ltP_total hl h) hz
            have hc : 0 < cmpP x y := (cmpP_gt x y).2 hl'
            have k3 := both_gt hsa hl' hmem
            generalize cmpP x y = c at *
            repeat (first | (refine OpsL.p (by subst_vars; decide) (by (first | (exact aop_move (by (first | (simp only [ASt.ev, tmPut, ↓reduceIte, reduceIte, Nat.reduceEqDiff, plain1, *]; rfl) | fail))) | fail)) ?_) | (refine Trip.seq ?_) | (refine Trip.ops ?_) | fail)
            refine OpsL.p (by subst_vars; decide) (aop_eqlF (by (first | (simp only [ASt.ev, tmPut, ↓reduceIte, reduceIte, Nat.reduceEqDiff, plain1, *]; rfl) | fail)) (by (first | (simp only [ASt.ev, tmPut, ↓reduceIte, reduceIte, Nat.reduceEqDiff, plain1, *]; rfl) | fail)) (by omega)) ?_
            repeat (first | (refine OpsL.nil ?_; ((repeat (first | refine blockExit_eq ?_ | refine blockExit_ne (by decide) ?_ | refine blockExit_normal ?_ | refine blockExit_ret ?_ | refine blockExit_goto ?_)); first | (change Trip _ _ _ _ _) | dsimp only | skip)) | fail)
            refine Trip.iteB (b := false) (by (first | (simp only [ASt.ev, tmPut, ↓reduceIte, reduceIte, Nat.reduceEqDiff, decide_true, decide_false, not_true_eq_false, not_false_eq_true, Bool.not_true, Bool.not_false, *]; done) | fail)) (fun h => absurd h (by decide)) (fun _ => ?_)
            repeat (first | (refine OpsL.p (by subst_vars; decide) (by (first | (exact aop_move (by (first | (simp only [ASt.ev, tmPut, ↓reduceIte, reduceIte, Nat.reduceEqDiff, plain1, *]; rfl) | fail))) | fail)) ?_) | (refine Trip.seq ?_) | (refine Trip.ops ?_) | (refine Trip.skip ?_; ((repeat (first | refine blockExit_eq ?_ | refine blockExit_ne (by decide) ?_ | refine blockExit_normal ?_ | refine blockExit_ret ?_ | refine blockExit_goto ?_)); first | (change Trip _ _ _ _ _) | dsimp only | skip)) | fail)
            refine OpsL.p (by subst_vars; decide) (aop_leqF (by (first | (simp only [ASt.ev, tmPut, ↓reduceIte, reduceIte, Nat.reduceEqDiff, plain1, *]; rfl) | fail)) (by (first | (simp only [ASt.ev, tmPut, ↓reduceIte, reduceIte, Nat.reduceEqDiff, plain1, *]; rfl) | fail)) (by omega)) ?_
            repeat (first | (refine OpsL.nil ?_; ((repeat (first | refine blockExit_eq ?_ | refine blockExit_ne (by decide) ?_ | refine blockExit_normal ?_ | refine blockExit_ret ?_ | refine blockExit_goto ?_)); first | (change Trip _ _ _ _ _) | dsimp only | skip)) | fail)
            refine Trip.iteB (b := false) (by (first | (simp only [ASt.ev, tmPut, ↓reduceIte, reduceIte, Nat.reduceEqDiff, decide_true, decide_false, not_true_eq_false, not_false_eq_true, Bool.not_true, Bool.not_false, *]; done) | fail)) (fun h => absurd h (by decide)) (fun _ => ?_)
            repeat (first | (refine OpsL.p (by subst_vars; decide) (by (first | (exact aop_move (by (first | (simp only [ASt.ev, tmPut, ↓reduceIte, reduceIte, Nat.reduceEqDiff, plain1, *]; rfl) | fail))) | fail)) ?_) | (refine Trip.seq ?_) | (refine Trip.ops ?_) | (refine Trip.skip ?_; ((repeat (first | refine blockExit_eq ?_ | refine blockExit_ne (by decide) ?_ | refine blockExit_normal ?_ | refine blockExit_ret ?_ | refine blockExit_goto ?_)); first | (change Trip _ _ _ _ _) | dsimp only | skip)) | fail)
            refine OpsL.p (by subst_vars; decide) (aop_geqT (by (first | (simp only [ASt.ev, tmPut, ↓reduceIte, reduceIte, Nat.reduceEqDiff, plain1, *]; rfl) | fail)) (by (first | (simp only [ASt.ev, tmPut, ↓reduceIte, reduceIte, Nat.reduceEqDiff, plain1, *]; rfl) | fail)) (by omega)) ?_
            repeat (first | (refine OpsL.nil ?_; ((repeat (first | refine blockExit_eq ?_ | refine blockExit_ne (by decide) ?_ | refine blockExit_normal ?_ | refine blockExit_ret ?_ | refine blockExit_goto ?_)); first | (change Trip _ _ _ _ _) | dsimp only | skip)) | fail)
            refine Trip.iteB (b := true) (by (first | (simp only [ASt.ev, tmPut, ↓reduceIte, reduceIte, Nat.reduceEqDiff, decide_true, decide_false, not_true_eq_false, not_false_eq_true, Bool.not_true, Bool.not_false, *]; done) | fail)) (fun _ => ?_) (fun h => absurd h (by decide))
            repeat (first | (refine OpsL.p (by subst_vars; decide) (by (first | (exact aop_move (by (first | (simp only [ASt.ev, tmPut, ↓reduceIte, reduceIte, Nat.reduceEqDiff, plain1, *]; rfl) | fail))) | fail)) ?_) | (refine Trip.ops ?_) | fail)
            refine OpsL.p (by subst_vars; decide) (aop_slice (r := r2) (a := some (.int .i64 1)) (b := none) (c := none) (by (first | (simp only [ASt.ev, tmPut, ↓reduceIte, reduceIte, Nat.reduceEqDiff, plain1, *]; done) | fail)) (by simp only [evOpt, ASt.ev, Option.map_some]; rfl) rfl rfl hr2) ?_
            repeat (first | (refine OpsL.p (by subst_vars; decide) (by (first | (exact aop_assign (by (first | (simp only [ASt.ev, tmPut, ↓reduceIte, reduceIte, Nat.reduceEqDiff, plain1, *]; rfl) | fail))) | fail)) ?_) | (refine OpsL.nil ?_; ((repeat (first | refine blockExit_eq ?_ | refine blockExit_ne (by decide) ?_ | refine blockExit_normal ?_ | refine blockExit_ret ?_ | refine blockExit_goto ?_)); first | (change Trip _ _ _ _ _) | dsimp only | skip)) | fail)
            exact ⟨(x :: da, db), ⟨_, nx3, H3, ob, v, _, r2, r, rfl, ⟨hx23, hob3⟩, hown3, t1, u2, hsr, hsa, strict_tail hsb, hlt, k3, by simp only [List.length_cons]; omega, by simp [tmPut, *], by simp [tmPut, *], by simp [tmPut, *], by dsimp only; omega⟩, by simp only [List.length_cons]; omega⟩
    · have hfin : ∀ x, (x ∈ ra ∧ x ∈ rb) ↔ x ∈ r := fun x => by
        rw [hmem]
        constructor
        · rintro (h | ⟨h3, h4⟩)
          · exact h
          · exfalso
            have := List.length_pos_of_mem h3
            have := List.length_pos_of_mem h4
            omega
        · exact .inl
      have hfr : Fresh nx H nx' H' ob := ⟨hx02.trans hx, fun b t h => by have := hob b t h; have := hx02.1; omega⟩
      have hrl : r.length ≤ la.length := by omega
      have hmm : ∀ x, x ∈ r ↔ x ∈ la ∧ x ∈ lb := fun x => by rw [← hfin x, a2, b2]
      repeat (first | (refine OpsL.p (by subst_vars; decide) (by (first | (exact aop_move (by (first | (simp only [ASt.ev, tmPut, ↓reduceIte, reduceIte, Nat.reduceEqDiff, plain1, *]; rfl) | fail))) | (exact aop_len (by (first | (simp only [ASt.ev, tmPut, ↓reduceIte, reduceIte, Nat.reduceEqDiff, plain1, *]; rfl) | fail)) (by exact rfl)) | fail)) ?_) | (refine Trip.seq ?_) | (refine Trip.ops ?_) | fail)
      by_cases h1 : 0 < da.length
      · refine OpsL.p (by subst_vars; decide) (aop_gtrT (by (first | (simp only [ASt.ev, tmPut, ↓reduceIte, reduceIte, Nat.reduceEqDiff, plain1, *]; rfl) | fail)) (by (first | (simp only [ASt.ev, tmPut, ↓reduceIte, reduceIte, Nat.reduceEqDiff, plain1, *]; rfl) | fail)) (by omega)) ?_
        repeat (first | (refine OpsL.p (by subst_vars; decide) (by (first | (exact aop_move (by (first | (simp only [ASt.ev, tmPut, ↓reduceIte, reduceIte, Nat.reduceEqDiff, plain1, *]; rfl) | fail))) | (exact aop_len (by (first | (simp only [ASt.ev, tmPut, ↓reduceIte, reduceIte, Nat.reduceEqDiff, plain1, *]; rfl) | fail)) (by exact rfl)) | fail)) ?_) | (refine OpsL.unguard (by exact rfl) (by (first | (simp only [ASt.ev, tmPut, ↓reduceIte, reduceIte, Nat.reduceEqDiff, decide_true, decide_false, not_true_eq_false, not_false_eq_true, Bool.not_true, Bool.not_false, *]; done) | fail)) ?_) | fail)
        refine OpsL.p (by subst_vars; decide) (aop_gtrF (by (first | (simp only [ASt.ev, tmPut, ↓reduceIte, reduceIte, Nat.reduceEqDiff, plain1, *]; rfl) | fail)) (by (first | (simp only [ASt.ev, tmPut, ↓reduceIte, reduceIte, Nat.reduceEqDiff, plain1, *]; rfl) | fail)) (by omega)) ?_
        repeat (first | (refine OpsL.p (by subst_vars; decide) (by (first | (exact aop_pickT (by (first | (simp only [ASt.ev, tmPut, ↓reduceIte, reduceIte, Nat.reduceEqDiff, decide_true, decide_false, not_true_eq_false, not_false_eq_true, Bool.not_true, Bool.not_false, *]; done) | fail)) (by (first | (simp only [ASt.ev, tmPut, ↓reduceIte, reduceIte, Nat.reduceEqDiff, plain1, *]; rfl) | fail))) | fail)) ?_) | (refine OpsL.nil ?_; ((repeat (first | refine blockExit_eq ?_ | refine blockExit_ne (by decide) ?_ | refine blockExit_normal ?_ | refine blockExit_ret ?_ | refine blockExit_goto ?_)); first | (change Trip _ _ _ _ _) | dsimp only | skip)) | fail)
        refine Trip.iteB (b := false) (by (first | (simp only [ASt.ev, tmPut, ↓reduceIte, reduceIte, Nat.reduceEqDiff, decide_true, decide_false, not_true_eq_false, not_false_eq_true, Bool.not_true, Bool.not_false, *]; done) | fail)) (fun h => absurd h (by decide)) (fun _ => ?_)
        repeat (first | (refine OpsL.p (by subst_vars; decide) (by (first | (exact aop_move (by (first | (simp only [ASt.ev, tmPut, ↓reduceIte, reduceIte, Nat.reduceEqDiff, plain1, *]; rfl) | fail))) | (exact aop_assign (by (first | (simp only [ASt.ev, tmPut, ↓reduceIte, reduceIte, Nat.reduceEqDiff, plain1, *]; rfl) | fail))) | fail)) ?_) | (refine Trip.seq ?_) | (refine Trip.ops ?_) | (refine Trip.exit ?_; ((repeat (first | refine blockExit_eq ?_ | refine blockExit_ne (by decide) ?_ | refine blockExit_normal ?_ | refine blockExit_ret ?_ | refine blockExit_goto ?_)); first | (change Trip _ _ _ _ _) | dsimp only | skip)) | (refine Trip.ret ?_; ((repeat (first | refine blockExit_eq ?_ | refine blockExit_ne (by decide) ?_ | refine blockExit_normal ?_ | refine blockExit_ret ?_ | refine blockExit_goto ?_)); first | (change Trip _ _ _ _ _) | dsimp only | skip)) | (refine OpsL.nil ?_; ((repeat (first | refine blockExit_eq ?_ | refine blockExit_ne (by decide) ?_ | refine blockExit_normal ?_ | refine blockExit_ret ?_ | refine blockExit_goto ?_)); first | (change Trip _ _ _ _ _) | dsimp only | skip)) | fail)
        exact ⟨.inr rfl, _, res_tmp, ob, r, hsr, hmm, hrl, by simp [tmPut, *], hfr⟩
      · refine OpsL.p (by subst_vars; decide) (aop_gtrF (by (first | (simp only [ASt.ev, tmPut, ↓reduceIte, reduceIte, Nat.reduceEqDiff, plain1, *]; rfl) | fail)) (by (first | (simp only [ASt.ev, tmPut, ↓reduceIte, reduceIte, Nat.reduceEqDiff, plain1, *]; rfl) | fail)) (by omega)) ?_
        repeat (first | (refine OpsL.p (by subst_vars; decide) (by (first | (exact aop_move (by (first | (simp only [ASt.ev, tmPut, ↓reduceIte, reduceIte, Nat.reduceEqDiff, plain1, *]; rfl) | fail))) | (exact aop_pickF (by (first | (simp only [ASt.ev, tmPut, ↓reduceIte, reduceIte, Nat.reduceEqDiff, decide_true, decide_false, not_true_eq_false, not_false_eq_true, Bool.not_true, Bool.not_false, *]; done) | fail)) (by (first | (simp only [ASt.ev, tmPut, ↓reduceIte, reduceIte, Nat.reduceEqDiff, plain1, *]; rfl) | fail))) | fail)) ?_) | (refine OpsL.nil ?_; ((repeat (first | refine blockExit_eq ?_ | refine blockExit_ne (by decide) ?_ | refine blockExit_normal ?_ | refine blockExit_ret ?_ | refine blockExit_goto ?_)); first | (change Trip _ _ _ _ _) | dsimp only | skip)) | (refine OpsL.skipped (by exact rfl) (by (first | (simp only [ASt.ev, tmPut, ↓reduceIte, reduceIte, Nat.reduceEqDiff, decide_true, decide_false, not_true_eq_false, not_false_eq_true, Bool.not_true, Bool.not_false, *]; done) | fail)) (by subst_vars; decide) ?_) | fail)
        refine Trip.iteB (b := false) (by (first | (simp only [ASt.ev, tmPut, ↓reduceIte, reduceIte, Nat.reduceEqDiff, decide_true, decide_false, not_true_eq_false, not_false_eq_true, Bool.not_true, Bool.not_false, *]; done) | fail)) (fun h => absurd h (by decide)) (fun _ => ?_)
        repeat (first | (refine OpsL.p (by subst_vars; decide) (by (first | (exact aop_move (by (first | (simp only [ASt.ev, tmPut, ↓reduceIte, reduceIte, Nat.reduceEqDiff, plain1, *]; rfl) | fail))) | (exact aop_assign (by (first | (simp only [ASt.ev, tmPut, ↓reduceIte, reduceIte, Nat.reduceEqDiff, plain1, *]; rfl) | fail))) | fail)) ?_) | (refine Trip.seq ?_) | (refine Trip.ops ?_) | (refine Trip.exit ?_; ((repeat (first | refine blockExit_eq ?_ | refine blockExit_ne (by decide) ?_ | refine blockExit_normal ?_ | refine blockExit_ret ?_ | refine blockExit_goto ?_)); first | (change Trip _ _ _ _ _) | dsimp only | skip)) | (refine Trip.ret ?_; ((repeat (first | refine blockExit_eq ?_ | refine blockExit_ne (by decide) ?_ | refine blockExit_normal ?_ | refine blockExit_ret ?_ | refine blockExit_goto ?_)); first | (change Trip _ _ _ _ _) | dsimp only | skip)) | (refine OpsL.nil ?_; ((repeat (first | refine blockExit_eq ?_ | refine blockExit_ne (by decide) ?_ | refine blockExit_normal ?_ | refine blockExit_ret ?_ | refine blockExit_goto ?_)); first | (change Trip _ _ _ _ _) | dsimp only | skip)) | fail)
        exact ⟨.inr rfl, _, res_tmp, ob, r, hsr, hmm, hrl, by simp [tmPut, *], hfr⟩

end Go.Proofs.Ytigincejpjajpaa
