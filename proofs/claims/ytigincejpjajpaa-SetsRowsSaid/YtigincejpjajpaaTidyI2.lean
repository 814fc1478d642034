/-
  sets.tidy, sets.Pairs at numbers: in order, each once.
-/
import Derived.Test.YtigincejpjajpaaCompI2
import Derived.Test.YtigincejpjajpaaTidyP2
namespace Go.Proofs.Ytigincejpjajpaa
set_option linter.unusedSimpArgs false
set_option linter.unusedVariables false
open Go.RowKit Go.Am
attribute [local irreducible] aop OpsL Trip blockExit OpsD OpsK OpsR

def ltI (x y : Int) : Prop := x < y
/-- In order, each once. -/
def StrictI (l : List Int) : Prop := l.Pairwise ltI

theorem ltI_irrefl (x : Int) : ¬ ltI x x := by unfold ltI; omega
theorem ltI_trans {x y z : Int} (h1 : ltI x y) (h2 : ltI y z) : ltI x z := by unfold ltI at *; omega
theorem ltI_total {x y : Int} (h1 : ¬ ltI x y) (h2 : ¬ ltI y x) : x = y := by unfold ltI at *; omega

/-- What is in order, each once, is told by what is in it. -/
theorem strictI_ext : ∀ (l r : List Int), StrictI l → StrictI r → (∀ x, x ∈ l ↔ x ∈ r) → l = r := by
  intro l
  induction l with
  | nil =>
    intro r _ _ h
    cases r with
    | nil => rfl
    | cons y r => exact absurd ((h y).2 List.mem_cons_self) (by simp)
  | cons x l ih =>
    intro r hl hr h
    cases r with
    | nil => exact absurd ((h x).1 List.mem_cons_self) (by simp)
    | cons y r =>
      unfold StrictI at *
      rw [List.pairwise_cons] at hl hr
      have hxy : x = y := by
        rcases List.mem_cons.1 ((h x).1 List.mem_cons_self) with e | hx
        · exact e
        · rcases List.mem_cons.1 ((h y).2 List.mem_cons_self) with e | hy
          · exact e.symm
          · exact absurd (ltI_trans (hr.1 x hx) (hl.1 y hy)) (ltI_irrefl _)
      subst hxy
      congr 1
      refine ih r hl.2 hr.2 fun z => ?_
      constructor
      · intro hz
        rcases List.mem_cons.1 ((h z).1 (List.mem_cons_of_mem _ hz)) with e | hz'
        · subst e; exact absurd (hl.1 z hz) (ltI_irrefl _)
        · exact hz'
      · intro hz
        rcases List.mem_cons.1 ((h z).2 (List.mem_cons_of_mem _ hz)) with e | hz'
        · subst e; exact absurd (hr.1 z hz) (ltI_irrefl _)
        · exact hz'

/-- Sorted, each once: in order, each once. -/
theorem strictI_ded (l : List Int) (h : SortedI l) : StrictI (dedF l) := by
  have key : ∀ n, n ≤ l.length → StrictI (dedF (l.take n)) ∧ ∀ x ∈ dedF (l.take n), ∀ j (hj : j < l.length), n ≤ j → ¬ ltI l[j] x := by
    have hmem : ∀ n, ∀ x ∈ dedF (l.take n), ∀ j (hj : j < l.length), n ≤ j → ¬ ltI l[j] x := fun n x hx j hj hnj => by
      rw [dedF_mem] at hx
      obtain ⟨i, hi, rfl⟩ := List.getElem_of_mem hx
      rw [List.length_take] at hi
      rw [List.getElem_take]
      exact List.pairwise_iff_getElem.1 h i j (by omega) hj (by omega)
    intro n
    induction n with
    | zero => intro _; exact ⟨List.Pairwise.nil, fun x hx => by cases hx⟩
    | succ n ih =>
      intro hn
      refine ⟨?_, hmem (n + 1)⟩
      obtain ⟨i1, i2⟩ := ih (by omega)
      by_cases h0 : 0 < n
      · rw [dedF_take l h0 (by omega)]
        split
        · exact i1
        · rename_i hne
          refine List.pairwise_append.2 ⟨i1, List.pairwise_singleton _ _, fun x hx y hy => ?_⟩
          rw [List.mem_singleton] at hy
          subst hy
          by_cases hlt : ltI x l[n]
          · exact hlt
          · have hxe : x = l[n] := ltI_total hlt (i2 x hx n (by omega) (Nat.le_refl _))
            rw [dedF_mem] at hx
            obtain ⟨i, hi, hxi⟩ := List.getElem_of_mem hx
            rw [List.length_take] at hi
            rw [List.getElem_take] at hxi
            exfalso
            -- all from i to n are alike
            have h1 : ¬ ltI l[n - 1] l[i] := by
              by_cases e : i = n - 1
              · subst e; exact ltI_irrefl _
              · exact List.pairwise_iff_getElem.1 h i (n - 1) (by omega) (by omega) (by omega)
            have h2 : ¬ ltI l[n] l[n - 1] := List.pairwise_iff_getElem.1 h (n - 1) n (by omega) (by omega) (by omega)
            have e1 : l[i] = l[n] := hxi.trans hxe
            rw [e1] at h1
            exact hne (ltI_total h1 h2)
      · have : n = 0 := by omega
        subst this
        rw [dedF_one _ (by simp; omega)]
        match l.take 1, (by simp; omega : (l.take 1).length ≤ 1) with
        | [], _ => exact List.Pairwise.nil
        | [x], _ => exact List.pairwise_singleton _ _
  have := (key l.length (Nat.le_refl _)).1
  rwa [List.take_length] at this

theorem entersTidyI : Am.Enters Try.prog 39 := ⟨Try.f39, Try.func39, by kernel_rfl, by kernel_rfl⟩
theorem entersIntsS : Am.Enters Try.prog 15 := ⟨Try.f15, Try.func15, by kernel_rfl, by kernel_rfl⟩

theorem sortOwnI (W0 : World) {nx : Nat} {H : Heap} {ob : Option (Nat × Nat)} {v : Value} {l : List Int} (h : OwnNums H ob v l) (hl : l.length ≤ 1000000) :
    ACalls Try.prog W0 48 [v, .func (.func 40) #[] #[]] nx H fun _ nx' H' => nx' = nx ∧ ∃ l' : List Int, l'.Perm l ∧ SortedI l' ∧ OwnNums H' ob v l' ∧ ∀ i, (∀ b t, ob = some (b, t) → i ≠ b) → H' i = H i := by
  cases ob with
  | none =>
    obtain ⟨rfl, _, hl0⟩ := h
    have hnil : l = [] := List.eq_nil_of_length_eq_zero hl0
    subst hnil
    intro C w args' hR ha
    obtain ⟨h1, h2⟩ := ha
    obtain ⟨v1, v2, rfl⟩ : ∃ v1 v2, args' = [v1, v2] := by
      match args', h1 with
      | [v1, v2], _ => exact ⟨v1, v2, rfl⟩
    have hv1 := h2 0 (by simp) (by simp)
    simp only [List.getElem_cons_zero] at hv1
    obtain rfl : v1 = .slice none 0 0 := by cases hv1; rfl
    refine (AnyF.slices_SortFunc_none { sortIntsL with } none 0 v2 w).mono ?_
    rintro e w' ⟨rfl, rfl⟩
    exact ⟨_, _, C, nx, H, rfl, ⟨rfl, [], List.Perm.refl _, List.Pairwise.nil, ⟨rfl, rfl, rfl⟩, fun _ _ => rfl⟩, hR, .tuple #[] #[] rfl (fun i h => absurd h (by simp)), Stp.refl _ _ _⟩
  | some bt =>
    obtain ⟨b, t⟩ := bt
    obtain ⟨rfl, _, rest, hH⟩ := h
    rw [encI_flat] at hH
    refine ACalls.weaken (sortIntsC W0 hH (by omega)) ?_
    rintro v nx' H' ⟨_, rfl, l', hp, hs, rfl⟩
    refine ⟨rfl, l', hp, hs, ⟨by rw [hp.length_eq], by rw [flat_len encI_len], rest, by rw [encI_flat]; exact Heap.put_eq⟩, fun i hi => Heap.put_ne (hi b t rfl)⟩

set_option maxRecDepth 20000 in
set_option maxHeartbeats 4000000 in
theorem tidyIC (W0 : World) {nx : Nat} {H : Heap} {v : Value} {ls : List (Value × List Int)} (hr : RowsInI H v ls) (hm : (allOfI ls).length ≤ 100000) (hl : ls.length ≤ 100) :
    ACalls Try.prog W0 39 [.func (.func 40) #[] #[], v] nx H fun v nx' H' => ∃ ob r, StrictI r ∧ (∀ x, x ∈ r ↔ x ∈ allOfI ls) ∧ r.length ≤ (allOfI ls).length ∧ OwnNums H' ob v r ∧ Fresh nx H nx' H' ob := by
  refine ACalls.by_trip (fn := Try.f39) (c := _) Try.func39 rfl (fun tm n hn0 htm => ?_)
  have e0 : tm 0 = .func (.func 40) #[] #[] := htm 0
  have e1 : tm 1 = v := htm 1
  clear htm
  replace hn0 : n = 13 := hn0
  repeat (first | (refine OpsL.p (by subst_vars; decide) (by (first | (exact aop_move (by (first | (simp only [ASt.ev, tmPut, ↓reduceIte, reduceIte, Nat.reduceEqDiff, plain1, *]; rfl) | fail))) | (exact aop_assign (by (first | (simp only [ASt.ev, tmPut, ↓reduceIte, reduceIte, Nat.reduceEqDiff, plain1, *]; rfl) | fail))) | fail)) ?_) | (refine Trip.seq ?_) | (refine Trip.ops ?_) | (refine OpsL.nil ?_; ((repeat (first | refine blockExit_eq ?_ | refine blockExit_ne (by decide) ?_ | refine blockExit_normal ?_ | refine blockExit_ret ?_ | refine blockExit_goto ?_)); first | (change Trip _ _ _ _ _) | dsimp only | skip)) | fail)
  refine OpsL.call1 (by subst_vars; decide) (by (first | (simp only [ASt.ev, tmPut, ↓reduceIte, reduceIte, Nat.reduceEqDiff, plain1, *]; done) | fail)) entersConcI (concIC W0 hr hm hl) ?_
  rintro v1 nx1 H1 ⟨ob, ho1, hx1, hob1⟩
  repeat (first | (refine OpsL.p (by subst_vars; decide) (by (first | (exact aop_move (by (first | (simp only [ASt.ev, tmPut, ↓reduceIte, reduceIte, Nat.reduceEqDiff, plain1, *]; rfl) | fail))) | (exact aop_assign (by (first | (simp only [ASt.ev, tmPut, ↓reduceIte, reduceIte, Nat.reduceEqDiff, plain1, *]; rfl) | fail))) | fail)) ?_) | (refine Trip.seq ?_) | (refine Trip.ops ?_) | (refine OpsL.nil ?_; ((repeat (first | refine blockExit_eq ?_ | refine blockExit_ne (by decide) ?_ | refine blockExit_normal ?_ | refine blockExit_ret ?_ | refine blockExit_goto ?_)); first | (change Trip _ _ _ _ _) | dsimp only | skip)) | fail)
  refine OpsL.call2 (by subst_vars; decide) (by (first | (simp only [ASt.ev, tmPut, ↓reduceIte, reduceIte, Nat.reduceEqDiff, plain1, *]; done) | fail)) (by (first | (simp only [ASt.ev, tmPut, ↓reduceIte, reduceIte, Nat.reduceEqDiff, plain1, *]; done) | fail)) entersSortI (sortOwnI W0 ho1 (by omega)) ?_
  rintro v2 nx2 H2 ⟨rfl, l', hp, hs, ho2, hsame2⟩
  repeat (first | (refine OpsL.p (by subst_vars; decide) (by (first | (exact aop_move (by (first | (simp only [ASt.ev, tmPut, ↓reduceIte, reduceIte, Nat.reduceEqDiff, plain1, *]; rfl) | fail))) | fail)) ?_) | (refine Trip.seq ?_) | (refine Trip.ops ?_) | (refine OpsL.nil ?_; ((repeat (first | refine blockExit_eq ?_ | refine blockExit_ne (by decide) ?_ | refine blockExit_normal ?_ | refine blockExit_ret ?_ | refine blockExit_goto ?_)); first | (change Trip _ _ _ _ _) | dsimp only | skip)) | fail)
  refine OpsL.call1 (by subst_vars; decide) (by (first | (simp only [ASt.ev, tmPut, ↓reduceIte, reduceIte, Nat.reduceEqDiff, plain1, *]; done) | fail)) entersCompI (compIC W0 ho2 (by rw [hp.length_eq]; omega)) ?_
  rintro v3 nx3 H3 ⟨rfl, ho3, hsame3⟩
  repeat (first | (refine OpsL.p (by subst_vars; decide) (by (first | (exact aop_assign (by (first | (simp only [ASt.ev, tmPut, ↓reduceIte, reduceIte, Nat.reduceEqDiff, plain1, *]; rfl) | fail))) | fail)) ?_) | (refine Trip.ret ?_; ((repeat (first | refine blockExit_eq ?_ | refine blockExit_ne (by decide) ?_ | refine blockExit_normal ?_ | refine blockExit_ret ?_ | refine blockExit_goto ?_)); first | (change Trip _ _ _ _ _) | dsimp only | skip)) | (refine OpsL.nil ?_; ((repeat (first | refine blockExit_eq ?_ | refine blockExit_ne (by decide) ?_ | refine blockExit_normal ?_ | refine blockExit_ret ?_ | refine blockExit_goto ?_)); first | (change Trip _ _ _ _ _) | dsimp only | skip)) | fail)
  refine ⟨.inr rfl, _, res_tmp, ob, dedF l', strictI_ded l' hs, fun x => by rw [dedF_mem, hp.mem_iff], by have := dedF_len l'; rw [hp.length_eq] at this; exact this, by simpa [tmPut] using ho3, ⟨hx1.1, fun i hi => ?_⟩, hob1⟩
  rw [hsame3 i (fun b t h => by have := (hob1 b t h).1; omega), hsame2 i (fun b t h => by have := (hob1 b t h).1; omega), hx1.2 i hi]

set_option maxRecDepth 20000 in
set_option maxHeartbeats 4000000 in
theorem intsTC (W0 : World) {nx : Nat} {H : Heap} {v : Value} {l : List Int} (hr : NumsIn H v l) (hm : l.length ≤ 100000) :
    ACalls Try.prog W0 15 [v] nx H fun v nx' H' => ∃ ob r, StrictI r ∧ (∀ x, x ∈ r ↔ x ∈ l) ∧ r.length ≤ l.length ∧ OwnNums H' ob v r ∧ Fresh nx H nx' H' ob := by
  refine ACalls.by_trip (fn := Try.f15) (c := _) Try.func15 rfl (fun tm n hn0 htm => ?_)
  have e0 : tm 0 = v := htm 0
  clear htm
  replace hn0 : n = 6 := hn0
  refine Trip.ok fun hok => ?_
  replace hok : ∀ id o, H id = some o → id < nx := hok
  obtain ⟨va, vc, rfl⟩ := hr.slice
  repeat (first | (refine OpsL.p (by subst_vars; decide) (by (first | (exact aop_move (by (first | (simp only [ASt.ev, tmPut, ↓reduceIte, reduceIte, Nat.reduceEqDiff, plain1, *]; rfl) | fail))) | (exact aop_assign (by (first | (simp only [ASt.ev, tmPut, ↓reduceIte, reduceIte, Nat.reduceEqDiff, plain1, *]; rfl) | fail))) | fail)) ?_) | (refine Trip.seq ?_) | (refine Trip.ops ?_) | (refine OpsL.nil ?_; ((repeat (first | refine blockExit_eq ?_ | refine blockExit_ne (by decide) ?_ | refine blockExit_normal ?_ | refine blockExit_ret ?_ | refine blockExit_goto ?_)); first | (change Trip _ _ _ _ _) | dsimp only | skip)) | fail)
  refine OpsL.new (by subst_vars; decide) (aop_buildSlice (l := [(0, .slice va l.length vc)]) (r := (.slice (some ⟨nx, 0, none⟩) 1 1, .new (.cells [.slice va l.length vc] 1 none false (some 22)))) (by simp only [evParts, ASt.ev, tmPut, ↓reduceIte, reduceIte, Option.some.injEq, Nat.reduceEqDiff, *]) (by kernel_rfl)) ?_
  have hx0 : Ext nx H (nx + 1) (H.put nx (.cells [.slice va l.length vc] 1 none false (some 22))) := Ext.newPut
  have hin : RowsInI (H.put nx (.cells [.slice va l.length vc] 1 none false (some 22))) (.slice (some ⟨nx, 0, none⟩) 1 1) [(.slice va l.length vc, l)] := ⟨nx, rfl, Heap.put_eq, fun x hx => by rw [List.mem_singleton] at hx; subst hx; exact hr.ext hx0 hok⟩
  have hall : allOfI [(Value.slice va l.length vc, l)] = l := by simp [allOfI]
  refine OpsL.call2 (by subst_vars; decide) (by (first | (simp only [ASt.ev, tmPut, ↓reduceIte, reduceIte, Nat.reduceEqDiff, plain1, *]; done) | fail)) (by (first | (simp only [ASt.ev, tmPut, ↓reduceIte, reduceIte, Nat.reduceEqDiff, plain1, *]; done) | fail)) entersTidyI (tidyIC W0 hin (by rw [hall]; exact hm) (by simp)) ?_
  rintro v1 nx1 H1 ⟨ob, r, h1, h2, h3, h4, hx1, hob1⟩
  rw [hall] at h2 h3
  repeat (first | (refine OpsL.p (by subst_vars; decide) (by (first | (exact aop_assign (by (first | (simp only [ASt.ev, tmPut, ↓reduceIte, reduceIte, Nat.reduceEqDiff, plain1, *]; rfl) | fail))) | fail)) ?_) | (refine Trip.ret ?_; ((repeat (first | refine blockExit_eq ?_ | refine blockExit_ne (by decide) ?_ | refine blockExit_normal ?_ | refine blockExit_ret ?_ | refine blockExit_goto ?_)); first | (change Trip _ _ _ _ _) | dsimp only | skip)) | (refine OpsL.nil ?_; ((repeat (first | refine blockExit_eq ?_ | refine blockExit_ne (by decide) ?_ | refine blockExit_normal ?_ | refine blockExit_ret ?_ | refine blockExit_goto ?_)); first | (change Trip _ _ _ _ _) | dsimp only | skip)) | fail)
  exact ⟨.inr rfl, _, res_tmp, ob, r, h1, h2, h3, by simpa [tmPut] using h4, hx0.trans hx1, fun b t h => by have := hob1 b t h; omega⟩

end Go.Proofs.Ytigincejpjajpaa
