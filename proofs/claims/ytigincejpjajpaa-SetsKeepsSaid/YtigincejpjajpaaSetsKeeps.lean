/-
  The law SetsKeeps of chapter 2 holds for all numbers: a row that was handed in, that was told, may be changed; the table keeps its own.
  Conditions: none beyond the row's own.
-/
import Derived.Test.YtigincejpjajpaaKeeps2
namespace Go.Proofs.Ytigincejpjajpaa.setsKeeps
set_option linter.unusedSimpArgs false
set_option linter.unusedVariables false
open Go.Am Go.RowKit Go.ChangeShapes Go.WideShapes Go.ChangeAt
attribute [local irreducible] aop OpsL Trip blockExit OpsD OpsK OpsR

theorem entersKnown : Am.Enters Try.prog 12 := ⟨Try.f12, Try.func12, by kernel_rfl, by kernel_rfl⟩

/-- Two rows are put, the one behind the other. -/
theorem two_put {R : List (List (Int × Int))} {r1 r2 : List (Int × Int)} {y : Int} {nw : Bool} (h : (nw = false ∧ R = [r1] ∧ ∃ k : Nat, y = k ∧ [r1][k]? = some r2) ∨ (nw = true ∧ r2 ∉ [r1] ∧ y = [r1].length ∧ R = [r1] ++ [r2])) :
    R[0]? = some r1 ∧ (∃ k : Nat, y = k ∧ R[k]? = some r2) ∧ nw = !decide (r1 = r2) ∧ ∀ k : Nat, R[k]? = some r1 → k = 0 := by
  rcases h with ⟨rfl, rfl, k, h3, h4⟩ | ⟨rfl, h2, rfl, rfl⟩
  · have hk : k = 0 := by
      match k, h4 with
      | 0, _ => rfl
      | k + 1, h => simp at h
    subst hk
    have he : r1 = r2 := by simpa using h4
    refine ⟨rfl, ⟨0, h3, h4⟩, by simp [he], fun k hk => ?_⟩
    match k, hk with
    | 0, _ => rfl
    | k + 1, h => simp at h
  · have hne : r1 ≠ r2 := fun e => h2 (by rw [e]; simp)
    refine ⟨rfl, ⟨1, rfl, rfl⟩, by simp [hne], fun k hk => ?_⟩
    match k, hk with
    | 0, _ => rfl
    | 1, h => exact absurd (by simpa using h.symm) hne
    | k + 2, h => simp at h

set_option maxRecDepth 20000 in
set_option maxHeartbeats 16000000 in
theorem law (W0 : World) {nx : Nat} {H : Heap} {by' : Int} {nv mv : Value} {ns ms : List Int} (hn : IntsAt H nv ns) (hm : IntsAt H mv ms) : ACalls Try.prog W0 7 [nv, mv, .int .i64 by'] nx H fun v _ _ => v = .bool true := by
  obtain ⟨na, nc, rfl⟩ := hn.slice
  obtain ⟨ma, mc, rfl⟩ := hm.slice
  refine ACalls.by_trip (fn := Try.f7) (c := _) Try.func7 rfl (fun tm n hn0 htm => ?_)
  have e0 : tm 0 = .slice na ns.length nc := htm 0
  have e1 : tm 1 = .slice ma ms.length mc := htm 1
  have e2 : tm 2 = .int .i64 by' := htm 2
  clear htm
  replace hn0 : n = 114 := hn0
  refine Trip.ok fun hok => ?_
  replace hok : ∀ id o, H id = some o → id < nx := hok
  repeat (first | (refine OpsL.p (by subst_vars; decide) (by (first | (exact aop_assign (by (first | (simp only [ASt.ev, tmPut, ↓reduceIte, reduceIte, Nat.reduceEqDiff, plain1, *]; rfl) | fail))) | fail)) ?_) | (refine Trip.seq ?_) | (refine Trip.ops ?_) | (refine OpsL.nil ?_; ((repeat (first | refine blockExit_eq ?_ | refine blockExit_ne (by decide) ?_ | refine blockExit_normal ?_ | refine blockExit_ret ?_ | refine blockExit_goto ?_)); first | (change Trip _ _ _ _ _) | dsimp only | skip)) | fail)
  refine OpsL.call0 (by subst_vars; decide) entersKnown ((known_told W0).2 nx H) ?_
  rintro v nx0 H0 ⟨rfl, rfl, rfl⟩
  dsimp only
  repeat (first | (refine OpsL.p (by subst_vars; decide) (by (first | (exact aop_not (by (first | (simp only [ASt.ev, tmPut, ↓reduceIte, reduceIte, Nat.reduceEqDiff, plain1, *]; rfl) | fail))) | fail)) ?_) | (refine OpsL.nil ?_; ((repeat (first | refine blockExit_eq ?_ | refine blockExit_ne (by decide) ?_ | refine blockExit_normal ?_ | refine blockExit_ret ?_ | refine blockExit_goto ?_)); first | (change Trip _ _ _ _ _) | dsimp only | skip)) | fail)
  refine Trip.iteB (b := false) (by (first | (simp only [ASt.ev, tmPut, ↓reduceIte, reduceIte, Nat.reduceEqDiff, decide_true, decide_false, not_true_eq_false, not_false_eq_true, Bool.not_true, Bool.not_false, *]; done) | fail)) (fun h => absurd h (by decide)) (fun _ => ?_)
  repeat (first | (refine Trip.seq ?_) | (refine Trip.ops ?_) | (refine Trip.skip ?_; ((repeat (first | refine blockExit_eq ?_ | refine blockExit_ne (by decide) ?_ | refine blockExit_normal ?_ | refine blockExit_ret ?_ | refine blockExit_goto ?_)); first | (change Trip _ _ _ _ _) | dsimp only | skip)) | fail)
  refine OpsL.call0 (by subst_vars; decide) entersNew (newC W0).ok ?_
  rintro v nx1 H1 ⟨⟨rfl, hn1, x1, tA⟩, k1⟩
  have hn' := hn.ext x1 hok
  have hm' := hm.ext x1 hok
  obtain ⟨SA, hSA⟩ : ∃ S : Nat → Prop, S = fun i => i = nx0 := ⟨_, rfl⟩
  rw [← hSA] at tA
  have sA : ∀ i, SA i → nx0 ≤ i ∧ i < nx1 := fun i hi => by rw [hSA] at hi; omega
  clear hSA
  repeat (first | (refine OpsL.p (by subst_vars; decide) (by (first | (exact aop_move (by (first | (simp only [ASt.ev, tmPut, ↓reduceIte, reduceIte, Nat.reduceEqDiff, plain1, *]; rfl) | fail))) | (exact aop_assign (by (first | (simp only [ASt.ev, tmPut, ↓reduceIte, reduceIte, Nat.reduceEqDiff, plain1, *]; rfl) | fail))) | fail)) ?_) | (refine Trip.seq ?_) | (refine Trip.ops ?_) | (refine OpsL.nil ?_; ((repeat (first | refine blockExit_eq ?_ | refine blockExit_ne (by decide) ?_ | refine blockExit_normal ?_ | refine blockExit_ret ?_ | refine blockExit_goto ?_)); first | (change Trip _ _ _ _ _) | dsimp only | skip)) | fail)
  refine OpsL.p (by subst_vars; decide) (aop_eqlP (r := false) (by (first | (simp only [ASt.ev, tmPut, ↓reduceIte, reduceIte, Nat.reduceEqDiff, plain1, *]; rfl) | fail)) (by (first | (simp only [ASt.ev, tmPut, ↓reduceIte, reduceIte, Nat.reduceEqDiff, plain1, *]; rfl) | fail)) (by kernel_rfl)) ?_
  repeat (first | (refine OpsL.nil ?_; ((repeat (first | refine blockExit_eq ?_ | refine blockExit_ne (by decide) ?_ | refine blockExit_normal ?_ | refine blockExit_ret ?_ | refine blockExit_goto ?_)); first | (change Trip _ _ _ _ _) | dsimp only | skip)) | fail)
  refine Trip.iteB (b := false) (by (first | (simp only [ASt.ev, tmPut, ↓reduceIte, reduceIte, Nat.reduceEqDiff, decide_true, decide_false, not_true_eq_false, not_false_eq_true, Bool.not_true, Bool.not_false, *]; done) | fail)) (fun h => absurd h (by decide)) (fun _ => ?_)
  repeat (first | (refine OpsL.p (by subst_vars; decide) (by (first | (exact aop_move (by (first | (simp only [ASt.ev, tmPut, ↓reduceIte, reduceIte, Nat.reduceEqDiff, plain1, *]; rfl) | fail))) | fail)) ?_) | (refine Trip.seq ?_) | (refine Trip.ops ?_) | (refine Trip.skip ?_; ((repeat (first | refine blockExit_eq ?_ | refine blockExit_ne (by decide) ?_ | refine blockExit_normal ?_ | refine blockExit_ret ?_ | refine blockExit_goto ?_)); first | (change Trip _ _ _ _ _) | dsimp only | skip)) | fail)
  -- p, q
  refine OpsL.call2 (by subst_vars; decide) (by (first | (simp only [ASt.ev, tmPut, ↓reduceIte, reduceIte, Nat.reduceEqDiff, plain1, *]; done) | fail)) (by (first | (simp only [ASt.ev, tmPut, ↓reduceIte, reduceIte, Nat.reduceEqDiff, plain1, *]; rfl) | fail)) entersLPairs (lpairsC W0 (most := 12) hn' (by omega)).ok ?_
  rintro vP nx3 H3 ⟨⟨oP, wP, x3, fP⟩, k3⟩
  have lP : (pairsF ns 12).length ≤ 12 := by unfold pairsF; rw [List.length_map, List.length_take]; omega
  obtain ⟨lp, hlp⟩ : ∃ l, l = pairsF ns 12 := ⟨_, rfl⟩
  rw [← hlp] at wP lP
  have kP : Keep (lp = pairsF ns 12) := hlp
  clear hlp
  replace hm' := hm'.ext x3 k1
  repeat (first | (refine OpsL.p (by subst_vars; decide) (by (first | (exact aop_move (by (first | (simp only [ASt.ev, tmPut, ↓reduceIte, reduceIte, Nat.reduceEqDiff, plain1, *]; rfl) | fail))) | fail)) ?_) | fail)
  refine OpsL.call2 (by subst_vars; decide) (by (first | (simp only [ASt.ev, tmPut, ↓reduceIte, reduceIte, Nat.reduceEqDiff, plain1, *]; done) | fail)) (by (first | (simp only [ASt.ev, tmPut, ↓reduceIte, reduceIte, Nat.reduceEqDiff, plain1, *]; rfl) | fail)) entersLPairs (lpairsC W0 (most := 12) hm' (by omega)).ok ?_
  rintro vQ nx4 H4 ⟨⟨oQ, wQ, x4, fQ⟩, k4⟩
  have lQ : (pairsF ms 12).length ≤ 12 := by unfold pairsF; rw [List.length_map, List.length_take]; omega
  generalize pairsF ms 12 = lq at *
  have x04 := (x1.trans x3).trans x4
  replace tA := (tA.ext x3 (fun i hi => (sA i hi).2)).ext x4 (fun i hi => Nat.lt_of_lt_of_le (sA i hi).2 x3.1)
  replace wP := wP.ext x4 (fun b t e => (fP b t e).2)
  have bP : ∀ a n c, vP = .slice (some a) n c → nx0 ≤ a.block ∧ a.block < nx4 ∧ ¬ SA a.block := own_blk (Q := fun i => nx0 ≤ i ∧ i < nx4 ∧ ¬ SA i) wP (fun b t e => ⟨by have := (fP b t e).1; have := x1.1; omega, by have := (fP b t e).2; have := x4.1; omega, fun h => by have := (sA b h).2; have := (fP b t e).1; omega⟩)
  have bQ : ∀ a n c, vQ = .slice (some a) n c → nx3 ≤ a.block ∧ a.block < nx4 ∧ ¬ SA a.block := own_blk (Q := fun i => nx3 ≤ i ∧ i < nx4 ∧ ¬ SA i) wQ (fun b t e => ⟨(fQ b t e).1, (fQ b t e).2, fun h => by have := (sA b h).2; have := (fQ b t e).1; have := x3.1; omega⟩)
  have bP3 : ∀ a n c, vP = .slice (some a) n c → a.block < nx3 := own_blk (Q := fun i => i < nx3) wP (fun b t e => (fP b t e).2)
  have sA4 : ∀ i, SA i → i < nx4 := fun i hi => by have := (sA i hi).2; have := x3.1; have := x4.1; omega
  have pQ := wQ.at encP_len
  have pP := wP.at encP_len
  have wrP := wr_own wP
  clear wQ fQ fP wP k1 k3 x3 x4 hn' hm' x1
  repeat (first | (refine OpsL.p (by subst_vars; decide) (by (first | (exact aop_move (by (first | (simp only [ASt.ev, tmPut, ↓reduceIte, reduceIte, Nat.reduceEqDiff, plain1, *]; rfl) | fail))) | (exact aop_assign (by (first | (simp only [ASt.ev, tmPut, ↓reduceIte, reduceIte, Nat.reduceEqDiff, plain1, *]; rfl) | fail))) | fail)) ?_) | (refine Trip.seq ?_) | (refine Trip.ops ?_) | (refine OpsL.nil ?_; ((repeat (first | refine blockExit_eq ?_ | refine blockExit_ne (by decide) ?_ | refine blockExit_normal ?_ | refine blockExit_ret ?_ | refine blockExit_goto ?_)); first | (change Trip _ _ _ _ _) | dsimp only | skip)) | fail)
  refine OpsL.call2 (by subst_vars; decide) (by (first | (simp only [ASt.ev, tmPut, ↓reduceIte, reduceIte, Nat.reduceEqDiff, plain1, *]; done) | fail)) (by (first | (simp only [ASt.ev, tmPut, ↓reduceIte, reduceIte, Nat.reduceEqDiff, plain1, *]; done) | fail)) entersPut (putC W0 tA sA4 pP (by omega) (by simp)).ok ?_
  rintro v5 nx5 H5 ⟨⟨n5, r5, y5, w5, R5, S5, rfl, s5, m5, hr5, t5, f5, g5, o5⟩, k5⟩
  obtain ⟨rfl, rfl, rfl⟩ : R5 = [r5] ∧ y5 = 0 ∧ w5 = true := by
    rcases o5 with ⟨_, _, k, _, h⟩ | ⟨h1, _, h2, h3⟩
    · simp at h
    · exact ⟨h3, h2, h1⟩
  have pP5 := PairsAt.same (H' := H5) pP fun a n c e => g5 _ (bP a n c e).2.1 (bP a n c e).2.2
  have wrP5 := Wr.same (H' := H5) wrP fun a n c e => g5 _ (bP a n c e).2.1 (bP a n c e).2.2
  have pQ5 := PairsAt.same (H' := H5) pQ fun a n c e => g5 _ (bQ a n c e).2.1 (bQ a n c e).2.2
  have s5' : ∀ i, S5 i → nx0 ≤ i ∧ i < nx5 := fun i hi => by
    rcases f5 i hi with h | ⟨h1, h2⟩
    · exact ⟨(sA i h).1, by have := sA4 i h; omega⟩
    · exact ⟨by have := x04.1; omega, h2⟩
  have dP5 : ∀ a n c, vP = .slice (some a) n c → ¬ S5 a.block := fun a n c e h => by
    rcases f5 _ h with h | ⟨h, _⟩
    · exact (bP a n c e).2.2 h
    · have := (bP a n c e).2.1; omega
  have dQ5 : ∀ a n c, vQ = .slice (some a) n c → ¬ S5 a.block := fun a n c e h => by
    rcases f5 _ h with h | ⟨h, _⟩
    · exact (bQ a n c e).2.2 h
    · have := (bQ a n c e).2.1; omega
  have x05 : Ext nx0 H0 nx5 H5 := ⟨by have := x04.1; omega, fun i hi => by rw [g5 i (by have := x04.1; omega) (fun h => by have := (sA i h).1; omega), x04.2 i hi]⟩
  clear tA sA f5 g5 o5 k4 pP pQ wrP sA4
  repeat (first | (refine OpsL.p (by subst_vars; decide) (by (first | (exact aop_move (by (first | (simp only [ASt.ev, tmPut, ↓reduceIte, reduceIte, Nat.reduceEqDiff, plain1, *]; rfl) | fail))) | (exact aop_assign (by (first | (simp only [ASt.ev, tmPut, ↓reduceIte, reduceIte, Nat.reduceEqDiff, plain1, *]; rfl) | fail))) | (exact aop_extract (by (first | (simp only [ASt.ev, tmPut, ↓reduceIte, reduceIte, Nat.reduceEqDiff, plain1, *]; rfl) | fail)) (by exact rfl)) | fail)) ?_) | (refine Trip.seq ?_) | (refine Trip.ops ?_) | (refine OpsL.nil ?_; ((repeat (first | refine blockExit_eq ?_ | refine blockExit_ne (by decide) ?_ | refine blockExit_normal ?_ | refine blockExit_ret ?_ | refine blockExit_goto ?_)); first | (change Trip _ _ _ _ _) | dsimp only | skip)) | fail)
  refine OpsL.call2 (by subst_vars; decide) (by (first | (simp only [ASt.ev, tmPut, ↓reduceIte, reduceIte, Nat.reduceEqDiff, plain1, *]; done) | fail)) (by (first | (simp only [ASt.ev, tmPut, ↓reduceIte, reduceIte, Nat.reduceEqDiff, plain1, *]; done) | fail)) entersPut (putC W0 t5 (fun i hi => (s5' i hi).2) pQ5 (by omega) (by simp)).ok ?_
  rintro v6 nx6 H6 ⟨⟨n6, r6, y6, w6, R6, S6, rfl, s6, m6, hr6, t6, f6, g6, o6⟩, k6⟩
  obtain ⟨j1, ⟨k2, hk2', j2⟩, j3', j4⟩ := two_put o6
  have hk2 : Keep (y6 = (k2 : Int)) := hk2'
  have j3 : Keep (w6 = !decide (r5 = r6)) := j3'
  clear hk2' j3'
  have pP6 := PairsAt.same (H' := H6) pP5 fun a n c e => g6 _ (by have := (bP a n c e).2.1; omega) (dP5 a n c e)
  have wP6 := Wr.same (H' := H6) wrP5 fun a n c e => g6 _ (by have := (bP a n c e).2.1; omega) (dP5 a n c e)
  have pQ6 := PairsAt.same (H' := H6) pQ5 fun a n c e => g6 _ (by have := (bQ a n c e).2.1; omega) (dQ5 a n c e)
  have s6' : ∀ i, S6 i → nx0 ≤ i ∧ i < nx6 := fun i hi => by
    rcases f6 i hi with h | ⟨h1, h2⟩
    · exact ⟨(s5' i h).1, by have := (s5' i h).2; omega⟩
    · exact ⟨by have := x05.1; omega, h2⟩
  have dP6 : ∀ a n c, vP = .slice (some a) n c → ¬ S6 a.block := fun a n c e h => by
    rcases f6 _ h with h | ⟨h, _⟩
    · exact dP5 a n c e h
    · have := (bP a n c e).2.1; omega
  have x06 : Ext nx0 H0 nx6 H6 := ⟨by have := x05.1; omega, fun i hi => by rw [g6 i (by have := x05.1; omega) (fun h => by have := (s5' i h).1; omega), x05.2 i hi]⟩
  have hRl : ∀ r ∈ R6, r.length ≤ 100000 := fun r h => by
    rcases o6 with ⟨_, h1, _⟩ | ⟨_, _, _, h1⟩
    · rw [h1, List.mem_singleton] at h; rw [h]; omega
    · rw [h1] at h
      rcases List.mem_append.1 h with h | h
      · rw [List.mem_singleton] at h; rw [h]; omega
      · rw [List.mem_singleton] at h; rw [h]; omega
  have hx6 : nx0 ≤ nx6 := x06.1
  clear t5 s5' f6 g6 o6 k5 pP5 pQ5 wrP5 dP5 dQ5 x04 x05
  repeat (first | (refine OpsL.p (by subst_vars; decide) (by (first | (exact aop_move (by (first | (simp only [ASt.ev, tmPut, ↓reduceIte, reduceIte, Nat.reduceEqDiff, plain1, *]; rfl) | fail))) | (exact aop_assign (by (first | (simp only [ASt.ev, tmPut, ↓reduceIte, reduceIte, Nat.reduceEqDiff, plain1, *]; rfl) | fail))) | (exact aop_extract (by (first | (simp only [ASt.ev, tmPut, ↓reduceIte, reduceIte, Nat.reduceEqDiff, plain1, *]; rfl) | fail)) (by exact rfl)) | fail)) ?_) | (refine Trip.seq ?_) | (refine Trip.ops ?_) | (refine Trip.block ?_) | (refine OpsL.nil ?_; ((repeat (first | refine blockExit_eq ?_ | refine blockExit_ne (by decide) ?_ | refine blockExit_normal ?_ | refine blockExit_ret ?_ | refine blockExit_goto ?_)); first | (change Trip _ _ _ _ _) | dsimp only | skip)) | fail)
  -- p is changed
  refine Trip.mono (Q := fun e st => e = .exit 0 ∧ ∃ (tm : Nat → Value) (H' : Heap), st = ⟨tm, n, H', nx6⟩ ∧ (∀ id o, H' id = some o → id < nx6) ∧ (∀ b', (∀ a n c, vP = .slice (some a) n c → b' ≠ a.block) → H' b' = H6 b') ∧ tm 0 = .slice na ns.length nc ∧ tm 2 = .int .i64 by' ∧ tm 7 = tabV nx0 ∧ tm 9 = vQ ∧ tm 10 = .int .i64 0 ∧ tm 12 = .int .i64 y6 ∧ tm 13 = .bool w6) ?_ ?_
  · refine Trip.inv (fun (i : Nat) st => ∃ (tm : Nat → Value) (H' : Heap), st = ⟨tm, n, H', nx6⟩ ∧ (∀ id o, H' id = some o → id < nx6) ∧ Wr H' vP lp.length ∧ (∀ b', (∀ a n c, vP = .slice (some a) n c → b' ≠ a.block) → H' b' = H6 b') ∧ tm 0 = .slice na ns.length nc ∧ tm 2 = .int .i64 by' ∧ tm 7 = tabV nx0 ∧ tm 9 = vQ ∧ tm 10 = .int .i64 0 ∧ tm 12 = .int .i64 y6 ∧ tm 13 = .bool w6 ∧ tm 8 = vP ∧ tm 14 = .int .i64 i ∧ i ≤ lp.length) (fun i => lp.length - i) 0 ?_ ?_
    · exact ⟨_, _, rfl, k6, wP6, fun _ _ => rfl, by simp [tmPut, *], by simp [tmPut, *], by simp [tmPut, *], by simp [tmPut, *], by simp [tmPut, *], by simp [tmPut, *], by simp [tmPut, *], by simp [tmPut, *], by simp [tmPut, *], Nat.zero_le _⟩
    · clear e0 e1 e2
      rintro i st ⟨tm, H', rfl, hok', hwr, hfr, e0, e2, e7, e9, e10, e12, e13, eV, eI, hi⟩
      by_cases hlt : i < lp.length
      · rcases hwr with h0 | ⟨b, sp, cs, e, q, c, hv, hH, hl, hints⟩
        · omega
        · rw [hv] at eV
          obtain ⟨z, hz⟩ := hints (i * 2 + 0) (by omega)
          have hj : i * 2 + 0 < cs.length := by omega
          have hcell : cellAt H' ⟨b, 0 + (i : Int).toNat * 2 + 0, sp⟩ (.int .i64 z) := by
            have := cellAt_own (off := i * 2 + 0) hH hj
            rw [show cs[i * 2 + 0] = .int .i64 z from by rw [List.getElem?_eq_getElem hj] at hz; exact Option.some.inj hz] at this
            rw [show 0 + (i : Int).toNat * 2 + 0 = i * 2 + 0 by omega]
            exact this
          repeat (first | (refine OpsL.p (by subst_vars; decide) (by (first | (exact aop_move (by (first | (simp only [ASt.ev, tmPut, ↓reduceIte, reduceIte, Nat.reduceEqDiff, plain1, *]; rfl) | fail))) | (exact aop_len (by (first | (simp only [ASt.ev, tmPut, ↓reduceIte, reduceIte, Nat.reduceEqDiff, plain1, *]; rfl) | fail)) (by exact rfl)) | fail)) ?_) | (refine Trip.seq ?_) | (refine Trip.ops ?_) | fail)
          refine OpsL.p (by subst_vars; decide) (aop_lssT (by (first | (simp only [ASt.ev, tmPut, ↓reduceIte, reduceIte, Nat.reduceEqDiff, plain1, *]; rfl) | fail)) (by (first | (simp only [ASt.ev, tmPut, ↓reduceIte, reduceIte, Nat.reduceEqDiff, plain1, *]; rfl) | fail)) (by omega)) ?_
          repeat (first | (refine OpsL.nil ?_; ((repeat (first | refine blockExit_eq ?_ | refine blockExit_ne (by decide) ?_ | refine blockExit_normal ?_ | refine blockExit_ret ?_ | refine blockExit_goto ?_)); first | (change Trip _ _ _ _ _) | dsimp only | skip)) | fail)
          refine Trip.iteB (b := true) (by (first | (simp only [ASt.ev, tmPut, ↓reduceIte, reduceIte, Nat.reduceEqDiff, decide_true, decide_false, not_true_eq_false, not_false_eq_true, Bool.not_true, Bool.not_false, *]; done) | fail)) (fun _ => ?_) (fun h => absurd h (by decide))
          repeat (first | (refine OpsL.p (by subst_vars; decide) (by (first | (exact aop_move (by (first | (simp only [ASt.ev, tmPut, ↓reduceIte, reduceIte, Nat.reduceEqDiff, plain1, *]; rfl) | fail))) | (exact aop_indexAddr (by (first | (simp only [ASt.ev, tmPut, ↓reduceIte, reduceIte, Nat.reduceEqDiff, plain1, *]; rfl) | fail)) (by (first | (simp only [ASt.ev, tmPut, ↓reduceIte, reduceIte, Nat.reduceEqDiff, plain1, *]; rfl) | fail)) (by exact rfl) (by exact rfl) (by omega) (by omega)) | (exact aop_fieldAddr (by (first | (simp only [ASt.ev, tmPut, ↓reduceIte, reduceIte, Nat.reduceEqDiff, plain1, *]; rfl) | fail)) (by exact rfl)) | (exact aop_load (by (first | (simp only [ASt.ev, tmPut, ↓reduceIte, reduceIte, Nat.reduceEqDiff, plain1, *]; rfl) | fail)) (by exact rfl) rfl (by assumption)) | fail)) ?_) | (refine Trip.seq ?_) | (refine Trip.ops ?_) | (refine Trip.block ?_) | (refine Trip.skip ?_; ((repeat (first | refine blockExit_eq ?_ | refine blockExit_ne (by decide) ?_ | refine blockExit_normal ?_ | refine blockExit_ret ?_ | refine blockExit_goto ?_)); first | (change Trip _ _ _ _ _) | dsimp only | skip)) | fail)
          refine OpsL.p (by subst_vars; decide) (aop_addW (by (first | (simp only [ASt.ev, tmPut, ↓reduceIte, reduceIte, Nat.reduceEqDiff, plain1, *]; rfl) | fail)) (by (first | (simp only [ASt.ev, tmPut, ↓reduceIte, reduceIte, Nat.reduceEqDiff, plain1, *]; rfl) | fail))) ?_
          repeat (first | (refine OpsL.p (by subst_vars; decide) (by (first | (exact aop_indexAddr (by (first | (simp only [ASt.ev, tmPut, ↓reduceIte, reduceIte, Nat.reduceEqDiff, plain1, *]; rfl) | fail)) (by (first | (simp only [ASt.ev, tmPut, ↓reduceIte, reduceIte, Nat.reduceEqDiff, plain1, *]; rfl) | fail)) (by exact rfl) (by exact rfl) (by omega) (by omega)) | (exact aop_fieldAddr (by (first | (simp only [ASt.ev, tmPut, ↓reduceIte, reduceIte, Nat.reduceEqDiff, plain1, *]; rfl) | fail)) (by exact rfl)) | fail)) ?_) | fail)
          refine OpsL.storeAt (cs := cs) (cs' := cs.set (i * 2 + 0) (.int .i64 (IntKind.i64.wrap (z + by')))) (e := e) (q := q) (i * 2 + 0) (by (first | (simp only [ASt.ev, tmPut, ↓reduceIte, reduceIte, Nat.reduceEqDiff, plain1, *]; rfl) | fail)) (by (first | (simp only [ASt.ev, tmPut, ↓reduceIte, reduceIte, Nat.reduceEqDiff, plain1, *]; done) | fail)) (by exact rfl) rfl rfl (by exact hH) (by show 0 + (i : Int).toNat * 2 + 0 = i * 2 + 0; omega) hj rfl ?_
          repeat (first | (refine OpsL.p (by subst_vars; decide) (by (first | (exact aop_move (by (first | (simp only [ASt.ev, tmPut, ↓reduceIte, reduceIte, Nat.reduceEqDiff, plain1, *]; rfl) | fail))) | (exact aop_assign (by (first | (simp only [ASt.ev, tmPut, ↓reduceIte, reduceIte, Nat.reduceEqDiff, plain1, *]; rfl) | fail))) | (exact aop_add (by (first | (simp only [ASt.ev, tmPut, ↓reduceIte, reduceIte, Nat.reduceEqDiff, plain1, *]; rfl) | fail)) (by (first | (simp only [ASt.ev, tmPut, ↓reduceIte, reduceIte, Nat.reduceEqDiff, plain1, *]; rfl) | fail)) (by omega)) | fail)) ?_) | (refine Trip.ops ?_) | (refine OpsL.nil ?_; ((repeat (first | refine blockExit_eq ?_ | refine blockExit_ne (by decide) ?_ | refine blockExit_normal ?_ | refine blockExit_ret ?_ | refine blockExit_goto ?_)); first | (change Trip _ _ _ _ _) | dsimp only | skip)) | fail)
          refine ⟨i + 1, ⟨_, _, rfl, fun id o ho => ?_, .inr ⟨b, sp, _, e, q, c, hv, Heap.put_eq, by rw [List.length_set]; exact hl, fun j hj' => ?_⟩, fun b' hb' => ?_, by simp [tmPut, *], by simp [tmPut, *], by simp [tmPut, *], by simp [tmPut, *], by simp [tmPut, *], by simp [tmPut, *], by simp [tmPut, *], by simp [tmPut, *], by simp [tmPut, *], by omega⟩, by omega⟩
          · by_cases hid : id = b
            · subst hid; exact hok' _ _ hH
            · replace ho : Heap.put H' b _ id = some o := ho
              rw [Heap.put_ne hid] at ho
              exact hok' id o ho
          · by_cases hjj : j = i * 2 + 0
            · subst hjj
              exact ⟨_, List.getElem?_set_self hj⟩
            · rw [List.getElem?_set_ne (Ne.symm hjj)]
              exact hints j hj'
          · show Heap.put H' b _ b' = _
            rw [Heap.put_ne (hb' _ _ _ hv)]
            exact hfr b' hb'
      · obtain ⟨va, vc, hva⟩ := pP6.slice
        rw [hva] at eV
        repeat (first | (refine OpsL.p (by subst_vars; decide) (by (first | (exact aop_move (by (first | (simp only [ASt.ev, tmPut, ↓reduceIte, reduceIte, Nat.reduceEqDiff, plain1, *]; rfl) | fail))) | (exact aop_len (by (first | (simp only [ASt.ev, tmPut, ↓reduceIte, reduceIte, Nat.reduceEqDiff, plain1, *]; rfl) | fail)) (by exact rfl)) | fail)) ?_) | (refine Trip.seq ?_) | (refine Trip.ops ?_) | fail)
        refine OpsL.p (by subst_vars; decide) (aop_lssF (by (first | (simp only [ASt.ev, tmPut, ↓reduceIte, reduceIte, Nat.reduceEqDiff, plain1, *]; rfl) | fail)) (by (first | (simp only [ASt.ev, tmPut, ↓reduceIte, reduceIte, Nat.reduceEqDiff, plain1, *]; rfl) | fail)) (by omega)) ?_
        repeat (first | (refine OpsL.nil ?_; ((repeat (first | refine blockExit_eq ?_ | refine blockExit_ne (by decide) ?_ | refine blockExit_normal ?_ | refine blockExit_ret ?_ | refine blockExit_goto ?_)); first | (change Trip _ _ _ _ _) | dsimp only | skip)) | fail)
        refine Trip.iteB (b := false) (by (first | (simp only [ASt.ev, tmPut, ↓reduceIte, reduceIte, Nat.reduceEqDiff, decide_true, decide_false, not_true_eq_false, not_false_eq_true, Bool.not_true, Bool.not_false, *]; done) | fail)) (fun h => absurd h (by decide)) (fun _ => ?_)
        repeat (first | (refine Trip.exit ?_; ((repeat (first | refine blockExit_eq ?_ | refine blockExit_ne (by decide) ?_ | refine blockExit_normal ?_ | refine blockExit_ret ?_ | refine blockExit_goto ?_)); first | (change Trip _ _ _ _ _) | dsimp only | skip)) | fail)
        exact ⟨rfl, _, _, rfl, hok', hfr, by simp [tmPut, *], by simp [tmPut, *], by simp [tmPut, *], by simp [tmPut, *], by simp [tmPut, *], by simp [tmPut, *], by simp [tmPut, *]⟩
  · rintro e st ⟨rfl, tm, H7, rfl, k7, g7, e0, e2, e7, e9, e10, e12, e13⟩
    ((repeat (first | refine blockExit_eq ?_ | refine blockExit_ne (by decide) ?_ | refine blockExit_normal ?_ | refine blockExit_ret ?_ | refine blockExit_goto ?_)); first | (change Trip _ _ _ _ _) | dsimp only | skip)
    have t7 := t6.same (H' := H7) fun i hi => g7 i fun a n c e h => dP6 a n c e (h ▸ hi)
    have pQ7 := PairsAt.same (H' := H7) pQ6 fun a n c e => g7 _ fun a' n' c' e' h => by have := (bQ a n c e).1; have := bP3 a' n' c' e'; omega
    have x07 : Ext nx0 H0 nx6 H7 := ⟨x06.1, fun i hi => by rw [g7 i (fun a n c e h => by have := (bP a n c e).1; omega), x06.2 i hi]⟩
    clear t6 pQ6 pP6 wP6 x06 k6 g7 dP6 bP bP3 e1
    repeat (first | (refine OpsL.p (by subst_vars; decide) (by (first | (exact aop_move (by (first | (simp only [ASt.ev, tmPut, ↓reduceIte, reduceIte, Nat.reduceEqDiff, plain1, *]; rfl) | fail))) | fail)) ?_) | (refine Trip.seq ?_) | (refine Trip.ops ?_) | fail)
    refine OpsL.call2 (by subst_vars; decide) (by (first | (simp only [ASt.ev, tmPut, ↓reduceIte, reduceIte, Nat.reduceEqDiff, plain1, *]; done) | fail)) (by (first | (simp only [ASt.ev, tmPut, ↓reduceIte, reduceIte, Nat.reduceEqDiff, plain1, *]; done) | fail)) entersRow (rowO W0 0 t7 hRl).ok ?_
    rintro v8 nx8 H8 ⟨⟨l8, ⟨⟨x8, p8, b8⟩, wr8⟩, o8⟩, k8⟩
    obtain rfl : r5 = l8 := by
      rcases o8 with ⟨_, h⟩ | ⟨h, _⟩
      · exact Option.some.inj (j1.symm.trans h)
      · exact absurd ⟨Int.le_refl 0, by have := (List.getElem?_eq_some_iff.1 j1).1; omega⟩ h
    clear o8
    have t8 := t7.ext x8 (fun i hi => (s6' i hi).2)
    have pQ8 := RowsAt.ext x8 k7 pQ7
    have x08 := x07.trans x8
    clear t7 pQ7 x07 k7
    repeat (first | (refine OpsL.p (by subst_vars; decide) (by (first | (exact aop_assign (by (first | (simp only [ASt.ev, tmPut, ↓reduceIte, reduceIte, Nat.reduceEqDiff, plain1, *]; rfl) | fail))) | fail)) ?_) | (refine Trip.seq ?_) | (refine Trip.ops ?_) | (refine Trip.block ?_) | (refine OpsL.nil ?_; ((repeat (first | refine blockExit_eq ?_ | refine blockExit_ne (by decide) ?_ | refine blockExit_normal ?_ | refine blockExit_ret ?_ | refine blockExit_goto ?_)); first | (change Trip _ _ _ _ _) | dsimp only | skip)) | fail)
    -- and what was told
    refine Trip.mono (Q := fun e st => e = .exit 2 ∧ ∃ (tm : Nat → Value) (H' : Heap), st = ⟨tm, n, H', nx8⟩ ∧ (∀ id o, H' id = some o → id < nx8) ∧ (∀ b', (∀ a n c, v8 = .slice (some a) n c → b' ≠ a.block) → H' b' = H8 b') ∧ tm 0 = .slice na ns.length nc ∧ tm 2 = .int .i64 by' ∧ tm 7 = tabV nx0 ∧ tm 9 = vQ ∧ tm 10 = .int .i64 0 ∧ tm 12 = .int .i64 y6 ∧ tm 13 = .bool w6) ?_ ?_
    · refine Trip.inv (fun (i : Nat) st => ∃ (tm : Nat → Value) (H' : Heap), st = ⟨tm, n, H', nx8⟩ ∧ (∀ id o, H' id = some o → id < nx8) ∧ Wr H' v8 r5.length ∧ (∀ b', (∀ a n c, v8 = .slice (some a) n c → b' ≠ a.block) → H' b' = H8 b') ∧ tm 0 = .slice na ns.length nc ∧ tm 2 = .int .i64 by' ∧ tm 7 = tabV nx0 ∧ tm 9 = vQ ∧ tm 10 = .int .i64 0 ∧ tm 12 = .int .i64 y6 ∧ tm 13 = .bool w6 ∧ tm 15 = v8 ∧ tm 16 = .int .i64 i ∧ i ≤ r5.length) (fun i => r5.length - i) 0 ?_ ?_
      · exact ⟨_, _, rfl, k8, wr8, fun _ _ => rfl, by simp [tmPut, *], by simp [tmPut, *], by simp [tmPut, *], by simp [tmPut, *], by simp [tmPut, *], by simp [tmPut, *], by simp [tmPut, *], by simp [tmPut, *], by simp [tmPut, *], Nat.zero_le _⟩
      · clear e0 e2 e7 e9 e10 e12 e13
        rintro i st ⟨tm, H', rfl, hok', hwr, hfr, e0, e2, e7, e9, e10, e12, e13, eV, eI, hi⟩
        by_cases hlt : i < r5.length
        · rcases hwr with h0 | ⟨b, sp, cs, e, q, c, hv, hH, hl, hints⟩
          · omega
          · rw [hv] at eV
            obtain ⟨z, hz⟩ := hints (i * 2 + 1) (by omega)
            have hj : i * 2 + 1 < cs.length := by omega
            have hcell : cellAt H' ⟨b, 0 + (i : Int).toNat * 2 + 1, sp⟩ (.int .i64 z) := by
              have := cellAt_own (off := i * 2 + 1) hH hj
              rw [show cs[i * 2 + 1] = .int .i64 z from by rw [List.getElem?_eq_getElem hj] at hz; exact Option.some.inj hz] at this
              rw [show 0 + (i : Int).toNat * 2 + 1 = i * 2 + 1 by omega]
              exact this
            repeat (first | (refine OpsL.p (by subst_vars; decide) (by (first | (exact aop_move (by (first | (simp only [ASt.ev, tmPut, ↓reduceIte, reduceIte, Nat.reduceEqDiff, plain1, *]; rfl) | fail))) | (exact aop_len (by (first | (simp only [ASt.ev, tmPut, ↓reduceIte, reduceIte, Nat.reduceEqDiff, plain1, *]; rfl) | fail)) (by exact rfl)) | fail)) ?_) | (refine Trip.seq ?_) | (refine Trip.ops ?_) | fail)
            refine OpsL.p (by subst_vars; decide) (aop_lssT (by (first | (simp only [ASt.ev, tmPut, ↓reduceIte, reduceIte, Nat.reduceEqDiff, plain1, *]; rfl) | fail)) (by (first | (simp only [ASt.ev, tmPut, ↓reduceIte, reduceIte, Nat.reduceEqDiff, plain1, *]; rfl) | fail)) (by omega)) ?_
            repeat (first | (refine OpsL.nil ?_; ((repeat (first | refine blockExit_eq ?_ | refine blockExit_ne (by decide) ?_ | refine blockExit_normal ?_ | refine blockExit_ret ?_ | refine blockExit_goto ?_)); first | (change Trip _ _ _ _ _) | dsimp only | skip)) | fail)
            refine Trip.iteB (b := true) (by (first | (simp only [ASt.ev, tmPut, ↓reduceIte, reduceIte, Nat.reduceEqDiff, decide_true, decide_false, not_true_eq_false, not_false_eq_true, Bool.not_true, Bool.not_false, *]; done) | fail)) (fun _ => ?_) (fun h => absurd h (by decide))
            repeat (first | (refine OpsL.p (by subst_vars; decide) (by (first | (exact aop_move (by (first | (simp only [ASt.ev, tmPut, ↓reduceIte, reduceIte, Nat.reduceEqDiff, plain1, *]; rfl) | fail))) | (exact aop_indexAddr (by (first | (simp only [ASt.ev, tmPut, ↓reduceIte, reduceIte, Nat.reduceEqDiff, plain1, *]; rfl) | fail)) (by (first | (simp only [ASt.ev, tmPut, ↓reduceIte, reduceIte, Nat.reduceEqDiff, plain1, *]; rfl) | fail)) (by exact rfl) (by exact rfl) (by omega) (by omega)) | (exact aop_fieldAddr (by (first | (simp only [ASt.ev, tmPut, ↓reduceIte, reduceIte, Nat.reduceEqDiff, plain1, *]; rfl) | fail)) (by exact rfl)) | (exact aop_load (by (first | (simp only [ASt.ev, tmPut, ↓reduceIte, reduceIte, Nat.reduceEqDiff, plain1, *]; rfl) | fail)) (by exact rfl) rfl (by assumption)) | fail)) ?_) | (refine Trip.seq ?_) | (refine Trip.ops ?_) | (refine Trip.block ?_) | (refine Trip.skip ?_; ((repeat (first | refine blockExit_eq ?_ | refine blockExit_ne (by decide) ?_ | refine blockExit_normal ?_ | refine blockExit_ret ?_ | refine blockExit_goto ?_)); first | (change Trip _ _ _ _ _) | dsimp only | skip)) | fail)
            refine OpsL.p (by subst_vars; decide) (aop_addW (by (first | (simp only [ASt.ev, tmPut, ↓reduceIte, reduceIte, Nat.reduceEqDiff, plain1, *]; rfl) | fail)) (by (first | (simp only [ASt.ev, tmPut, ↓reduceIte, reduceIte, Nat.reduceEqDiff, plain1, *]; rfl) | fail))) ?_
            repeat (first | (refine OpsL.p (by subst_vars; decide) (by (first | (exact aop_indexAddr (by (first | (simp only [ASt.ev, tmPut, ↓reduceIte, reduceIte, Nat.reduceEqDiff, plain1, *]; rfl) | fail)) (by (first | (simp only [ASt.ev, tmPut, ↓reduceIte, reduceIte, Nat.reduceEqDiff, plain1, *]; rfl) | fail)) (by exact rfl) (by exact rfl) (by omega) (by omega)) | (exact aop_fieldAddr (by (first | (simp only [ASt.ev, tmPut, ↓reduceIte, reduceIte, Nat.reduceEqDiff, plain1, *]; rfl) | fail)) (by exact rfl)) | fail)) ?_) | fail)
            refine OpsL.storeAt (cs := cs) (cs' := cs.set (i * 2 + 1) (.int .i64 (IntKind.i64.wrap (z + by')))) (e := e) (q := q) (i * 2 + 1) (by (first | (simp only [ASt.ev, tmPut, ↓reduceIte, reduceIte, Nat.reduceEqDiff, plain1, *]; rfl) | fail)) (by (first | (simp only [ASt.ev, tmPut, ↓reduceIte, reduceIte, Nat.reduceEqDiff, plain1, *]; done) | fail)) (by exact rfl) rfl rfl (by exact hH) (by show 0 + (i : Int).toNat * 2 + 1 = i * 2 + 1; omega) hj rfl ?_
            repeat (first | (refine OpsL.p (by subst_vars; decide) (by (first | (exact aop_move (by (first | (simp only [ASt.ev, tmPut, ↓reduceIte, reduceIte, Nat.reduceEqDiff, plain1, *]; rfl) | fail))) | (exact aop_assign (by (first | (simp only [ASt.ev, tmPut, ↓reduceIte, reduceIte, Nat.reduceEqDiff, plain1, *]; rfl) | fail))) | (exact aop_add (by (first | (simp only [ASt.ev, tmPut, ↓reduceIte, reduceIte, Nat.reduceEqDiff, plain1, *]; rfl) | fail)) (by (first | (simp only [ASt.ev, tmPut, ↓reduceIte, reduceIte, Nat.reduceEqDiff, plain1, *]; rfl) | fail)) (by omega)) | fail)) ?_) | (refine Trip.ops ?_) | (refine OpsL.nil ?_; ((repeat (first | refine blockExit_eq ?_ | refine blockExit_ne (by decide) ?_ | refine blockExit_normal ?_ | refine blockExit_ret ?_ | refine blockExit_goto ?_)); first | (change Trip _ _ _ _ _) | dsimp only | skip)) | fail)
            refine ⟨i + 1, ⟨_, _, rfl, fun id o ho => ?_, .inr ⟨b, sp, _, e, q, c, hv, Heap.put_eq, by rw [List.length_set]; exact hl, fun j hj' => ?_⟩, fun b' hb' => ?_, by simp [tmPut, *], by simp [tmPut, *], by simp [tmPut, *], by simp [tmPut, *], by simp [tmPut, *], by simp [tmPut, *], by simp [tmPut, *], by simp [tmPut, *], by simp [tmPut, *], by omega⟩, by omega⟩
            · by_cases hid : id = b
              · subst hid; exact hok' _ _ hH
              · replace ho : Heap.put H' b _ id = some o := ho
                rw [Heap.put_ne hid] at ho
                exact hok' id o ho
            · by_cases hjj : j = i * 2 + 1
              · subst hjj
                exact ⟨_, List.getElem?_set_self hj⟩
              · rw [List.getElem?_set_ne (Ne.symm hjj)]
                exact hints j hj'
            · show Heap.put H' b _ b' = _
              rw [Heap.put_ne (hb' _ _ _ hv)]
              exact hfr b' hb'
        · obtain ⟨va, vc, hva⟩ := p8.slice
          rw [hva] at eV
          repeat (first | (refine OpsL.p (by subst_vars; decide) (by (first | (exact aop_move (by (first | (simp only [ASt.ev, tmPut, ↓reduceIte, reduceIte, Nat.reduceEqDiff, plain1, *]; rfl) | fail))) | (exact aop_len (by (first | (simp only [ASt.ev, tmPut, ↓reduceIte, reduceIte, Nat.reduceEqDiff, plain1, *]; rfl) | fail)) (by exact rfl)) | fail)) ?_) | (refine Trip.seq ?_) | (refine Trip.ops ?_) | fail)
          refine OpsL.p (by subst_vars; decide) (aop_lssF (by (first | (simp only [ASt.ev, tmPut, ↓reduceIte, reduceIte, Nat.reduceEqDiff, plain1, *]; rfl) | fail)) (by (first | (simp only [ASt.ev, tmPut, ↓reduceIte, reduceIte, Nat.reduceEqDiff, plain1, *]; rfl) | fail)) (by omega)) ?_
          repeat (first | (refine OpsL.nil ?_; ((repeat (first | refine blockExit_eq ?_ | refine blockExit_ne (by decide) ?_ | refine blockExit_normal ?_ | refine blockExit_ret ?_ | refine blockExit_goto ?_)); first | (change Trip _ _ _ _ _) | dsimp only | skip)) | fail)
          refine Trip.iteB (b := false) (by (first | (simp only [ASt.ev, tmPut, ↓reduceIte, reduceIte, Nat.reduceEqDiff, decide_true, decide_false, not_true_eq_false, not_false_eq_true, Bool.not_true, Bool.not_false, *]; done) | fail)) (fun h => absurd h (by decide)) (fun _ => ?_)
          repeat (first | (refine Trip.exit ?_; ((repeat (first | refine blockExit_eq ?_ | refine blockExit_ne (by decide) ?_ | refine blockExit_normal ?_ | refine blockExit_ret ?_ | refine blockExit_goto ?_)); first | (change Trip _ _ _ _ _) | dsimp only | skip)) | fail)
          exact ⟨rfl, _, _, rfl, hok', hfr, by simp [tmPut, *], by simp [tmPut, *], by simp [tmPut, *], by simp [tmPut, *], by simp [tmPut, *], by simp [tmPut, *], by simp [tmPut, *]⟩
    · clear e0 e2 e7 e9 e10 e12 e13
      rintro e st ⟨rfl, tm, H9, rfl, k9, g9, e0, e2, e7, e9, e10, e12, e13⟩
      ((repeat (first | refine blockExit_eq ?_ | refine blockExit_ne (by decide) ?_ | refine blockExit_normal ?_ | refine blockExit_ret ?_ | refine blockExit_goto ?_)); first | (change Trip _ _ _ _ _) | dsimp only | skip)
      have t9 := t8.same (H' := H9) fun i hi => g9 i fun a n c e h => by have := (s6' i hi).2; have := (b8 a n c e).1; omega
      have s9 : ∀ i, S6 i → i < nx8 := fun i hi => by have := (s6' i hi).2; have := x8.1; omega
      have pQ9 := PairsAt.same (H' := H9) pQ8 fun a n c e => g9 _ fun a' n' c' e' h => by have := (bQ a n c e).2.1; have := (b8 a' n' c' e').1; omega
      have x09 : Ext nx0 H0 nx8 H9 := ⟨x08.1, fun i hi => by rw [g9 i (fun a n c e h => by have := (b8 a n c e).1; have := hx6; omega), x08.2 i hi]⟩
      clear t8 pQ8 x08 g9 b8 wr8 p8 k8 s6' bQ
      have hn9 := hn.ext x09 hok
      repeat (first | (refine OpsL.p (by subst_vars; decide) (by (first | (exact aop_move (by (first | (simp only [ASt.ev, tmPut, ↓reduceIte, reduceIte, Nat.reduceEqDiff, plain1, *]; rfl) | fail))) | fail)) ?_) | (refine Trip.seq ?_) | (refine Trip.ops ?_) | fail)
      refine OpsL.call2 (by subst_vars; decide) (by (first | (simp only [ASt.ev, tmPut, ↓reduceIte, reduceIte, Nat.reduceEqDiff, plain1, *]; done) | fail)) (by (first | (simp only [ASt.ev, tmPut, ↓reduceIte, reduceIte, Nat.reduceEqDiff, plain1, *]; rfl) | fail)) entersLPairs (lpairsC W0 (most := 12) hn9 (by omega)).ok ?_
      rintro va nxa Ha ⟨⟨oa, wa, xa, -⟩, ka⟩
      unfold Keep at kP
      rw [← kP] at wa
      have tA := t9.ext xa s9
      have sA : ∀ i, S6 i → i < nxa := fun i hi => Nat.lt_of_lt_of_le (s9 i hi) xa.1
      repeat fail
      refine OpsL.call2 (by subst_vars; decide) (by (first | (simp only [ASt.ev, tmPut, ↓reduceIte, reduceIte, Nat.reduceEqDiff, plain1, *]; done) | fail)) (by (first | (simp only [ASt.ev, tmPut, ↓reduceIte, reduceIte, Nat.reduceEqDiff, plain1, *]; done) | fail)) entersFindP (findPC W0 tA sA (wa.at encP_len) (by omega)).ok ?_
      rintro vb nxb Hb ⟨⟨xb, rb, yb, wb, rfl, sb, mb, -, ob⟩, kb⟩
      obtain rfl : r5 = rb := strict_ext _ _ s5 sb fun z => by rw [m5, mb]
      obtain ⟨rfl, rfl⟩ : wb = true ∧ yb = 0 := by
        rcases ob with ⟨h1, k, h2, h3⟩ | ⟨_, _, h⟩
        · have := j4 k h3
          subst this
          exact ⟨h1, h2⟩
        · exact absurd (List.mem_of_getElem? j1) h
      clear ob
      have tB := tA.ext xb sA
      have sB : ∀ i, S6 i → i < nxb := fun i hi => Nat.lt_of_lt_of_le (sA i hi) xb.1
      have x0b := (x09.trans xa).trans xb
      have pQb := RowsAt.ext (xa.trans xb) k9 pQ9
      clear t9 tA s9 sA pQ9 x09 hn9 wa
      repeat (first | (refine OpsL.p (by subst_vars; decide) (by (first | (exact aop_move (by (first | (simp only [ASt.ev, tmPut, ↓reduceIte, reduceIte, Nat.reduceEqDiff, plain1, *]; rfl) | fail))) | (exact aop_assign (by (first | (simp only [ASt.ev, tmPut, ↓reduceIte, reduceIte, Nat.reduceEqDiff, plain1, *]; rfl) | fail))) | (exact aop_extract (by (first | (simp only [ASt.ev, tmPut, ↓reduceIte, reduceIte, Nat.reduceEqDiff, plain1, *]; rfl) | fail)) (by exact rfl)) | fail)) ?_) | (refine Trip.seq ?_) | (refine Trip.ops ?_) | (refine OpsL.nil ?_; ((repeat (first | refine blockExit_eq ?_ | refine blockExit_ne (by decide) ?_ | refine blockExit_normal ?_ | refine blockExit_ret ?_ | refine blockExit_goto ?_)); first | (change Trip _ _ _ _ _) | dsimp only | skip)) | (refine OpsL.unguard (by exact rfl) (by (first | (simp only [ASt.ev, tmPut, ↓reduceIte, reduceIte, Nat.reduceEqDiff, decide_true, decide_false, not_true_eq_false, not_false_eq_true, Bool.not_true, Bool.not_false, *]; rfl) | fail)) ?_) | fail)
      refine OpsL.p (by subst_vars; decide) (aop_eqlT (by (first | (simp only [ASt.ev, tmPut, ↓reduceIte, reduceIte, Nat.reduceEqDiff, plain1, *]; rfl) | fail)) (by (first | (simp only [ASt.ev, tmPut, ↓reduceIte, reduceIte, Nat.reduceEqDiff, plain1, *]; done) | fail)) rfl) ?_
      repeat (first | (refine OpsL.p (by subst_vars; decide) (by (first | (exact aop_move (by (first | (simp only [ASt.ev, tmPut, ↓reduceIte, reduceIte, Nat.reduceEqDiff, plain1, *]; rfl) | fail))) | (exact aop_pickT (by (first | (simp only [ASt.ev, tmPut, ↓reduceIte, reduceIte, Nat.reduceEqDiff, decide_true, decide_false, not_true_eq_false, not_false_eq_true, Bool.not_true, Bool.not_false, *]; done) | (simp only [ASt.ev, tmPut, ↓reduceIte, reduceIte, Nat.reduceEqDiff, decide_true, decide_false, not_true_eq_false, not_false_eq_true, Bool.not_true, Bool.not_false, *]; rfl))) (by (first | (simp only [ASt.ev, tmPut, ↓reduceIte, reduceIte, Nat.reduceEqDiff, plain1, *]; rfl) | fail))) | fail)) ?_) | (refine OpsL.unguard (by exact rfl) (by (first | (simp only [ASt.ev, tmPut, ↓reduceIte, reduceIte, Nat.reduceEqDiff, decide_true, decide_false, not_true_eq_false, not_false_eq_true, Bool.not_true, Bool.not_false, *]; done) | (simp only [ASt.ev, tmPut, ↓reduceIte, reduceIte, Nat.reduceEqDiff, decide_true, decide_false, not_true_eq_false, not_false_eq_true, Bool.not_true, Bool.not_false, *]; rfl))) ?_) | fail)
      -- the first row
      refine OpsL.call2 (by subst_vars; decide) (by (first | (simp only [ASt.ev, tmPut, ↓reduceIte, reduceIte, Nat.reduceEqDiff, plain1, *]; done) | fail)) (by (first | (simp only [ASt.ev, tmPut, ↓reduceIte, reduceIte, Nat.reduceEqDiff, plain1, *]; done) | fail)) entersRow (rowC W0 0 tB hRl).ok ?_
      rintro vc nxc Hc ⟨⟨lc, ⟨xc, pc, -⟩, oc⟩, kc⟩
      obtain rfl : r5 = lc := by
        rcases oc with ⟨_, h⟩ | ⟨h, _⟩
        · exact Option.some.inj (j1.symm.trans h)
        · exact absurd ⟨Int.le_refl 0, by have := (List.getElem?_eq_some_iff.1 j1).1; omega⟩ h
      clear oc
      have x0c := x0b.trans xc
      repeat (first | (refine OpsL.p (by subst_vars; decide) (by (first | (exact aop_move (by (first | (simp only [ASt.ev, tmPut, ↓reduceIte, reduceIte, Nat.reduceEqDiff, plain1, *]; rfl) | fail))) | fail)) ?_) | (refine OpsL.unguard (by exact rfl) (by (first | (simp only [ASt.ev, tmPut, ↓reduceIte, reduceIte, Nat.reduceEqDiff, decide_true, decide_false, not_true_eq_false, not_false_eq_true, Bool.not_true, Bool.not_false, *]; done) | fail)) ?_) | fail)
      refine OpsL.call2 (by subst_vars; decide) (by (first | (simp only [ASt.ev, tmPut, ↓reduceIte, reduceIte, Nat.reduceEqDiff, plain1, *]; done) | fail)) (by (first | (simp only [ASt.ev, tmPut, ↓reduceIte, reduceIte, Nat.reduceEqDiff, plain1, *]; rfl) | fail)) entersLPairs (lpairsC W0 (most := 12) (hn.ext x0c hok) (by omega)).ok ?_
      rintro vd nxd Hd ⟨⟨od, wd, xd, -⟩, kd⟩
      rw [← kP] at wd
      repeat (first | (refine OpsL.unguard (by exact rfl) (by (first | (simp only [ASt.ev, tmPut, ↓reduceIte, reduceIte, Nat.reduceEqDiff, decide_true, decide_false, not_true_eq_false, not_false_eq_true, Bool.not_true, Bool.not_false, *]; done) | fail)) ?_) | fail)
      refine OpsL.call1 (by subst_vars; decide) (by (first | (simp only [ASt.ev, tmPut, ↓reduceIte, reduceIte, Nat.reduceEqDiff, plain1, *]; done) | fail)) entersPairsR (rpairsC W0 (wd.at encP_len) (by omega)).ok ?_
      rintro ve nxe He ⟨⟨oe, re, se, me, le, we, xe, -⟩, ke⟩
      repeat (first | (refine OpsL.unguard (by exact rfl) (by (first | (simp only [ASt.ev, tmPut, ↓reduceIte, reduceIte, Nat.reduceEqDiff, decide_true, decide_false, not_true_eq_false, not_false_eq_true, Bool.not_true, Bool.not_false, *]; done) | fail)) ?_) | fail)
      refine OpsL.call2 (by subst_vars; decide) (by (first | (simp only [ASt.ev, tmPut, ↓reduceIte, reduceIte, Nat.reduceEqDiff, plain1, *]; done) | fail)) (by (first | (simp only [ASt.ev, tmPut, ↓reduceIte, reduceIte, Nat.reduceEqDiff, plain1, *]; done) | fail)) entersSameR (sameC W0 (RowsAt.ext xe kd (RowsAt.ext xd kc pc)) (we.at encP_len) (by omega) (by omega)) ?_
      rintro v nxe He ⟨rfl, h1, h2⟩
      subst h1; subst h2
      rw [decide_eq_true (strict_ext _ re s5 se fun z => by rw [m5, me])]
      have xbe := (xc.trans xd).trans xe
      have tE := tB.ext xbe sB
      have sE : ∀ i, S6 i → i < nxe := fun i hi => Nat.lt_of_lt_of_le (sB i hi) xbe.1
      have x0e := x0b.trans xbe
      have pQe := RowsAt.ext xbe kb pQb
      clear tB sB x0b pQb xc xd xe xbe we wd pc x0c kc kd kb
      repeat (first | (refine OpsL.p (by subst_vars; decide) (by (first | (exact aop_move (by (first | (simp only [ASt.ev, tmPut, ↓reduceIte, reduceIte, Nat.reduceEqDiff, plain1, *]; rfl) | fail))) | (exact aop_pickT (by (first | (simp only [ASt.ev, tmPut, ↓reduceIte, reduceIte, Nat.reduceEqDiff, decide_true, decide_false, not_true_eq_false, not_false_eq_true, Bool.not_true, Bool.not_false, *]; done) | fail)) (by (first | (simp only [ASt.ev, tmPut, ↓reduceIte, reduceIte, Nat.reduceEqDiff, plain1, *]; rfl) | fail))) | fail)) ?_) | (refine OpsL.unguard (by exact rfl) (by (first | (simp only [ASt.ev, tmPut, ↓reduceIte, reduceIte, Nat.reduceEqDiff, decide_true, decide_false, not_true_eq_false, not_false_eq_true, Bool.not_true, Bool.not_false, *]; done) | fail)) ?_) | fail)
      -- the second one
      refine OpsL.call2 (by subst_vars; decide) (by (first | (simp only [ASt.ev, tmPut, ↓reduceIte, reduceIte, Nat.reduceEqDiff, plain1, *]; done) | fail)) (by (first | (simp only [ASt.ev, tmPut, ↓reduceIte, reduceIte, Nat.reduceEqDiff, plain1, *]; done) | fail)) entersRow (rowC W0 y6 tE hRl).ok ?_
      rintro vc nxc Hc ⟨⟨lc, ⟨xc, pc, -⟩, oc⟩, kc⟩
      obtain rfl : r6 = lc := by
        unfold Keep at hk2
        subst hk2
        rcases oc with ⟨_, h⟩ | ⟨h, _⟩
        · rw [Int.toNat_natCast] at h
          exact Option.some.inj (j2.symm.trans h)
        · exact absurd ⟨by omega, by have := (List.getElem?_eq_some_iff.1 j2).1; omega⟩ h
      clear oc
      repeat (first | (refine OpsL.p (by subst_vars; decide) (by (first | (exact aop_move (by (first | (simp only [ASt.ev, tmPut, ↓reduceIte, reduceIte, Nat.reduceEqDiff, plain1, *]; rfl) | fail))) | fail)) ?_) | (refine OpsL.unguard (by exact rfl) (by (first | (simp only [ASt.ev, tmPut, ↓reduceIte, reduceIte, Nat.reduceEqDiff, decide_true, decide_false, not_true_eq_false, not_false_eq_true, Bool.not_true, Bool.not_false, *]; done) | fail)) ?_) | fail)
      refine OpsL.call1 (by subst_vars; decide) (by (first | (simp only [ASt.ev, tmPut, ↓reduceIte, reduceIte, Nat.reduceEqDiff, plain1, *]; done) | fail)) entersPairsR (rpairsC W0 (RowsAt.ext xc ke pQe) (by omega)).ok ?_
      rintro vf nxf Hf ⟨⟨of', rf, sf, mf, lf, wf, xf, -⟩, kf⟩
      repeat (first | (refine OpsL.unguard (by exact rfl) (by (first | (simp only [ASt.ev, tmPut, ↓reduceIte, reduceIte, Nat.reduceEqDiff, decide_true, decide_false, not_true_eq_false, not_false_eq_true, Bool.not_true, Bool.not_false, *]; done) | fail)) ?_) | fail)
      refine OpsL.call2 (by subst_vars; decide) (by (first | (simp only [ASt.ev, tmPut, ↓reduceIte, reduceIte, Nat.reduceEqDiff, plain1, *]; done) | fail)) (by (first | (simp only [ASt.ev, tmPut, ↓reduceIte, reduceIte, Nat.reduceEqDiff, plain1, *]; done) | fail)) entersSameR (sameC W0 (RowsAt.ext xf kc pc) (wf.at encP_len) (by omega) (by omega)) ?_
      rintro v nxf Hf ⟨rfl, h1, h2⟩
      subst h1; subst h2
      rw [decide_eq_true (strict_ext _ rf s6 sf fun z => by rw [m6, mf])]
      have x0f := (x0e.trans xc).trans xf
      have pQf := RowsAt.ext (xc.trans xf) ke pQe
      clear tE sE pc wf xc xf pQe x0e kc ke
      repeat (first | (refine OpsL.p (by subst_vars; decide) (by (first | (exact aop_move (by (first | (simp only [ASt.ev, tmPut, ↓reduceIte, reduceIte, Nat.reduceEqDiff, plain1, *]; rfl) | fail))) | (exact aop_pickT (by (first | (simp only [ASt.ev, tmPut, ↓reduceIte, reduceIte, Nat.reduceEqDiff, decide_true, decide_false, not_true_eq_false, not_false_eq_true, Bool.not_true, Bool.not_false, *]; done) | fail)) (by (first | (simp only [ASt.ev, tmPut, ↓reduceIte, reduceIte, Nat.reduceEqDiff, plain1, *]; rfl) | fail))) | fail)) ?_) | (refine OpsL.unguard (by exact rfl) (by (first | (simp only [ASt.ev, tmPut, ↓reduceIte, reduceIte, Nat.reduceEqDiff, decide_true, decide_false, not_true_eq_false, not_false_eq_true, Bool.not_true, Bool.not_false, *]; done) | fail)) ?_) | fail)
      -- whether it was new
      refine OpsL.call2 (by subst_vars; decide) (by (first | (simp only [ASt.ev, tmPut, ↓reduceIte, reduceIte, Nat.reduceEqDiff, plain1, *]; done) | fail)) (by (first | (simp only [ASt.ev, tmPut, ↓reduceIte, reduceIte, Nat.reduceEqDiff, plain1, *]; rfl) | fail)) entersLPairs (lpairsC W0 (most := 12) (hn.ext x0f hok) (by omega)).ok ?_
      rintro vd nxd Hd ⟨⟨od, wd, xd, -⟩, kd⟩
      rw [← kP] at wd
      repeat (first | (refine OpsL.unguard (by exact rfl) (by (first | (simp only [ASt.ev, tmPut, ↓reduceIte, reduceIte, Nat.reduceEqDiff, decide_true, decide_false, not_true_eq_false, not_false_eq_true, Bool.not_true, Bool.not_false, *]; done) | fail)) ?_) | fail)
      refine OpsL.call1 (by subst_vars; decide) (by (first | (simp only [ASt.ev, tmPut, ↓reduceIte, reduceIte, Nat.reduceEqDiff, plain1, *]; done) | fail)) entersPairsR (rpairsC W0 (wd.at encP_len) (by omega)).ok ?_
      rintro ve nxe He ⟨⟨oe, re2, se2, me2, le2, we, xe, -⟩, ke⟩
      repeat (first | (refine OpsL.p (by subst_vars; decide) (by (first | (exact aop_move (by (first | (simp only [ASt.ev, tmPut, ↓reduceIte, reduceIte, Nat.reduceEqDiff, plain1, *]; rfl) | fail))) | fail)) ?_) | (refine OpsL.unguard (by exact rfl) (by (first | (simp only [ASt.ev, tmPut, ↓reduceIte, reduceIte, Nat.reduceEqDiff, decide_true, decide_false, not_true_eq_false, not_false_eq_true, Bool.not_true, Bool.not_false, *]; done) | fail)) ?_) | fail)
      refine OpsL.call1 (by subst_vars; decide) (by (first | (simp only [ASt.ev, tmPut, ↓reduceIte, reduceIte, Nat.reduceEqDiff, plain1, *]; done) | fail)) entersPairsR (rpairsC W0 (RowsAt.ext xe kd (RowsAt.ext xd kf pQf)) (by omega)).ok ?_
      rintro vg nxg Hg ⟨⟨og, rg, sg, mg, lg, wg, xg, -⟩, kg⟩
      repeat (first | (refine OpsL.unguard (by exact rfl) (by (first | (simp only [ASt.ev, tmPut, ↓reduceIte, reduceIte, Nat.reduceEqDiff, decide_true, decide_false, not_true_eq_false, not_false_eq_true, Bool.not_true, Bool.not_false, *]; done) | fail)) ?_) | fail)
      refine OpsL.call2 (by subst_vars; decide) (by (first | (simp only [ASt.ev, tmPut, ↓reduceIte, reduceIte, Nat.reduceEqDiff, plain1, *]; done) | fail)) (by (first | (simp only [ASt.ev, tmPut, ↓reduceIte, reduceIte, Nat.reduceEqDiff, plain1, *]; done) | fail)) entersSameR (sameC W0 (RowsAt.ext xg ke (we.at encP_len)) (wg.at encP_len) (by omega) (by omega)) ?_
      rintro v nxg Hg ⟨rfl, h1, h2⟩
      subst h1; subst h2
      obtain rfl : r5 = re2 := strict_ext _ _ s5 se2 fun z => by rw [m5, me2]
      obtain rfl : r6 = rg := strict_ext _ _ s6 sg fun z => by rw [m6, mg]
      repeat (first | (refine OpsL.p (by subst_vars; decide) (by (first | (exact aop_not (by (first | (simp only [ASt.ev, tmPut, ↓reduceIte, reduceIte, Nat.reduceEqDiff, plain1, *]; rfl) | fail))) | fail)) ?_) | (refine OpsL.unguard (by exact rfl) (by (first | (simp only [ASt.ev, tmPut, ↓reduceIte, reduceIte, Nat.reduceEqDiff, decide_true, decide_false, not_true_eq_false, not_false_eq_true, Bool.not_true, Bool.not_false, *]; done) | fail)) ?_) | fail)
      refine OpsL.p (by subst_vars; decide) (aop_eqlBr (r := true) (by (first | (simp only [ASt.ev, tmPut, ↓reduceIte, reduceIte, Nat.reduceEqDiff, plain1, *]; rfl) | fail)) (by (first | (simp only [ASt.ev, tmPut, ↓reduceIte, reduceIte, Nat.reduceEqDiff, plain1, *]; rfl) | fail)) (by exact rfl) (by unfold Keep at j3; rw [j3]; simp)) ?_
      repeat (first | (refine OpsL.p (by subst_vars; decide) (by (first | (exact aop_assign (by (first | (simp only [ASt.ev, tmPut, ↓reduceIte, reduceIte, Nat.reduceEqDiff, plain1, *]; rfl) | fail))) | (exact aop_pickT (by (first | (simp only [ASt.ev, tmPut, ↓reduceIte, reduceIte, Nat.reduceEqDiff, decide_true, decide_false, not_true_eq_false, not_false_eq_true, Bool.not_true, Bool.not_false, *]; done) | fail)) (by (first | (simp only [ASt.ev, tmPut, ↓reduceIte, reduceIte, Nat.reduceEqDiff, plain1, *]; rfl) | fail))) | fail)) ?_) | (refine Trip.ret ?_; ((repeat (first | refine blockExit_eq ?_ | refine blockExit_ne (by decide) ?_ | refine blockExit_normal ?_ | refine blockExit_ret ?_ | refine blockExit_goto ?_)); first | (change Trip _ _ _ _ _) | dsimp only | skip)) | (refine OpsL.nil ?_; ((repeat (first | refine blockExit_eq ?_ | refine blockExit_ne (by decide) ?_ | refine blockExit_normal ?_ | refine blockExit_ret ?_ | refine blockExit_goto ?_)); first | (change Trip _ _ _ _ _) | dsimp only | skip)) | fail)
      exact ⟨.inr rfl, _, res_tmp, by simp [tmPut]⟩

theorem core (W0 : World) (nx : Nat) (H : Heap) (x0 : List Int) (w0 : ∀ x ∈ x0, (Lit.int .i64 x).wf = true) (x1 : List Int) (w1 : ∀ x ∈ x1, (Lit.int .i64 x).wf = true) (a2 : Int) (w2 : (Lit.int .i64 a2).wf = true) (us : List Value)
    (hat : All2 (Arg.at H) [.ints .i64 x0, .ints .i64 x1, .plain (.int .i64 a2)] us) (_ : ∀ id o, H id = some o → id < nx) : ACalls Try.prog W0 7 us nx H fun v _ _ => v = .bool true := by
  obtain ⟨u0, us, rfl, h0, hat⟩ := hat.cons
  obtain ⟨u1, us, rfl, h1, hat⟩ := hat.cons
  obtain ⟨u2, us, rfl, h2, hat⟩ := hat.cons
  obtain rfl := hat.nil
  obtain rfl : u2 = _ := h2
  exact law W0 h0.1 h1.1

theorem own : ownKnob Try.prog.godebug = none := by kernel_rfl
theorem laidOut : laidOutB Try.prog = true := by kernel_rfl
theorem cells_ints : Try.prog.cellsOf 3 = 1 := by kernel_rfl

set_option maxRecDepth 100000 in
theorem lifted (os : Os) (started : os.Started) (H : Type) (enc : TypeId × Value → H) :
    ReturnsInHanded {} Try.checked os 7 .any (Rows.setsKeepsSpec.pre6 enc Try.prog Try.f7 Rows.setsKeepsRow.domain false) (Rows.setsKeepsSpec.post enc Try.prog Try.f7 false true false false) := by
  refine returnsInHanded_of_change (C := Try.checked) own started (by kernel_rfl) Try.func7
    (ChangeSpec.witness6 (enc := enc) (C := Try.checked) false ⟨#[], #[.slice none 0 0, .slice none 0 0, .int .i64 0], []⟩ 8 (by kernel_rfl) (by kernel_rfl) (by kernel_rfl) (by kernel_rfl)) ?_
  intro W base args ds gs before hval0 hW _ _
  have hval : ∀ (j : Nat) t v, Try.f7.params[j]? = some t → args[j]? = some v → Value.okWide Try.prog W .any base t v := hval0
  have hW' := hW
  obtain ⟨p, q, hA0, hV, rfl, _, _⟩ := hW
  have hA : DataW.TrodAll enc Try.prog W 0 (fun _ => true) true Try.f7.params.toList args.toList ds p := hA0
  rw [Try.params7] at hA hval
  obtain ⟨v0, vs0, d0, ds0, p0, q0, hargs, rfl, rfl, h0, r0⟩ := trodAll_cons hA
  obtain ⟨v1, vs1, d1, ds1, p1, q1, rfl, rfl, rfl, h1, r1⟩ := trodAll_cons r0
  obtain ⟨v2, vs2, d2, ds2, p2, q2, rfl, rfl, rfl, h2, r2⟩ := trodAll_cons r1
  obtain ⟨rfl, rfl, rfl⟩ := trodAll_nil r2
  obtain rfl : args = #[v0, v1, v2] := by cases args; simp_all
  obtain ⟨rfl, rfl⟩ := trodVars_none hV
  obtain ⟨x0, c0, w0⟩ := came_ints Try.underlying22 Try.underlying3 cells_ints (hval 0 22 v0 rfl rfl) h0
  obtain ⟨x1, c1, w1⟩ := came_ints Try.underlying22 Try.underlying3 cells_ints (hval 1 22 v1 rfl rfl) h1
  obtain ⟨a2, rfl, rfl, rfl, w2⟩ := open_int Try.underlying3 (hval 2 3 v2 rfl rfl) h2
  clear hA0 hval0
  refine (law_calls (ars := [.ints .i64 x0, .ints .i64 x1, .plain (.int .i64 a2)]) (vs := [_, _, _]) ⟨c0, c1, ⟨rfl, rfl⟩, trivial⟩ (fun nx H us hat hok => core W nx H x0 w0 x1 w1 a2 w2 us hat hok)).mono fun e W' ⟨he, hg⟩ => ?_
  subst he
  exact ⟨_, rfl, law_post laidOut (by kernel_rfl) rfl Try.underlying4 rfl hW' rfl hg⟩

theorem over : Rows.setsKeepsRow.holds Try.pinned (OpenSpec.ofChange Rows.setsKeepsSpec) :=
  OpenClaim.holds_of_wide 7 Try.f7 rfl rfl rfl rfl rfl rfl rfl ⟨rfl, rfl, rfl, rfl, rfl⟩ rfl rfl rfl rfl rfl (by kernel_rfl) Try.func7 (by kernel_rfl)
    (of_decide_eq_true (by kernel_rfl)) (by unfold Func.isWrapper; first | (rw [if_pos (by decide +kernel)]; kernel_rfl) | (rw [if_neg (by decide +kernel)]; exact ⟨rfl, rfl⟩))
    (fun os started H enc _ => lifted os started H enc)

theorem proved : Rows.SetsKeepsSaid := over
#print axioms proved

end Go.Proofs.Ytigincejpjajpaa.setsKeeps
