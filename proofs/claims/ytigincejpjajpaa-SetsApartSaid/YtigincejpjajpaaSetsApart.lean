/-
  The law SetsApart of chapter 2 holds for all numbers: two tables do not touch one another.
  Conditions: none beyond the row's own.
-/
import Derived.Test.YtigincejpjajpaaPutB2
import Derived.Test.YtigincejpjajpaaLaw2
namespace Go.Proofs.Ytigincejpjajpaa.setsApart
set_option linter.unusedSimpArgs false
set_option linter.unusedVariables false
open Go.Am Go.RowKit Go.ChangeShapes Go.WideShapes Go.ChangeAt
attribute [local irreducible] aop OpsL Trip blockExit OpsD OpsK OpsR

theorem entersKnown : Am.Enters Try.prog 12 := ⟨Try.f12, Try.func12, by kernel_rfl, by kernel_rfl⟩

/-- Of a table that had no row, one row is the first. -/
theorem put_first {R R' : List (List (Int × Int))} {r : List (Int × Int)} {x : Int} {nw : Bool} (hR : R = []) (h : (nw = false ∧ R' = R ∧ ∃ k : Nat, x = k ∧ R[k]? = some r) ∨ (nw = true ∧ r ∉ R ∧ x = R.length ∧ R' = R ++ [r])) : R' = [r] ∧ x = 0 ∧ nw = true := by
  subst hR
  rcases h with ⟨_, _, k, _, h⟩ | ⟨h1, _, h2, h3⟩
  · simp at h
  · exact ⟨h3, h2, h1⟩

set_option maxRecDepth 20000 in
set_option maxHeartbeats 8000000 in
theorem law (W0 : World) {nx : Nat} {H : Heap} {nv mv : Value} {ns ms : List Int} (hn : IntsAt H nv ns) (hm : IntsAt H mv ms) : ACalls Try.prog W0 11 [nv, mv] nx H fun v _ _ => v = .bool true := by
  obtain ⟨na, nc, rfl⟩ := hn.slice
  obtain ⟨ma, mc, rfl⟩ := hm.slice
  refine ACalls.by_trip (fn := Try.f11) (c := _) Try.func11 rfl (fun tm n hn0 htm => ?_)
  have e0 : tm 0 = .slice na ns.length nc := htm 0
  have e1 : tm 1 = .slice ma ms.length mc := htm 1
  clear htm
  replace hn0 : n = 69 := hn0
  refine Trip.ok fun hok => ?_
  replace hok : ∀ id o, H id = some o → id < nx := hok
  repeat (first | (refine OpsL.p (by subst_vars; decide) (by (first | (exact aop_assign (by (first | (simp only [ASt.ev, tmPut, ↓reduceIte, reduceIte, Nat.reduceEqDiff, plain1, *]; rfl) | fail))) | fail)) ?_) | (refine Trip.seq ?_) | (refine Trip.ops ?_) | (refine OpsL.nil ?_; ((repeat (first | refine blockExit_eq ?_ | refine blockExit_ne (by decide) ?_ | refine blockExit_normal ?_ | refine blockExit_ret ?_ | refine blockExit_goto ?_)); first | (change Trip _ _ _ _ _) | dsimp only | skip)) | fail)
  refine OpsL.call0 (by subst_vars; decide) entersKnown ((known_told W0).2 nx H) ?_
  rintro v nx0 H0 ⟨rfl, rfl, rfl⟩
  dsimp only
  repeat (first | (refine OpsL.p (by subst_vars; decide) (by (first | (exact aop_not (by (first | (simp only [ASt.ev, tmPut, ↓reduceIte, reduceIte, Nat.reduceEqDiff, plain1, *]; rfl) | fail))) | fail)) ?_) | (refine OpsL.nil ?_; ((repeat (first | refine blockExit_eq ?_ | refine blockExit_ne (by decide) ?_ | refine blockExit_normal ?_ | refine blockExit_ret ?_ | refine blockExit_goto ?_)); first | (change Trip _ _ _ _ _) | dsimp only | skip)) | fail)
  refine Trip.iteB (b := false) (by (first | (simp only [ASt.ev, tmPut, ↓reduceIte, reduceIte, Nat.reduceEqDiff, decide_true, decide_false, not_true_eq_false, not_false_eq_true, Bool.not_true, Bool.not_false, *]; done) | fail)) (fun h => absurd h (by decide)) (fun _ => ?_)
  repeat (first | (refine Trip.seq ?_) | (refine Trip.ops ?_) | (refine Trip.skip ?_; ((repeat (first | refine blockExit_eq ?_ | refine blockExit_ne (by decide) ?_ | refine blockExit_normal ?_ | refine blockExit_ret ?_ | refine blockExit_goto ?_)); first | (change Trip _ _ _ _ _) | dsimp only | skip)) | fail)
  refine OpsL.call0 (by subst_vars; decide) entersNew (newC W0).ok ?_
  rintro v nx1 H1 ⟨⟨rfl, hn1, x1, tA⟩, k1⟩
  have hn' := hn.ext x1 hok
  have hm' := hm.ext x1 hok
  repeat fail
  refine OpsL.call0 (by subst_vars; decide) entersNew (newC W0).ok ?_
  rintro v nx2 H2 ⟨⟨rfl, hn2, x2, tB⟩, k2⟩
  replace tA := tA.ext x2 (fun i hi => by omega)
  replace hn' := hn'.ext x2 k1
  replace hm' := hm'.ext x2 k1
  obtain ⟨SA, hSA⟩ : ∃ S : Nat → Prop, S = fun i => i = nx0 := ⟨_, rfl⟩
  obtain ⟨SB, hSB⟩ : ∃ S : Nat → Prop, S = fun i => i = nx1 := ⟨_, rfl⟩
  rw [← hSA] at tA
  rw [← hSB] at tB
  have sA : ∀ i, SA i → i < nx2 := fun i hi => by rw [hSA] at hi; omega
  have sB : ∀ i, SB i → i < nx2 := fun i hi => by rw [hSB] at hi; omega
  have dAB : ∀ i, SA i → ¬ SB i := fun i h1 h2 => by rw [hSA] at h1; rw [hSB] at h2; omega
  clear hSA hSB x1 x2 k1 hn hm hok
  repeat (first | (refine OpsL.p (by subst_vars; decide) (by (first | (exact aop_move (by (first | (simp only [ASt.ev, tmPut, ↓reduceIte, reduceIte, Nat.reduceEqDiff, plain1, *]; rfl) | fail))) | (exact aop_assign (by (first | (simp only [ASt.ev, tmPut, ↓reduceIte, reduceIte, Nat.reduceEqDiff, plain1, *]; rfl) | fail))) | fail)) ?_) | (refine Trip.seq ?_) | (refine Trip.ops ?_) | (refine OpsL.nil ?_; ((repeat (first | refine blockExit_eq ?_ | refine blockExit_ne (by decide) ?_ | refine blockExit_normal ?_ | refine blockExit_ret ?_ | refine blockExit_goto ?_)); first | (change Trip _ _ _ _ _) | dsimp only | skip)) | fail)
  refine OpsL.p (by subst_vars; decide) (aop_eqlP (r := false) (by (first | (simp only [ASt.ev, tmPut, ↓reduceIte, reduceIte, Nat.reduceEqDiff, plain1, *]; rfl) | fail)) (by (first | (simp only [ASt.ev, tmPut, ↓reduceIte, reduceIte, Nat.reduceEqDiff, plain1, *]; rfl) | fail)) (by kernel_rfl)) ?_
  repeat (first | (refine OpsL.p (by subst_vars; decide) (by (first | (exact aop_move (by (first | (simp only [ASt.ev, tmPut, ↓reduceIte, reduceIte, Nat.reduceEqDiff, plain1, *]; rfl) | fail))) | fail)) ?_) | (refine OpsL.unguard (by exact rfl) (by (first | (simp only [ASt.ev, tmPut, ↓reduceIte, reduceIte, Nat.reduceEqDiff, decide_true, decide_false, not_true_eq_false, not_false_eq_true, Bool.not_true, Bool.not_false, *]; done) | fail)) ?_) | fail)
  refine OpsL.p (by subst_vars; decide) (aop_eqlP (r := false) (by (first | (simp only [ASt.ev, tmPut, ↓reduceIte, reduceIte, Nat.reduceEqDiff, plain1, *]; rfl) | fail)) (by (first | (simp only [ASt.ev, tmPut, ↓reduceIte, reduceIte, Nat.reduceEqDiff, plain1, *]; rfl) | fail)) (by kernel_rfl)) ?_
  repeat (first | (refine OpsL.p (by subst_vars; decide) (by (first | (exact aop_pickF (by (first | (simp only [ASt.ev, tmPut, ↓reduceIte, reduceIte, Nat.reduceEqDiff, decide_true, decide_false, not_true_eq_false, not_false_eq_true, Bool.not_true, Bool.not_false, *]; done) | fail)) (by (first | (simp only [ASt.ev, tmPut, ↓reduceIte, reduceIte, Nat.reduceEqDiff, plain1, *]; rfl) | fail))) | fail)) ?_) | (refine OpsL.nil ?_; ((repeat (first | refine blockExit_eq ?_ | refine blockExit_ne (by decide) ?_ | refine blockExit_normal ?_ | refine blockExit_ret ?_ | refine blockExit_goto ?_)); first | (change Trip _ _ _ _ _) | dsimp only | skip)) | fail)
  refine Trip.iteB (b := false) (by (first | (simp only [ASt.ev, tmPut, ↓reduceIte, reduceIte, Nat.reduceEqDiff, decide_true, decide_false, not_true_eq_false, not_false_eq_true, Bool.not_true, Bool.not_false, *]; done) | fail)) (fun h => absurd h (by decide)) (fun _ => ?_)
  repeat (first | (refine OpsL.p (by subst_vars; decide) (by (first | (exact aop_move (by (first | (simp only [ASt.ev, tmPut, ↓reduceIte, reduceIte, Nat.reduceEqDiff, plain1, *]; rfl) | fail))) | fail)) ?_) | (refine Trip.seq ?_) | (refine Trip.ops ?_) | (refine Trip.skip ?_; ((repeat (first | refine blockExit_eq ?_ | refine blockExit_ne (by decide) ?_ | refine blockExit_normal ?_ | refine blockExit_ret ?_ | refine blockExit_goto ?_)); first | (change Trip _ _ _ _ _) | dsimp only | skip)) | fail)
  -- p, q
  refine OpsL.call2 (by subst_vars; decide) (by (first | (simp only [ASt.ev, tmPut, ↓reduceIte, reduceIte, Nat.reduceEqDiff, plain1, *]; done) | fail)) (by (first | (simp only [ASt.ev, tmPut, ↓reduceIte, reduceIte, Nat.reduceEqDiff, plain1, *]; rfl) | fail)) entersLPairs (lpairsC W0 (most := 9) hn' (by omega)).ok ?_
  rintro vP nx3 H3 ⟨⟨oP, wP, x3, fP⟩, k3⟩
  have lP : (pairsF ns 9).length ≤ 9 := by unfold pairsF; rw [List.length_map, List.length_take]; omega
  generalize pairsF ns 9 = lp at *
  replace tA := tA.ext x3 sA
  replace tB := tB.ext x3 sB
  replace hm' := hm'.ext x3 k2
  have pP := wP.at encP_len
  have bP : ∀ a n c, vP = .slice (some a) n c → a.block < nx3 := own_blk wP (fun b t e => (fP b t e).2)
  have dPA : ∀ a n c, vP = .slice (some a) n c → ¬ SA a.block := own_blk (Q := fun i => ¬ SA i) wP (fun b t e h => absurd (sA b h) (Nat.not_lt.2 (fP b t e).1))
  have dPB : ∀ a n c, vP = .slice (some a) n c → ¬ SB a.block := own_blk (Q := fun i => ¬ SB i) wP (fun b t e h => absurd (sB b h) (Nat.not_lt.2 (fP b t e).1))
  replace sA : ∀ i, SA i → i < nx3 := fun i hi => Nat.lt_of_lt_of_le (sA i hi) x3.1
  replace sB : ∀ i, SB i → i < nx3 := fun i hi => Nat.lt_of_lt_of_le (sB i hi) x3.1
  clear wP fP x3 k2
  repeat (first | (refine OpsL.p (by subst_vars; decide) (by (first | (exact aop_move (by (first | (simp only [ASt.ev, tmPut, ↓reduceIte, reduceIte, Nat.reduceEqDiff, plain1, *]; rfl) | fail))) | fail)) ?_) | fail)
  refine OpsL.call2 (by subst_vars; decide) (by (first | (simp only [ASt.ev, tmPut, ↓reduceIte, reduceIte, Nat.reduceEqDiff, plain1, *]; done) | fail)) (by (first | (simp only [ASt.ev, tmPut, ↓reduceIte, reduceIte, Nat.reduceEqDiff, plain1, *]; rfl) | fail)) entersLPairs (lpairsC W0 (most := 9) hm' (by omega)).ok ?_
  rintro vQ nx4 H4 ⟨⟨oQ, wQ, x4, fQ⟩, k4⟩
  have lQ : (pairsF ms 9).length ≤ 9 := by unfold pairsF; rw [List.length_map, List.length_take]; omega
  have h77 : ((77 : Int), (0 : Int)) ∉ pairsF ms 9 := by
    unfold pairsF pairOf
    intro h
    obtain ⟨x, _, hx⟩ := List.mem_map.1 h
    have := (Prod.mk.inj hx).1
    omega
  generalize pairsF ms 9 = lq at *
  replace tA := tA.ext x4 sA
  replace tB := tB.ext x4 sB
  replace pP := RowsAt.ext x4 k3 pP
  replace bP : ∀ a n c, vP = .slice (some a) n c → a.block < nx4 := fun a n c e => Nat.lt_of_lt_of_le (bP a n c e) x4.1
  have pQ := wQ.at encP_len
  have bQ : ∀ a n c, vQ = .slice (some a) n c → a.block < nx4 := own_blk wQ (fun b t e => (fQ b t e).2)
  have dQA : ∀ a n c, vQ = .slice (some a) n c → ¬ SA a.block := own_blk (Q := fun i => ¬ SA i) wQ (fun b t e h => absurd (sA b h) (Nat.not_lt.2 (fQ b t e).1))
  have dQB : ∀ a n c, vQ = .slice (some a) n c → ¬ SB a.block := own_blk (Q := fun i => ¬ SB i) wQ (fun b t e h => absurd (sB b h) (Nat.not_lt.2 (fQ b t e).1))
  replace sA : ∀ i, SA i → i < nx4 := fun i hi => Nat.lt_of_lt_of_le (sA i hi) x4.1
  replace sB : ∀ i, SB i → i < nx4 := fun i hi => Nat.lt_of_lt_of_le (sB i hi) x4.1
  clear wQ fQ x4 k3 e0 e1 hn' hm'
  repeat (first | (refine OpsL.p (by subst_vars; decide) (by (first | (exact aop_move (by (first | (simp only [ASt.ev, tmPut, ↓reduceIte, reduceIte, Nat.reduceEqDiff, plain1, *]; rfl) | fail))) | (exact aop_assign (by (first | (simp only [ASt.ev, tmPut, ↓reduceIte, reduceIte, Nat.reduceEqDiff, plain1, *]; rfl) | fail))) | fail)) ?_) | (refine Trip.seq ?_) | (refine Trip.ops ?_) | (refine OpsL.nil ?_; ((repeat (first | refine blockExit_eq ?_ | refine blockExit_ne (by decide) ?_ | refine blockExit_normal ?_ | refine blockExit_ret ?_ | refine blockExit_goto ?_)); first | (change Trip _ _ _ _ _) | dsimp only | skip)) | fail)
  -- a has p
  refine OpsL.call2 (by subst_vars; decide) (by (first | (simp only [ASt.ev, tmPut, ↓reduceIte, reduceIte, Nat.reduceEqDiff, plain1, *]; done) | fail)) (by (first | (simp only [ASt.ev, tmPut, ↓reduceIte, reduceIte, Nat.reduceEqDiff, plain1, *]; done) | fail)) entersPut (putC W0 tA sA pP (by omega) (by simp)).ok ?_
  rintro v5 nx5 H5 ⟨⟨n5, r5, y5, w5, R5, S5, rfl, s5, m5, hr5, t5, f5, g5, o5⟩, k5⟩
  obtain ⟨rfl, rfl, rfl⟩ := put_first rfl o5
  replace tB := tB.same (H' := H5) fun i hi => g5 i (sB i hi) (fun h => dAB i h hi)
  replace dAB : ∀ i, S5 i → ¬ SB i := fun i h1 h2 => by
    rcases f5 i h1 with h | ⟨h, _⟩
    · exact dAB i h h2
    · have := sB i h2; omega
  replace sB : ∀ i, SB i → i < nx5 := fun i hi => Nat.lt_of_lt_of_le (sB i hi) n5
  have s5' : ∀ i, S5 i → i < nx5 := fun i hi => by
    rcases f5 i hi with h | ⟨_, h⟩
    · have := sA i h; omega
    · exact h
  replace pP := PairsAt.same (H' := H5) pP fun a n c e => g5 _ (bP a n c e) (dPA a n c e)
  replace pQ := PairsAt.same (H' := H5) pQ fun a n c e => g5 _ (bQ a n c e) (dQA a n c e)
  replace dPA : ∀ a n c, vP = .slice (some a) n c → ¬ S5 a.block := fun a n c e h => by
    rcases f5 _ h with h | ⟨h, _⟩
    · exact dPA a n c e h
    · have := bP a n c e; omega
  replace dQA : ∀ a n c, vQ = .slice (some a) n c → ¬ S5 a.block := fun a n c e h => by
    rcases f5 _ h with h | ⟨h, _⟩
    · exact dQA a n c e h
    · have := bQ a n c e; omega
  replace bP : ∀ a n c, vP = .slice (some a) n c → a.block < nx5 := fun a n c e => Nat.lt_of_lt_of_le (bP a n c e) n5
  replace bQ : ∀ a n c, vQ = .slice (some a) n c → a.block < nx5 := fun a n c e => Nat.lt_of_lt_of_le (bQ a n c e) n5
  clear tA sA f5 g5 o5 k4 n5
  repeat (first | (refine OpsL.p (by subst_vars; decide) (by (first | (exact aop_move (by (first | (simp only [ASt.ev, tmPut, ↓reduceIte, reduceIte, Nat.reduceEqDiff, plain1, *]; rfl) | fail))) | fail)) ?_) | (refine Trip.seq ?_) | (refine Trip.ops ?_) | (refine OpsL.nil ?_; ((repeat (first | refine blockExit_eq ?_ | refine blockExit_ne (by decide) ?_ | refine blockExit_normal ?_ | refine blockExit_ret ?_ | refine blockExit_goto ?_)); first | (change Trip _ _ _ _ _) | dsimp only | skip)) | fail)
  -- b has not
  refine OpsL.call2 (by subst_vars; decide) (by (first | (simp only [ASt.ev, tmPut, ↓reduceIte, reduceIte, Nat.reduceEqDiff, plain1, *]; done) | fail)) (by (first | (simp only [ASt.ev, tmPut, ↓reduceIte, reduceIte, Nat.reduceEqDiff, plain1, *]; done) | fail)) entersFindP (findPC W0 tB sB pP (by omega)).ok ?_
  rintro v6 nx6 H6 ⟨⟨x6, r6, y6, w6, rfl, -, -, -, o6⟩, k6⟩
  obtain rfl : w6 = false := by
    rcases o6 with ⟨_, k, _, h⟩ | ⟨h, _⟩
    · simp at h
    · exact h
  clear o6
  replace tB := tB.ext x6 sB
  replace t5 := t5.ext x6 s5'
  replace pP := RowsAt.ext x6 k5 pP
  replace pQ := RowsAt.ext x6 k5 pQ
  replace sB : ∀ i, SB i → i < nx6 := fun i hi => Nat.lt_of_lt_of_le (sB i hi) x6.1
  replace s5' : ∀ i, S5 i → i < nx6 := fun i hi => Nat.lt_of_lt_of_le (s5' i hi) x6.1
  replace bP : ∀ a n c, vP = .slice (some a) n c → a.block < nx6 := fun a n c e => Nat.lt_of_lt_of_le (bP a n c e) x6.1
  replace bQ : ∀ a n c, vQ = .slice (some a) n c → a.block < nx6 := fun a n c e => Nat.lt_of_lt_of_le (bQ a n c e) x6.1
  clear x6 k5
  repeat (first | (refine OpsL.p (by subst_vars; decide) (by (first | (exact aop_move (by (first | (simp only [ASt.ev, tmPut, ↓reduceIte, reduceIte, Nat.reduceEqDiff, plain1, *]; rfl) | fail))) | (exact aop_assign (by (first | (simp only [ASt.ev, tmPut, ↓reduceIte, reduceIte, Nat.reduceEqDiff, plain1, *]; rfl) | fail))) | (exact aop_extract (by (first | (simp only [ASt.ev, tmPut, ↓reduceIte, reduceIte, Nat.reduceEqDiff, plain1, *]; rfl) | fail)) (by exact rfl)) | fail)) ?_) | (refine Trip.seq ?_) | (refine Trip.ops ?_) | (refine OpsL.nil ?_; ((repeat (first | refine blockExit_eq ?_ | refine blockExit_ne (by decide) ?_ | refine blockExit_normal ?_ | refine blockExit_ret ?_ | refine blockExit_goto ?_)); first | (change Trip _ _ _ _ _) | dsimp only | skip)) | fail)
  -- b has q
  refine OpsL.call2 (by subst_vars; decide) (by (first | (simp only [ASt.ev, tmPut, ↓reduceIte, reduceIte, Nat.reduceEqDiff, plain1, *]; done) | fail)) (by (first | (simp only [ASt.ev, tmPut, ↓reduceIte, reduceIte, Nat.reduceEqDiff, plain1, *]; done) | fail)) entersPut (putC W0 tB sB pQ (by omega) (by simp)).ok ?_
  rintro v7 nx7 H7 ⟨⟨n7, r7, y7, w7, R7, S7, rfl, s7, m7, hr7, t7, f7, g7, o7⟩, k7⟩
  obtain ⟨rfl, rfl, rfl⟩ := put_first rfl o7
  replace t5 := t5.same (H' := H7) fun i hi => g7 i (s5' i hi) (dAB i hi)
  replace dAB : ∀ i, S5 i → ¬ S7 i := fun i h1 h2 => by
    rcases f7 i h2 with h | ⟨h, _⟩
    · exact dAB i h1 h
    · have := s5' i h1; omega
  replace s5' : ∀ i, S5 i → i < nx7 := fun i hi => Nat.lt_of_lt_of_le (s5' i hi) n7
  have s7' : ∀ i, S7 i → i < nx7 := fun i hi => by
    rcases f7 i hi with h | ⟨_, h⟩
    · have := sB i h; omega
    · exact h
  replace pP := PairsAt.same (H' := H7) pP fun a n c e => g7 _ (bP a n c e) (dPB a n c e)
  replace pQ := PairsAt.same (H' := H7) pQ fun a n c e => g7 _ (bQ a n c e) (dQB a n c e)
  replace dPB : ∀ a n c, vP = .slice (some a) n c → ¬ S7 a.block := fun a n c e h => by
    rcases f7 _ h with h | ⟨h, _⟩
    · exact dPB a n c e h
    · have := bP a n c e; omega
  replace dQB : ∀ a n c, vQ = .slice (some a) n c → ¬ S7 a.block := fun a n c e h => by
    rcases f7 _ h with h | ⟨h, _⟩
    · exact dQB a n c e h
    · have := bQ a n c e; omega
  replace bP : ∀ a n c, vP = .slice (some a) n c → a.block < nx7 := fun a n c e => Nat.lt_of_lt_of_le (bP a n c e) n7
  replace bQ : ∀ a n c, vQ = .slice (some a) n c → a.block < nx7 := fun a n c e => Nat.lt_of_lt_of_le (bQ a n c e) n7
  clear tB sB f7 g7 o7 k6 n7
  repeat (first | (refine OpsL.p (by subst_vars; decide) (by (first | (exact aop_move (by (first | (simp only [ASt.ev, tmPut, ↓reduceIte, reduceIte, Nat.reduceEqDiff, plain1, *]; rfl) | fail))) | fail)) ?_) | (refine Trip.seq ?_) | (refine Trip.ops ?_) | (refine OpsL.nil ?_; ((repeat (first | refine blockExit_eq ?_ | refine blockExit_ne (by decide) ?_ | refine blockExit_normal ?_ | refine blockExit_ret ?_ | refine blockExit_goto ?_)); first | (change Trip _ _ _ _ _) | dsimp only | skip)) | fail)
  -- and a row more
  refine OpsL.p (by subst_vars; decide) (aop_build (v := .agg #[.int .i64 77, .int .i64 0]) (l := [(0, .int .i64 77)]) (by simp only [evParts, ASt.ev, plainC, if_true]; rfl) (by kernel_rfl)) ?_
  refine OpsL.new (by subst_vars; decide) (aop_buildSlice (l := [(0, .agg #[.int .i64 77, .int .i64 0])]) (r := (.slice (some ⟨nx7, 0, none⟩) 1 1, .new (.cells [.int .i64 77, .int .i64 0] 2 none false (some 27)))) (by simp only [evParts, ASt.ev, tmPut, ↓reduceIte, reduceIte, Option.some.injEq, Nat.reduceEqDiff, *]) (by kernel_rfl)) ?_
  have x8 : Ext nx7 H7 (nx7 + 1) (H7.put nx7 (.cells [.int .i64 77, .int .i64 0] 2 none false (some 27))) := Ext.newPut
  have k8 := ok_new (o := .cells [.int .i64 77, .int .i64 0] 2 none false (some 27)) k7
  have c8 : (H7.put nx7 (.cells [.int .i64 77, .int .i64 0] 2 none false (some 27))) nx7 = some (.cells ([((77 : Int), (0 : Int))].flatMap encP) 2 none false (some 27)) := Heap.put_eq
  generalize (H7.put nx7 (.cells [.int .i64 77, .int .i64 0] 2 none false (some 27))) = H8 at *
  have pQ8 := RowsAt.ext x8 k7 pQ
  repeat (first | (refine OpsL.p (by subst_vars; decide) (by (first | (exact aop_move (by (first | (simp only [ASt.ev, tmPut, ↓reduceIte, reduceIte, Nat.reduceEqDiff, plain1, *]; rfl) | fail))) | fail)) ?_) | fail)
  refine OpsL.appendM (by subst_vars; decide) c8 pQ8 (by (first | (simp only [ASt.ev, tmPut, ↓reduceIte, reduceIte, Nat.reduceEqDiff, plain1, *]; rfl) | fail)) (by (first | (simp only [ASt.ev, tmPut, ↓reduceIte, reduceIte, Nat.reduceEqDiff, plain1, *]; done) | fail)) (by simp; omega) k8 ?_
  intro v9 nx9 H9 x9 p9 k9
  have x79 := x8.trans x9
  replace t5 := t5.ext x79 s5'
  replace t7 := t7.ext x79 s7'
  replace pP := RowsAt.ext x79 k7 pP
  replace pQ := RowsAt.ext x79 k7 pQ
  replace s5' : ∀ i, S5 i → i < nx9 := fun i hi => Nat.lt_of_lt_of_le (s5' i hi) x79.1
  replace s7' : ∀ i, S7 i → i < nx9 := fun i hi => Nat.lt_of_lt_of_le (s7' i hi) x79.1
  replace bP : ∀ a n c, vP = .slice (some a) n c → a.block < nx9 := fun a n c e => Nat.lt_of_lt_of_le (bP a n c e) x79.1
  replace bQ : ∀ a n c, vQ = .slice (some a) n c → a.block < nx9 := fun a n c e => Nat.lt_of_lt_of_le (bQ a n c e) x79.1
  clear x8 x9 x79 k8 c8 pQ8 k7
  repeat fail
  refine OpsL.call2 (by subst_vars; decide) (by (first | (simp only [ASt.ev, tmPut, ↓reduceIte, reduceIte, Nat.reduceEqDiff, plain1, *]; done) | fail)) (by (first | (simp only [ASt.ev, tmPut, ↓reduceIte, reduceIte, Nat.reduceEqDiff, plain1, *]; done) | fail)) entersPut (putC W0 t7 s7' p9 (by simp; omega) (by simp)).ok ?_
  rintro v10 nx10 H10 ⟨⟨n10, r10, y10, w10, R10, S10, rfl, s10, m10, hr10, t10, f10, g10, o10⟩, k10⟩
  obtain rfl : R10 = [r7, r10] := by
    rcases o10 with ⟨_, _, k, _, h⟩ | ⟨_, _, _, h⟩
    · exfalso
      have h2 : r7 = r10 := by
        match k, h with
        | 0, h => simpa using h
        | k + 1, h => simp at h
      have h3 : ((77 : Int), (0 : Int)) ∈ r10 := (m10 _).2 (by simp)
      rw [← h2] at h3
      exact h77 ((m7 _).1 h3)
    · exact h
  replace t5 := t5.same (H' := H10) fun i hi => g10 i (s5' i hi) (dAB i hi)
  replace s5' : ∀ i, S5 i → i < nx10 := fun i hi => Nat.lt_of_lt_of_le (s5' i hi) n10
  have s10' : ∀ i, S10 i → i < nx10 := fun i hi => by
    rcases f10 i hi with h | ⟨_, h⟩
    · have := s7' i h; omega
    · exact h
  replace pP := PairsAt.same (H' := H10) pP fun a n c e => g10 _ (bP a n c e) (dPB a n c e)
  replace pQ := PairsAt.same (H' := H10) pQ fun a n c e => g10 _ (bQ a n c e) (dQB a n c e)
  clear t7 s7' f10 g10 o10 k9 n10 dAB dPA dPB dQA dQB bP bQ p9
  repeat (first | (refine OpsL.p (by subst_vars; decide) (by (first | (exact aop_move (by (first | (simp only [ASt.ev, tmPut, ↓reduceIte, reduceIte, Nat.reduceEqDiff, plain1, *]; rfl) | fail))) | (exact aop_not (by (first | (simp only [ASt.ev, tmPut, ↓reduceIte, reduceIte, Nat.reduceEqDiff, plain1, *]; rfl) | fail))) | fail)) ?_) | (refine Trip.seq ?_) | (refine Trip.ops ?_) | (refine OpsL.nil ?_; ((repeat (first | refine blockExit_eq ?_ | refine blockExit_ne (by decide) ?_ | refine blockExit_normal ?_ | refine blockExit_ret ?_ | refine blockExit_goto ?_)); first | (change Trip _ _ _ _ _) | dsimp only | skip)) | (refine OpsL.unguard (by exact rfl) (by (first | (simp only [ASt.ev, tmPut, ↓reduceIte, reduceIte, Nat.reduceEqDiff, decide_true, decide_false, not_true_eq_false, not_false_eq_true, Bool.not_true, Bool.not_false, *]; done) | fail)) ?_) | fail)
  -- what is told
  refine OpsL.call1 (by subst_vars; decide) (by (first | (simp only [ASt.ev, tmPut, ↓reduceIte, reduceIte, Nat.reduceEqDiff, plain1, *]; done) | fail)) entersLen (lenC W0 t5) ?_
  rintro v nx11 H11 ⟨hv, rfl, rfl⟩
  replace hv : v = .int .i64 1 := hv
  subst hv
  refine OpsL.unguard (by exact rfl) (by (first | (simp only [ASt.ev, tmPut, ↓reduceIte, reduceIte, Nat.reduceEqDiff, decide_true, decide_false, not_true_eq_false, not_false_eq_true, Bool.not_true, Bool.not_false, *]; done) | fail)) ?_
  refine OpsL.p (by subst_vars; decide) (aop_eqlT (by (first | (simp only [ASt.ev, tmPut, ↓reduceIte, reduceIte, Nat.reduceEqDiff, plain1, *]; rfl) | fail)) (by (first | (simp only [ASt.ev, tmPut, ↓reduceIte, reduceIte, Nat.reduceEqDiff, plain1, *]; rfl) | fail)) rfl) ?_
  repeat (first | (refine OpsL.p (by subst_vars; decide) (by (first | (exact aop_move (by (first | (simp only [ASt.ev, tmPut, ↓reduceIte, reduceIte, Nat.reduceEqDiff, plain1, *]; rfl) | fail))) | (exact aop_pickT (by (first | (simp only [ASt.ev, tmPut, ↓reduceIte, reduceIte, Nat.reduceEqDiff, decide_true, decide_false, not_true_eq_false, not_false_eq_true, Bool.not_true, Bool.not_false, *]; done) | fail)) (by (first | (simp only [ASt.ev, tmPut, ↓reduceIte, reduceIte, Nat.reduceEqDiff, plain1, *]; rfl) | fail))) | fail)) ?_) | (refine OpsL.unguard (by exact rfl) (by (first | (simp only [ASt.ev, tmPut, ↓reduceIte, reduceIte, Nat.reduceEqDiff, decide_true, decide_false, not_true_eq_false, not_false_eq_true, Bool.not_true, Bool.not_false, *]; done) | fail)) ?_) | fail)
  refine OpsL.call1 (by subst_vars; decide) (by (first | (simp only [ASt.ev, tmPut, ↓reduceIte, reduceIte, Nat.reduceEqDiff, plain1, *]; done) | fail)) entersLen (lenC W0 t10) ?_
  rintro v nx11 H11 ⟨hv, rfl, rfl⟩
  replace hv : v = .int .i64 2 := hv
  subst hv
  refine OpsL.unguard (by exact rfl) (by (first | (simp only [ASt.ev, tmPut, ↓reduceIte, reduceIte, Nat.reduceEqDiff, decide_true, decide_false, not_true_eq_false, not_false_eq_true, Bool.not_true, Bool.not_false, *]; done) | fail)) ?_
  refine OpsL.p (by subst_vars; decide) (aop_eqlT (by (first | (simp only [ASt.ev, tmPut, ↓reduceIte, reduceIte, Nat.reduceEqDiff, plain1, *]; rfl) | fail)) (by (first | (simp only [ASt.ev, tmPut, ↓reduceIte, reduceIte, Nat.reduceEqDiff, plain1, *]; rfl) | fail)) rfl) ?_
  rw [List.length_append, List.length_singleton] at hr10
  repeat (first | (refine OpsL.p (by subst_vars; decide) (by (first | (exact aop_move (by (first | (simp only [ASt.ev, tmPut, ↓reduceIte, reduceIte, Nat.reduceEqDiff, plain1, *]; rfl) | fail))) | (exact aop_pickT (by (first | (simp only [ASt.ev, tmPut, ↓reduceIte, reduceIte, Nat.reduceEqDiff, decide_true, decide_false, not_true_eq_false, not_false_eq_true, Bool.not_true, Bool.not_false, *]; done) | fail)) (by (first | (simp only [ASt.ev, tmPut, ↓reduceIte, reduceIte, Nat.reduceEqDiff, plain1, *]; rfl) | fail))) | fail)) ?_) | (refine OpsL.unguard (by exact rfl) (by (first | (simp only [ASt.ev, tmPut, ↓reduceIte, reduceIte, Nat.reduceEqDiff, decide_true, decide_false, not_true_eq_false, not_false_eq_true, Bool.not_true, Bool.not_false, *]; done) | fail)) ?_) | fail)
  refine OpsL.call2 (by subst_vars; decide) (by (first | (simp only [ASt.ev, tmPut, ↓reduceIte, reduceIte, Nat.reduceEqDiff, plain1, *]; done) | fail)) (by (first | (simp only [ASt.ev, tmPut, ↓reduceIte, reduceIte, Nat.reduceEqDiff, plain1, *]; rfl) | fail)) entersRow (rowC W0 0 t5 (fun r h => by rw [List.mem_singleton] at h; subst h; omega)).ok ?_
  rintro v11 nx11 H11 ⟨⟨l11, ⟨x11, p11, -⟩, o11⟩, k11⟩
  obtain rfl : l11 = r5 := by
    rcases o11 with ⟨_, h⟩ | ⟨h, _⟩
    · exact (Option.some.inj h).symm
    · exact absurd ⟨Int.le_refl 0, by simp⟩ h
  clear o11
  repeat (first | (refine OpsL.p (by subst_vars; decide) (by (first | (exact aop_move (by (first | (simp only [ASt.ev, tmPut, ↓reduceIte, reduceIte, Nat.reduceEqDiff, plain1, *]; rfl) | fail))) | fail)) ?_) | (refine OpsL.unguard (by exact rfl) (by (first | (simp only [ASt.ev, tmPut, ↓reduceIte, reduceIte, Nat.reduceEqDiff, decide_true, decide_false, not_true_eq_false, not_false_eq_true, Bool.not_true, Bool.not_false, *]; done) | fail)) ?_) | fail)
  refine OpsL.call1 (by subst_vars; decide) (by (first | (simp only [ASt.ev, tmPut, ↓reduceIte, reduceIte, Nat.reduceEqDiff, plain1, *]; done) | fail)) entersPairsR (rpairsC W0 (RowsAt.ext x11 k10 pP) (by omega)).ok ?_
  rintro v12 nx12 H12 ⟨⟨ob12, r12, s12, m12, l12, w12, x12, -⟩, k12⟩
  repeat (first | (refine OpsL.unguard (by exact rfl) (by (first | (simp only [ASt.ev, tmPut, ↓reduceIte, reduceIte, Nat.reduceEqDiff, decide_true, decide_false, not_true_eq_false, not_false_eq_true, Bool.not_true, Bool.not_false, *]; done) | fail)) ?_) | fail)
  refine OpsL.call2 (by subst_vars; decide) (by (first | (simp only [ASt.ev, tmPut, ↓reduceIte, reduceIte, Nat.reduceEqDiff, plain1, *]; done) | fail)) (by (first | (simp only [ASt.ev, tmPut, ↓reduceIte, reduceIte, Nat.reduceEqDiff, plain1, *]; done) | fail)) entersSameR (sameC W0 (RowsAt.ext x12 k11 p11) (w12.at encP_len) (by omega) (by omega)) ?_
  rintro _ _ _ ⟨rfl, rfl, rfl⟩
  rw [decide_eq_true (strict_ext _ r12 s5 s12 fun z => by rw [m5, m12])]
  replace t10 := (t10.ext x11 s10').ext x12 (fun i hi => Nat.lt_of_lt_of_le (s10' i hi) x11.1)
  replace pQ := RowsAt.ext x12 k11 (RowsAt.ext x11 k10 pQ)
  clear x11 x12 k10 k11 w12 p11 pP
  repeat (first | (refine OpsL.p (by subst_vars; decide) (by (first | (exact aop_move (by (first | (simp only [ASt.ev, tmPut, ↓reduceIte, reduceIte, Nat.reduceEqDiff, plain1, *]; rfl) | fail))) | (exact aop_pickT (by (first | (simp only [ASt.ev, tmPut, ↓reduceIte, reduceIte, Nat.reduceEqDiff, decide_true, decide_false, not_true_eq_false, not_false_eq_true, Bool.not_true, Bool.not_false, *]; done) | fail)) (by (first | (simp only [ASt.ev, tmPut, ↓reduceIte, reduceIte, Nat.reduceEqDiff, plain1, *]; rfl) | fail))) | fail)) ?_) | (refine OpsL.unguard (by exact rfl) (by (first | (simp only [ASt.ev, tmPut, ↓reduceIte, reduceIte, Nat.reduceEqDiff, decide_true, decide_false, not_true_eq_false, not_false_eq_true, Bool.not_true, Bool.not_false, *]; done) | fail)) ?_) | fail)
  refine OpsL.call2 (by subst_vars; decide) (by (first | (simp only [ASt.ev, tmPut, ↓reduceIte, reduceIte, Nat.reduceEqDiff, plain1, *]; done) | fail)) (by (first | (simp only [ASt.ev, tmPut, ↓reduceIte, reduceIte, Nat.reduceEqDiff, plain1, *]; rfl) | fail)) entersRow (rowC W0 0 t10 (fun r h => by
    rcases List.mem_cons.1 h with h | h
    · subst h; omega
    · rw [List.mem_singleton] at h; subst h; omega)).ok ?_
  rintro v13 nx13 H13 ⟨⟨l13, ⟨x13, p13, -⟩, o13⟩, k13⟩
  obtain rfl : l13 = r7 := by
    rcases o13 with ⟨_, h⟩ | ⟨h, _⟩
    · exact (Option.some.inj h).symm
    · exact absurd ⟨Int.le_refl 0, by simp⟩ h
  clear o13
  repeat (first | (refine OpsL.p (by subst_vars; decide) (by (first | (exact aop_move (by (first | (simp only [ASt.ev, tmPut, ↓reduceIte, reduceIte, Nat.reduceEqDiff, plain1, *]; rfl) | fail))) | fail)) ?_) | (refine OpsL.unguard (by exact rfl) (by (first | (simp only [ASt.ev, tmPut, ↓reduceIte, reduceIte, Nat.reduceEqDiff, decide_true, decide_false, not_true_eq_false, not_false_eq_true, Bool.not_true, Bool.not_false, *]; done) | fail)) ?_) | fail)
  refine OpsL.call1 (by subst_vars; decide) (by (first | (simp only [ASt.ev, tmPut, ↓reduceIte, reduceIte, Nat.reduceEqDiff, plain1, *]; done) | fail)) entersPairsR (rpairsC W0 (RowsAt.ext x13 k12 pQ) (by omega)).ok ?_
  rintro v14 nx14 H14 ⟨⟨ob14, r14, s14, m14, l14, w14, x14, -⟩, k14⟩
  repeat (first | (refine OpsL.unguard (by exact rfl) (by (first | (simp only [ASt.ev, tmPut, ↓reduceIte, reduceIte, Nat.reduceEqDiff, decide_true, decide_false, not_true_eq_false, not_false_eq_true, Bool.not_true, Bool.not_false, *]; done) | fail)) ?_) | fail)
  refine OpsL.call2 (by subst_vars; decide) (by (first | (simp only [ASt.ev, tmPut, ↓reduceIte, reduceIte, Nat.reduceEqDiff, plain1, *]; done) | fail)) (by (first | (simp only [ASt.ev, tmPut, ↓reduceIte, reduceIte, Nat.reduceEqDiff, plain1, *]; done) | fail)) entersSameR (sameC W0 (RowsAt.ext x14 k13 p13) (w14.at encP_len) (by omega) (by omega)) ?_
  rintro _ _ _ ⟨rfl, rfl, rfl⟩
  rw [decide_eq_true (strict_ext _ r14 s7 s14 fun z => by rw [m7, m14])]
  repeat (first | (refine OpsL.p (by subst_vars; decide) (by (first | (exact aop_assign (by (first | (simp only [ASt.ev, tmPut, ↓reduceIte, reduceIte, Nat.reduceEqDiff, plain1, *]; rfl) | fail))) | (exact aop_pickT (by (first | (simp only [ASt.ev, tmPut, ↓reduceIte, reduceIte, Nat.reduceEqDiff, decide_true, decide_false, not_true_eq_false, not_false_eq_true, Bool.not_true, Bool.not_false, *]; done) | fail)) (by (first | (simp only [ASt.ev, tmPut, ↓reduceIte, reduceIte, Nat.reduceEqDiff, plain1, *]; rfl) | fail))) | fail)) ?_) | (refine Trip.ret ?_; ((repeat (first | refine blockExit_eq ?_ | refine blockExit_ne (by decide) ?_ | refine blockExit_normal ?_ | refine blockExit_ret ?_ | refine blockExit_goto ?_)); first | (change Trip _ _ _ _ _) | dsimp only | skip)) | (refine OpsL.nil ?_; ((repeat (first | refine blockExit_eq ?_ | refine blockExit_ne (by decide) ?_ | refine blockExit_normal ?_ | refine blockExit_ret ?_ | refine blockExit_goto ?_)); first | (change Trip _ _ _ _ _) | dsimp only | skip)) | fail)
  exact ⟨.inr rfl, _, res_tmp, by simp [tmPut]⟩

theorem core (W0 : World) (nx : Nat) (H : Heap) (x0 : List Int) (w0 : ∀ x ∈ x0, (Lit.int .i64 x).wf = true) (x1 : List Int) (w1 : ∀ x ∈ x1, (Lit.int .i64 x).wf = true) (us : List Value)
    (hat : All2 (Arg.at H) [.ints .i64 x0, .ints .i64 x1] us) (_ : ∀ id o, H id = some o → id < nx) : ACalls Try.prog W0 11 us nx H fun v _ _ => v = .bool true := by
  obtain ⟨u0, us, rfl, h0, hat⟩ := hat.cons
  obtain ⟨u1, us, rfl, h1, hat⟩ := hat.cons
  obtain rfl := hat.nil
  exact law W0 h0.1 h1.1

theorem own : ownKnob Try.prog.godebug = none := by kernel_rfl
theorem laidOut : laidOutB Try.prog = true := by kernel_rfl
theorem cells_ints : Try.prog.cellsOf 3 = 1 := by kernel_rfl

set_option maxRecDepth 100000 in
theorem lifted (os : Os) (started : os.Started) (H : Type) (enc : TypeId × Value → H) :
    ReturnsInHanded {} Try.checked os 11 .any (Rows.setsApartSpec.pre6 enc Try.prog Try.f11 Rows.setsApartRow.domain false) (Rows.setsApartSpec.post enc Try.prog Try.f11 false true false false) := by
  refine returnsInHanded_of_change (C := Try.checked) own started (by kernel_rfl) Try.func11
    (ChangeSpec.witness6 (enc := enc) (C := Try.checked) false ⟨#[], #[.slice none 0 0, .slice none 0 0], []⟩ 8 (by kernel_rfl) (by kernel_rfl) (by kernel_rfl) (by kernel_rfl)) ?_
  intro W base args ds gs before hval0 hW _ _
  have hval : ∀ (j : Nat) t v, Try.f11.params[j]? = some t → args[j]? = some v → Value.okWide Try.prog W .any base t v := hval0
  have hW' := hW
  obtain ⟨p, q, hA0, hV, rfl, _, _⟩ := hW
  have hA : DataW.TrodAll enc Try.prog W 0 (fun _ => true) true Try.f11.params.toList args.toList ds p := hA0
  rw [Try.params11] at hA hval
  obtain ⟨v0, vs0, d0, ds0, p0, q0, hargs, rfl, rfl, h0, r0⟩ := trodAll_cons hA
  obtain ⟨v1, vs1, d1, ds1, p1, q1, rfl, rfl, rfl, h1, r1⟩ := trodAll_cons r0
  obtain ⟨rfl, rfl, rfl⟩ := trodAll_nil r1
  obtain rfl : args = #[v0, v1] := by cases args; simp_all
  obtain ⟨rfl, rfl⟩ := trodVars_none hV
  obtain ⟨x0, c0, w0⟩ := came_ints Try.underlying22 Try.underlying3 cells_ints (hval 0 22 v0 rfl rfl) h0
  obtain ⟨x1, c1, w1⟩ := came_ints Try.underlying22 Try.underlying3 cells_ints (hval 1 22 v1 rfl rfl) h1
  clear hA0 hval0
  refine (law_calls (ars := [.ints .i64 x0, .ints .i64 x1]) (vs := [_, _]) ⟨c0, c1, trivial⟩ (fun nx H us hat hok => core W nx H x0 w0 x1 w1 us hat hok)).mono fun e W' ⟨he, hg⟩ => ?_
  subst he
  exact ⟨_, rfl, law_post laidOut (by kernel_rfl) rfl Try.underlying4 rfl hW' rfl hg⟩

theorem over : Rows.setsApartRow.holds Try.pinned (OpenSpec.ofChange Rows.setsApartSpec) :=
  OpenClaim.holds_of_wide 11 Try.f11 rfl rfl rfl rfl rfl rfl rfl ⟨rfl, rfl, rfl, rfl, rfl⟩ rfl rfl rfl rfl rfl (by kernel_rfl) Try.func11 (by kernel_rfl)
    (of_decide_eq_true (by kernel_rfl)) (by unfold Func.isWrapper; first | (rw [if_pos (by decide +kernel)]; kernel_rfl) | (rw [if_neg (by decide +kernel)]; exact ⟨rfl, rfl⟩))
    (fun os started H enc _ => lifted os started H enc)

theorem proved : Rows.SetsApartSaid := over
#print axioms proved

end Go.Proofs.Ytigincejpjajpaa.setsApart
