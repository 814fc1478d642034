/-
  The law SetsOrders of chapter 2 holds for all numbers: a row counts by what it has, not by its order, nor how often.
  Conditions: none beyond the row's own.
-/
import Derived.Test.YtigincejpjajpaaPutB2
import Derived.Test.YtigincejpjajpaaLaw2
namespace Go.Proofs.Ytigincejpjajpaa.setsOrders
set_option linter.unusedSimpArgs false
set_option linter.unusedVariables false
open Go.Am Go.RowKit Go.ChangeShapes Go.WideShapes Go.ChangeAt
attribute [local irreducible] aop OpsL Trip blockExit OpsD OpsK OpsR

theorem entersKnown : Am.Enters Try.prog 12 := ⟨Try.f12, Try.func12, by kernel_rfl, by kernel_rfl⟩

set_option maxRecDepth 20000 in
/-- The front of a row, and what is behind it. -/
theorem own_partsP {H : Heap} {ob : Option (Nat × Nat)} {v : Value} {l : List (Int × Int)} {k : Nat} (h : OwnPairs H ob v l) (hk : k ≤ l.length) :
    (∃ r, aSlice Try.prog H 24 v none (some (.int .i64 k)) none = some r ∧ PairsAt H r (l.take k)) ∧ ∃ r, aSlice Try.prog H 24 v (some (.int .i64 k)) none none = some r ∧ PairsAt H r (l.drop k) := by
  cases ob with
  | none =>
    obtain ⟨rfl, _, h2⟩ := h
    have hl : l = [] := List.eq_nil_of_length_eq_zero h2
    subst hl
    have hk0 : k = 0 := by simpa using hk
    subst hk0
    exact ⟨⟨_, aSlice_nil (by exact rfl) (sz := 2) (by exact rfl) (.inl ⟨rfl, rfl⟩) (.inr ⟨.i64, rfl⟩), .inl ⟨0, rfl, rfl⟩⟩, ⟨_, aSlice_nil (by exact rfl) (sz := 2) (by exact rfl) (.inr ⟨.i64, rfl⟩) (.inl ⟨rfl, rfl⟩), .inl ⟨0, rfl, rfl⟩⟩⟩
  | some bt =>
    obtain ⟨b, t⟩ := bt
    obtain ⟨rfl, _, rest, ho⟩ := h
    refine ⟨⟨_, aSlice_tagged (el := 27) (sz := 2) (a := ⟨b, 0, some t⟩) (l := 0) (h := k) (by exact rfl) (by exact rfl) ho rfl rfl rfl (.inl ⟨rfl, rfl⟩) (.inr ⟨.i64, rfl⟩) (Nat.zero_le _) hk, ?_⟩, ⟨_, aSlice_tagged (el := 27) (sz := 2) (a := ⟨b, 0, some t⟩) (l := k) (h := l.length) (by exact rfl) (by exact rfl) ho rfl rfl rfl (.inr ⟨.i64, rfl⟩) (.inl ⟨rfl, rfl⟩) hk (Nat.le_refl _), ?_⟩⟩
    · rw [if_neg (by omega)]
      refine .inr ⟨⟨b, 0 + 0 * 2, some t⟩, k - 0, by rw [List.length_take, Nat.min_eq_left hk, Nat.sub_zero], fun i hi => ?_⟩
      rw [List.length_take] at hi
      have := getc_flat (i := i) encP_len ho (by omega)
      rw [List.getElem_take]
      show getc H ⟨b, 0 + 0 * 2 + i * 2, some t⟩ 2 = _
      rw [show 0 + 0 * 2 + i * 2 = 0 + i * 2 by omega]
      exact this
    · refine .inr ⟨⟨b, 0 + k * 2, if k = l.length ∧ 0 < k then none else some t⟩, l.length - k, by rw [List.length_drop], fun i hi => ?_⟩
      rw [List.length_drop] at hi
      rw [if_neg (by omega)]
      have := getc_flat (i := k + i) encP_len ho (by omega)
      rw [List.getElem_drop]
      show getc H ⟨b, 0 + k * 2 + i * 2, some t⟩ 2 = _
      rw [show 0 + k * 2 + i * 2 = 0 + (k + i) * 2 by omega]
      exact this

theorem put_same1 {r r' : List (Int × Int)} {R' : List (List (Int × Int))} {x : Int} {nw : Bool} (he : r' = r) (h : (nw = false ∧ R' = [r] ∧ ∃ k : Nat, x = k ∧ [r][k]? = some r') ∨ (nw = true ∧ r' ∉ [r] ∧ x = [r].length ∧ R' = [r] ++ [r'])) : R' = [r] ∧ x = 0 ∧ nw = false := by
  subst he
  rcases h with ⟨h1, h2, k, h3, h4⟩ | ⟨_, h2, _⟩
  · have hk : k = 0 := by
      match k, h4 with
      | 0, _ => rfl
      | k + 1, h => simp at h
    subst hk
    exact ⟨h2, h3, h1⟩
  · exact absurd (List.mem_singleton.2 rfl) h2

set_option maxRecDepth 20000 in
set_option maxHeartbeats 8000000 in
theorem law (W0 : World) {nx : Nat} {H : Heap} {turn : Int} {nv : Value} {ns : List Int} (hn : IntsAt H nv ns) : ACalls Try.prog W0 10 [nv, .int .i64 turn] nx H fun v _ _ => v = .bool true := by
  obtain ⟨na, nc, rfl⟩ := hn.slice
  refine ACalls.by_trip (fn := Try.f10) (c := _) Try.func10 rfl (fun tm n hn0 htm => ?_)
  have e0 : tm 0 = .slice na ns.length nc := htm 0
  have e1 : tm 1 = .int .i64 turn := htm 1
  clear htm
  replace hn0 : n = 80 := hn0
  refine Trip.ok fun hok => ?_
  replace hok : ∀ id o, H id = some o → id < nx := hok
  repeat (first | (refine OpsL.p (by subst_vars; decide) (by (first | (exact aop_assign (by (first | (simp only [ASt.ev, tmPut, ↓reduceIte, reduceIte, Nat.reduceEqDiff, plain1, *]; rfl) | fail))) | fail)) ?_) | (refine Trip.seq ?_) | (refine Trip.ops ?_) | (refine OpsL.nil ?_; ((repeat (first | refine blockExit_eq ?_ | refine blockExit_ne (by decide) ?_ | refine blockExit_normal ?_ | refine blockExit_ret ?_ | refine blockExit_goto ?_)); first | (change Trip _ _ _ _ _) | dsimp only | skip)) | fail)
  refine OpsL.call0 (by subst_vars; decide) entersKnown ((known_told W0).2 nx H) ?_
  rintro v nx0 H0 ⟨rfl, rfl, rfl⟩
  dsimp only
  repeat (first | (refine OpsL.p (by subst_vars; decide) (by (first | (exact aop_not (by (first | (simp only [ASt.ev, tmPut, ↓reduceIte, reduceIte, Nat.reduceEqDiff, plain1, *]; rfl) | fail))) | fail)) ?_) | (refine OpsL.nil ?_; ((repeat (first | refine blockExit_eq ?_ | refine blockExit_ne (by decide) ?_ | refine blockExit_normal ?_ | refine blockExit_ret ?_ | refine blockExit_goto ?_)); first | (change Trip _ _ _ _ _) | dsimp only | skip)) | fail)
  refine Trip.iteB (b := false) (by (first | (simp only [ASt.ev, tmPut, ↓reduceIte, reduceIte, Nat.reduceEqDiff, decide_true, decide_false, not_true_eq_false, not_false_eq_true, Bool.not_true, Bool.not_false, *]; done) | fail)) (fun h => absurd h (by decide)) (fun _ => ?_)
  repeat (first | (refine Trip.seq ?_) | (refine Trip.ops ?_) | (refine Trip.skip ?_; ((repeat (first | refine blockExit_eq ?_ | refine blockExit_ne (by decide) ?_ | refine blockExit_normal ?_ | refine blockExit_ret ?_ | refine blockExit_goto ?_)); first | (change Trip _ _ _ _ _) | dsimp only | skip)) | fail)
  refine OpsL.call0 (by subst_vars; decide) entersNew (newC W0).ok ?_
  rintro v nx1 H1 ⟨⟨rfl, hn1, x1, tA⟩, k1⟩
  have hn' := hn.ext x1 hok
  obtain ⟨SA, hSA⟩ : ∃ S : Nat → Prop, S = fun i => i = nx0 := ⟨_, rfl⟩
  rw [← hSA] at tA
  have sA : ∀ i, SA i → i < nx1 := fun i hi => by rw [hSA] at hi; omega
  clear hSA x1 hn hok
  repeat (first | (refine OpsL.p (by subst_vars; decide) (by (first | (exact aop_move (by (first | (simp only [ASt.ev, tmPut, ↓reduceIte, reduceIte, Nat.reduceEqDiff, plain1, *]; rfl) | fail))) | (exact aop_assign (by (first | (simp only [ASt.ev, tmPut, ↓reduceIte, reduceIte, Nat.reduceEqDiff, plain1, *]; rfl) | fail))) | fail)) ?_) | (refine Trip.seq ?_) | (refine Trip.ops ?_) | (refine OpsL.nil ?_; ((repeat (first | refine blockExit_eq ?_ | refine blockExit_ne (by decide) ?_ | refine blockExit_normal ?_ | refine blockExit_ret ?_ | refine blockExit_goto ?_)); first | (change Trip _ _ _ _ _) | dsimp only | skip)) | fail)
  refine OpsL.p (by subst_vars; decide) (aop_eqlP (r := false) (by (first | (simp only [ASt.ev, tmPut, ↓reduceIte, reduceIte, Nat.reduceEqDiff, plain1, *]; rfl) | fail)) (by (first | (simp only [ASt.ev, tmPut, ↓reduceIte, reduceIte, Nat.reduceEqDiff, plain1, *]; rfl) | fail)) (by kernel_rfl)) ?_
  repeat (first | (refine OpsL.nil ?_; ((repeat (first | refine blockExit_eq ?_ | refine blockExit_ne (by decide) ?_ | refine blockExit_normal ?_ | refine blockExit_ret ?_ | refine blockExit_goto ?_)); first | (change Trip _ _ _ _ _) | dsimp only | skip)) | fail)
  refine Trip.iteB (b := false) (by (first | (simp only [ASt.ev, tmPut, ↓reduceIte, reduceIte, Nat.reduceEqDiff, decide_true, decide_false, not_true_eq_false, not_false_eq_true, Bool.not_true, Bool.not_false, *]; done) | fail)) (fun h => absurd h (by decide)) (fun _ => ?_)
  repeat (first | (refine OpsL.p (by subst_vars; decide) (by (first | (exact aop_move (by (first | (simp only [ASt.ev, tmPut, ↓reduceIte, reduceIte, Nat.reduceEqDiff, plain1, *]; rfl) | fail))) | fail)) ?_) | (refine Trip.seq ?_) | (refine Trip.ops ?_) | (refine Trip.skip ?_; ((repeat (first | refine blockExit_eq ?_ | refine blockExit_ne (by decide) ?_ | refine blockExit_normal ?_ | refine blockExit_ret ?_ | refine blockExit_goto ?_)); first | (change Trip _ _ _ _ _) | dsimp only | skip)) | fail)
  refine OpsL.call2 (by subst_vars; decide) (by (first | (simp only [ASt.ev, tmPut, ↓reduceIte, reduceIte, Nat.reduceEqDiff, plain1, *]; done) | fail)) (by (first | (simp only [ASt.ev, tmPut, ↓reduceIte, reduceIte, Nat.reduceEqDiff, plain1, *]; rfl) | fail)) entersLPairs (lpairsC W0 (most := 12) hn' (by omega)).ok ?_
  rintro vP nx3 H3 ⟨⟨oP, wP, x3, fP⟩, k3⟩
  have lP : (pairsF ns 12).length ≤ 12 := by unfold pairsF; rw [List.length_map, List.length_take]; omega
  generalize pairsF ns 12 = lp at *
  replace tA := tA.ext x3 sA
  have bP : ∀ b t, oP = some (b, t) → b < nx3 ∧ ¬ SA b := fun b t e => ⟨(fP b t e).2, fun h => absurd (sA b h) (Nat.not_lt.2 (fP b t e).1)⟩
  replace sA : ∀ i, SA i → i < nx3 := fun i hi => Nat.lt_of_lt_of_le (sA i hi) x3.1
  clear fP x3 k1 e0 hn'
  have pP0 := wP.at encP_len
  obtain ⟨pa, pc, rfl⟩ := pP0.slice
  clear pP0
  repeat (first | (refine OpsL.p (by subst_vars; decide) (by (first | (exact aop_move (by (first | (simp only [ASt.ev, tmPut, ↓reduceIte, reduceIte, Nat.reduceEqDiff, plain1, *]; rfl) | fail))) | (exact aop_assign (by (first | (simp only [ASt.ev, tmPut, ↓reduceIte, reduceIte, Nat.reduceEqDiff, plain1, *]; rfl) | fail))) | (exact aop_add (by (first | (simp only [ASt.ev, tmPut, ↓reduceIte, reduceIte, Nat.reduceEqDiff, plain1, *]; rfl) | fail)) (by (first | (simp only [ASt.ev, tmPut, ↓reduceIte, reduceIte, Nat.reduceEqDiff, plain1, *]; rfl) | fail)) (by omega)) | (exact aop_len (by (first | (simp only [ASt.ev, tmPut, ↓reduceIte, reduceIte, Nat.reduceEqDiff, plain1, *]; rfl) | fail)) (by exact rfl)) | fail)) ?_) | (refine Trip.seq ?_) | (refine Trip.ops ?_) | (refine OpsL.nil ?_; ((repeat (first | refine blockExit_eq ?_ | refine blockExit_ne (by decide) ?_ | refine blockExit_normal ?_ | refine blockExit_ret ?_ | refine blockExit_goto ?_)); first | (change Trip _ _ _ _ _) | dsimp only | skip)) | fail)
  refine OpsL.call2 (by subst_vars; decide) (by (first | (simp only [ASt.ev, tmPut, ↓reduceIte, reduceIte, Nat.reduceEqDiff, plain1, *]; rfl) | fail)) (by (first | (simp only [ASt.ev, tmPut, ↓reduceIte, reduceIte, Nat.reduceEqDiff, plain1, *]; rfl) | fail)) entersWithin2 (withinC W0 _ _ (by omega) (by omega)) ?_
  rintro v _ _ ⟨rfl, rfl, rfl⟩
  have q0 := Int.emod_nonneg turn (show ((lp.length : Int) + 1) ≠ 0 by omega)
  have q1 := Int.emod_lt_of_pos turn (show (0 : Int) < (lp.length : Int) + 1 by omega)
  obtain ⟨k, hk⟩ : ∃ k : Nat, turn % ((lp.length : Int) + 1) = k := ⟨(turn % ((lp.length : Int) + 1)).toNat, by omega⟩
  rw [hk] at q0 q1
  rw [hk]
  clear hk e1
  repeat (first | (refine OpsL.p (by subst_vars; decide) (by (first | (exact aop_move (by (first | (simp only [ASt.ev, tmPut, ↓reduceIte, reduceIte, Nat.reduceEqDiff, plain1, *]; rfl) | fail))) | (exact aop_assign (by (first | (simp only [ASt.ev, tmPut, ↓reduceIte, reduceIte, Nat.reduceEqDiff, plain1, *]; rfl) | fail))) | fail)) ?_) | (refine Trip.seq ?_) | (refine Trip.ops ?_) | (refine OpsL.nil ?_; ((repeat (first | refine blockExit_eq ?_ | refine blockExit_ne (by decide) ?_ | refine blockExit_normal ?_ | refine blockExit_ret ?_ | refine blockExit_goto ?_)); first | (change Trip _ _ _ _ _) | dsimp only | skip)) | fail)
  refine OpsL.call2 (by subst_vars; decide) (by (first | (simp only [ASt.ev, tmPut, ↓reduceIte, reduceIte, Nat.reduceEqDiff, plain1, *]; done) | fail)) (by (first | (simp only [ASt.ev, tmPut, ↓reduceIte, reduceIte, Nat.reduceEqDiff, plain1, *]; done) | fail)) entersPut (putC W0 tA sA (wP.at encP_len) (by omega) (by simp)).ok ?_
  rintro v5 nx5 H5 ⟨⟨n5, r5, y5, w5, R5, S5, rfl, s5, m5, hr5, t5, f5, g5, o5⟩, k5⟩
  obtain ⟨rfl, rfl, rfl⟩ : R5 = [r5] ∧ y5 = 0 ∧ w5 = true := by
    rcases o5 with ⟨_, _, k, _, h⟩ | ⟨h1, _, h2, h3⟩
    · simp at h
    · exact ⟨h3, h2, h1⟩
  have w5' : OwnPairs H5 oP (.slice pa lp.length pc) lp := OwnRow.same wP fun b t e => g5 b (bP b t e).1 (bP b t e).2
  have b5 : ∀ b t, oP = some (b, t) → b < nx5 ∧ ¬ S5 b := fun b t e => ⟨by have := (bP b t e).1; omega, fun h => by
    rcases f5 b h with h | ⟨h, _⟩
    · exact (bP b t e).2 h
    · have := (bP b t e).1; omega⟩
  have s5' : ∀ i, S5 i → i < nx5 := fun i hi => by
    rcases f5 i hi with h | ⟨_, h⟩
    · have := sA i h; omega
    · exact h
  clear tA sA f5 g5 o5 k3 n5 wP bP
  obtain ⟨⟨v1, hv1, p1⟩, ⟨v2, hv2, p2⟩⟩ := own_partsP (k := k) w5' (by omega)
  have pP := w5'.at encP_len
  have hpb : ∀ p, pa = some p → p.block < nx5 ∧ ¬ S5 p.block := fun p hp => own_blk (Q := fun i => i < nx5 ∧ ¬ S5 i) w5' b5 p _ _ (by rw [hp])
  repeat (first | (refine OpsL.p (by subst_vars; decide) (by (first | (exact aop_move (by (first | (simp only [ASt.ev, tmPut, ↓reduceIte, reduceIte, Nat.reduceEqDiff, plain1, *]; rfl) | fail))) | (exact aop_assign (by (first | (simp only [ASt.ev, tmPut, ↓reduceIte, reduceIte, Nat.reduceEqDiff, plain1, *]; rfl) | fail))) | (exact aop_extract (by (first | (simp only [ASt.ev, tmPut, ↓reduceIte, reduceIte, Nat.reduceEqDiff, plain1, *]; rfl) | fail)) (by exact rfl)) | fail)) ?_) | (refine Trip.seq ?_) | (refine OpsL.nil ?_; ((repeat (first | refine blockExit_eq ?_ | refine blockExit_ne (by decide) ?_ | refine blockExit_normal ?_ | refine blockExit_ret ?_ | refine blockExit_goto ?_)); first | (change Trip _ _ _ _ _) | dsimp only | skip)) | fail)
  -- the same, otherwise
  refine Trip.mono (Q := fun e st => e = .normal ∧ ∃ (tm' : Nat → Value) (nx6 : Nat) (H6 : Heap) (S6 : Nat → Prop), st = ⟨tm', n, H6, nx6⟩ ∧ TabAt H6 nx0 S6 [r5] ∧ (∀ i, S6 i → i < nx6) ∧ PairsAt H6 (.slice pa lp.length pc) lp ∧ (∀ id o, H6 id = some o → id < nx6) ∧ tm' 5 = tabV nx0 ∧ tm' 6 = .slice pa lp.length pc ∧ tm' 8 = .int .i64 0 ∧ tm' 9 = .bool true ∧ tm' 10 = .int .i64 0 ∧ tm' 11 = .bool false) ?_ ?_
  · refine OpsR.drawn [1, 5, 9, 11, 12] (K := fun _ H1 => ∀ p, pa = some p → H1 p.block = H5 p.block) mixedP (by kernel_rfl) (by kernel_rfl) [0, 2, 3, 4, 6, 7, 8, 10, 1, 5, 9, 11, 12, 13, 14, 15, 16, 17] (by kernel_rfl) (fun _ _ => rfl) ?_
    refine OpsR.one rfl rfl rfl (by kernel_rfl) ?_
    repeat (first | (refine OpsL.p (by subst_vars; decide) (by (first | (exact aop_move (by (first | (simp only [ASt.ev, tmPut, ↓reduceIte, reduceIte, Nat.reduceEqDiff, plain1, *]; rfl) | fail))) | fail)) ?_) | (refine OpsL.nil ?_; ((repeat (first | refine blockExit_eq ?_ | refine blockExit_ne (by decide) ?_ | refine blockExit_normal ?_ | refine blockExit_ret ?_ | refine blockExit_goto ?_)); first | (change Trip _ _ _ _ _) | dsimp only | skip)) | fail)
    refine OpsR.one rfl rfl rfl (by kernel_rfl) ?_
    repeat (first | (refine OpsL.p (by subst_vars; decide) (by (first | (exact aop_move (by (first | (simp only [ASt.ev, tmPut, ↓reduceIte, reduceIte, Nat.reduceEqDiff, plain1, *]; rfl) | fail))) | fail)) ?_) | (refine OpsL.nil ?_; ((repeat (first | refine blockExit_eq ?_ | refine blockExit_ne (by decide) ?_ | refine blockExit_normal ?_ | refine blockExit_ret ?_ | refine blockExit_goto ?_)); first | (change Trip _ _ _ _ _) | dsimp only | skip)) | fail)
    refine OpsR.one rfl rfl rfl (by kernel_rfl) ?_
    repeat (first | (refine OpsL.p (by subst_vars; decide) (by (first | (exact aop_move (by (first | (simp only [ASt.ev, tmPut, ↓reduceIte, reduceIte, Nat.reduceEqDiff, plain1, *]; rfl) | fail))) | fail)) ?_) | (refine OpsL.nil ?_; ((repeat (first | refine blockExit_eq ?_ | refine blockExit_ne (by decide) ?_ | refine blockExit_normal ?_ | refine blockExit_ret ?_ | refine blockExit_goto ?_)); first | (change Trip _ _ _ _ _) | dsimp only | skip)) | fail)
    refine OpsR.sp (v := v2) rfl (by kernel_rfl) (by subst_vars; decide) (fun _ _ => rfl) (fun H2 nx2 hK => aop_slice (r := v2) (a := some (.int .i64 k)) (b := none) (c := none) (by (first | (simp only [ASt.ev, tmPut, ↓reduceIte, reduceIte, Nat.reduceEqDiff, plain1, *]; rfl) | fail)) (by simp only [evOpt, ASt.ev, tmPut, ↓reduceIte, reduceIte, Option.some.injEq, Nat.reduceEqDiff, Option.map_some, *]) rfl rfl (by rw [aSlice_blk hK]; exact hv2)) ?_
    refine OpsR.one rfl rfl rfl (by kernel_rfl) ?_
    repeat (first | (refine OpsL.p (by subst_vars; decide) (by (first | (exact aop_move (by (first | (simp only [ASt.ev, tmPut, ↓reduceIte, reduceIte, Nat.reduceEqDiff, plain1, *]; rfl) | fail))) | fail)) ?_) | (refine OpsL.nil ?_; ((repeat (first | refine blockExit_eq ?_ | refine blockExit_ne (by decide) ?_ | refine blockExit_normal ?_ | refine blockExit_ret ?_ | refine blockExit_goto ?_)); first | (change Trip _ _ _ _ _) | dsimp only | skip)) | fail)
    refine OpsR.one rfl rfl rfl (by kernel_rfl) ?_
    repeat (first | (refine OpsL.p (by subst_vars; decide) (by (first | (exact aop_move (by (first | (simp only [ASt.ev, tmPut, ↓reduceIte, reduceIte, Nat.reduceEqDiff, plain1, *]; rfl) | fail))) | fail)) ?_) | (refine OpsL.nil ?_; ((repeat (first | refine blockExit_eq ?_ | refine blockExit_ne (by decide) ?_ | refine blockExit_normal ?_ | refine blockExit_ret ?_ | refine blockExit_goto ?_)); first | (change Trip _ _ _ _ _) | dsimp only | skip)) | fail)
    refine OpsR.sp (v := v1) rfl (by kernel_rfl) (by subst_vars; decide) (fun _ _ => rfl) (fun H2 nx2 hK => aop_slice (r := v1) (a := none) (b := some (.int .i64 k)) (c := none) (by (first | (simp only [ASt.ev, tmPut, ↓reduceIte, reduceIte, Nat.reduceEqDiff, plain1, *]; rfl) | fail)) rfl (by simp only [evOpt, ASt.ev, tmPut, ↓reduceIte, reduceIte, Option.some.injEq, Nat.reduceEqDiff, Option.map_some, *]) rfl (by rw [aSlice_blk hK]; exact hv1)) ?_
    refine OpsR.one rfl rfl rfl (by kernel_rfl) ?_
    repeat (first | (refine OpsL.p (by subst_vars; decide) (by (first | (exact aop_move (by (first | (simp only [ASt.ev, tmPut, ↓reduceIte, reduceIte, Nat.reduceEqDiff, plain1, *]; rfl) | fail))) | fail)) ?_) | (refine OpsL.nil ?_; ((repeat (first | refine blockExit_eq ?_ | refine blockExit_ne (by decide) ?_ | refine blockExit_normal ?_ | refine blockExit_ret ?_ | refine blockExit_goto ?_)); first | (change Trip _ _ _ _ _) | dsimp only | skip)) | fail)
    refine OpsR.act (by kernel_rfl) (ActStep.ofL rfl rfl ?_)
    refine OpsL.new (by subst_vars; decide) (aop_buildSlice (l := []) (r := (.slice (some ⟨nx5, 0, none⟩) 0 0, .new (.cells [] 2 none false (some 27)))) (by simp only [evParts]) (by kernel_rfl)) ?_
    have x6 : Ext nx5 H5 (nx5 + 1) (H5.put nx5 (.cells [] 2 none false (some 27))) := Ext.newPut
    have k6 := ok_new (o := .cells [] 2 none false (some 27)) k5
    have hE : RowE encP 2 27 (H5.put nx5 (.cells [] 2 none false (some 27))) none (.slice (some ⟨nx5, 0, none⟩) 0 0) ([] : List (Int × Int)) := .inr ⟨rfl, rfl, nx5, 2, false, _, rfl, Heap.put_eq⟩
    generalize (H5.put nx5 (.cells [] 2 none false (some 27))) = G6 at *
    refine OpsL.nil ⟨fun p hp => x6.2 _ (hpb p hp).1, ?_⟩
    refine OpsR.act (by kernel_rfl) (ActStep.ofL rfl rfl ?_)
    refine OpsL.appendE (bytes := 16) (z := [.int .i64 0, .int .i64 0]) encP_len encP_one (by omega) (by subst_vars; decide) hE (RowsAt.ext x6 k5 p2) (by (first | (simp only [ASt.ev, tmPut, ↓reduceIte, reduceIte, Nat.reduceEqDiff, plain1, *]; done) | fail)) (by (first | (simp only [ASt.ev, tmPut, ↓reduceIte, reduceIte, Nat.reduceEqDiff, plain1, *]; done) | fail)) (fun b t h => by cases h) (by exact rfl) (by exact rfl) (by exact rfl) (by exact rfl) (by exact rfl) rfl (by simp; omega) (by omega) ?_
    intro u7 nx7 H7 o7 hA7
    have x7 : Ext nx5 H5 nx7 H7 := x6.trans ⟨hA7.le, fun i hi => hA7.same i hi (fun b t h => by cases h)⟩
    have k7 := hA7.ok (fun b t h => by cases h) k6
    have o7' : ∀ b t, o7 = some (b, t) → nx5 ≤ b ∧ b < nx7 := fun b t h => by
      obtain ⟨i1, i2⟩ := hA7.blk b t h
      rcases i2 with rfl | ⟨t', h'⟩
      · exact ⟨by omega, i1⟩
      · cases h'
    refine OpsL.nil ⟨fun p hp => x7.2 _ (hpb p hp).1, ?_⟩
    refine OpsR.act (by kernel_rfl) (ActStep.ofL rfl rfl ?_)
    refine OpsL.appendE (bytes := 16) (z := [.int .i64 0, .int .i64 0]) encP_len encP_one (by omega) (by subst_vars; decide) hA7.own (RowsAt.ext x7 k5 p1) (by (first | (simp only [ASt.ev, tmPut, ↓reduceIte, reduceIte, Nat.reduceEqDiff, plain1, *]; done) | fail)) (by (first | (simp only [ASt.ev, tmPut, ↓reduceIte, reduceIte, Nat.reduceEqDiff, plain1, *]; done) | fail)) (fun b t h => (o7' b t h).2) (by exact rfl) (by exact rfl) (by exact rfl) (by exact rfl) (by exact rfl) rfl (by simp; omega) (by omega) ?_
    intro u8 nx8 H8 o8 hA8
    have x8 : Ext nx5 H5 nx8 H8 := ⟨by have := x7.1; have := hA8.le; omega, fun i hi => by rw [hA8.same i (by have := x7.1; omega) (fun b t h => by have := o7' b t h; omega), x7.2 i hi]⟩
    have k8 := hA8.ok (fun b t h => (o7' b t h).2) k7
    have o8' : ∀ b t, o8 = some (b, t) → nx5 ≤ b ∧ b < nx8 := fun b t h => by
      obtain ⟨i1, i2⟩ := hA8.blk b t h
      rcases i2 with rfl | ⟨t', h'⟩
      · exact ⟨x7.1, i1⟩
      · exact ⟨(o7' _ _ h').1, i1⟩
    refine OpsL.nil ⟨fun p hp => x8.2 _ (hpb p hp).1, ?_⟩
    refine OpsR.act (by kernel_rfl) (ActStep.ofL rfl rfl ?_)
    refine OpsL.appendE (bytes := 16) (z := [.int .i64 0, .int .i64 0]) encP_len encP_one (by omega) (by subst_vars; decide) hA8.own (RowsAt.ext x8 k5 pP) (by (first | (simp only [ASt.ev, tmPut, ↓reduceIte, reduceIte, Nat.reduceEqDiff, plain1, *]; done) | fail)) (by (first | (simp only [ASt.ev, tmPut, ↓reduceIte, reduceIte, Nat.reduceEqDiff, plain1, *]; done) | fail)) (fun b t h => (o8' b t h).2) (by exact rfl) (by exact rfl) (by exact rfl) (by exact rfl) (by exact rfl) rfl (by simp; omega) (by omega) ?_
    intro u9 nx9 H9 o9 hA9
    have x9 : Ext nx5 H5 nx9 H9 := ⟨by have := x8.1; have := hA9.le; omega, fun i hi => by rw [hA9.same i (by have := x8.1; omega) (fun b t h => by have := o8' b t h; omega), x8.2 i hi]⟩
    have k9 := hA9.ok (fun b t h => (o8' b t h).2) k8
    refine OpsL.nil ⟨fun p hp => x9.2 _ (hpb p hp).1, ?_⟩
    refine OpsR.act (by kernel_rfl) (ActStep.ofL rfl rfl ?_)
    refine OpsL.call2 (by subst_vars; decide) (by (first | (simp only [ASt.ev, tmPut, ↓reduceIte, reduceIte, Nat.reduceEqDiff, plain1, *]; done) | fail)) (by (first | (simp only [ASt.ev, tmPut, ↓reduceIte, reduceIte, Nat.reduceEqDiff, plain1, *]; done) | fail)) entersPut (putC W0 (t5.ext x9 s5') (fun i hi => Nat.lt_of_lt_of_le (s5' i hi) x9.1) (hA9.own.at encP_len) (by simp; omega) (by simp)).ok ?_
    rintro v10 nx10 H10 ⟨⟨n10, r10, y10, w10, R10, S10, rfl, s10, m10, hr10, t10, f10, g10, o10⟩, k10⟩
    have he : r10 = r5 := strict_ext _ _ s10 s5 fun z => by
      rw [m10, m5]
      have hz : z ∈ lp ↔ z ∈ lp.take k ∨ z ∈ lp.drop k := by rw [← List.mem_append, List.take_append_drop]
      simp only [List.nil_append, List.mem_append]
      constructor
      · rintro ((h | h) | h)
        · exact hz.2 (.inr h)
        · exact hz.2 (.inl h)
        · exact h
      · exact .inr
    obtain ⟨rfl, rfl, rfl⟩ := put_same1 he o10
    have hx10 : ∀ p, pa = some p → H10 p.block = H5 p.block := fun p hp => by rw [g10 _ (by have := (hpb p hp).1; have := x9.1; omega) (hpb p hp).2, x9.2 _ (hpb p hp).1]
    refine OpsL.nil ⟨hx10, ?_⟩
    refine OpsR.one rfl rfl rfl (by kernel_rfl) ?_
    repeat (first | (refine OpsL.p (by subst_vars; decide) (by (first | (exact aop_move (by (first | (simp only [ASt.ev, tmPut, ↓reduceIte, reduceIte, Nat.reduceEqDiff, plain1, *]; rfl) | fail))) | fail)) ?_) | (refine OpsL.nil ?_; ((repeat (first | refine blockExit_eq ?_ | refine blockExit_ne (by decide) ?_ | refine blockExit_normal ?_ | refine blockExit_ret ?_ | refine blockExit_goto ?_)); first | (change Trip _ _ _ _ _) | dsimp only | skip)) | fail)
    refine OpsR.one rfl rfl rfl (by kernel_rfl) ?_
    repeat (first | (refine OpsL.p (by subst_vars; decide) (by (first | (exact aop_extract (by (first | (simp only [ASt.ev, tmPut, ↓reduceIte, reduceIte, Nat.reduceEqDiff, plain1, *]; rfl) | fail)) (by exact rfl)) | fail)) ?_) | (refine OpsL.nil ?_; ((repeat (first | refine blockExit_eq ?_ | refine blockExit_ne (by decide) ?_ | refine blockExit_normal ?_ | refine blockExit_ret ?_ | refine blockExit_goto ?_)); first | (change Trip _ _ _ _ _) | dsimp only | skip)) | fail)
    refine OpsR.one rfl rfl rfl (by kernel_rfl) ?_
    repeat (first | (refine OpsL.p (by subst_vars; decide) (by (first | (exact aop_extract (by (first | (simp only [ASt.ev, tmPut, ↓reduceIte, reduceIte, Nat.reduceEqDiff, plain1, *]; rfl) | fail)) (by exact rfl)) | fail)) ?_) | (refine OpsL.nil ?_; ((repeat (first | refine blockExit_eq ?_ | refine blockExit_ne (by decide) ?_ | refine blockExit_normal ?_ | refine blockExit_ret ?_ | refine blockExit_goto ?_)); first | (change Trip _ _ _ _ _) | dsimp only | skip)) | fail)
    refine OpsR.one rfl rfl rfl (by kernel_rfl) ?_
    repeat (first | (refine OpsL.p (by subst_vars; decide) (by (first | (exact aop_assign (by (first | (simp only [ASt.ev, tmPut, ↓reduceIte, reduceIte, Nat.reduceEqDiff, plain1, *]; rfl) | fail))) | fail)) ?_) | (refine OpsL.nil ?_; ((repeat (first | refine blockExit_eq ?_ | refine blockExit_ne (by decide) ?_ | refine blockExit_normal ?_ | refine blockExit_ret ?_ | refine blockExit_goto ?_)); first | (change Trip _ _ _ _ _) | dsimp only | skip)) | fail)
    refine OpsR.one rfl rfl rfl (by kernel_rfl) ?_
    repeat (first | (refine OpsL.p (by subst_vars; decide) (by (first | (exact aop_assign (by (first | (simp only [ASt.ev, tmPut, ↓reduceIte, reduceIte, Nat.reduceEqDiff, plain1, *]; rfl) | fail))) | fail)) ?_) | (refine OpsL.nil ?_; ((repeat (first | refine blockExit_eq ?_ | refine blockExit_ne (by decide) ?_ | refine blockExit_normal ?_ | refine blockExit_ret ?_ | refine blockExit_goto ?_)); first | (change Trip _ _ _ _ _) | dsimp only | skip)) | fail)
    refine OpsR.nil ?_
    exact ⟨rfl, _, nx10, H10, S10, rfl, t10, fun i hi => by
      rcases f10 i hi with h | ⟨_, h⟩
      · have := s5' i h; have := x9.1; omega
      · exact h, PairsAt.same pP fun a n c e => hx10 a (Value.slice.inj e).1, k10, by simp [tmPut, *], by simp [tmPut, *], by simp [tmPut, *], by simp [tmPut, *], by simp [tmPut, *], by simp [tmPut, *]⟩
  · rintro e st ⟨rfl, tm', nx6, H6, S6, rfl, t6, s6, p6, k6, e5, e6, e8, e9, e10, e11⟩
    ((repeat (first | refine blockExit_eq ?_ | refine blockExit_ne (by decide) ?_ | refine blockExit_normal ?_ | refine blockExit_ret ?_ | refine blockExit_goto ?_)); first | (change Trip _ _ _ _ _) | dsimp only | skip)
    clear t5 s5' b5 w5' p1 p2 hv1 hv2 pP hpb k5
    repeat (first | (refine OpsL.p (by subst_vars; decide) (by (first | (exact aop_move (by (first | (simp only [ASt.ev, tmPut, ↓reduceIte, reduceIte, Nat.reduceEqDiff, plain1, *]; rfl) | fail))) | fail)) ?_) | (refine Trip.seq ?_) | (refine Trip.ops ?_) | fail)
    refine OpsL.call1 (by subst_vars; decide) (by (first | (simp only [ASt.ev, tmPut, ↓reduceIte, reduceIte, Nat.reduceEqDiff, plain1, *]; done) | fail)) entersPairsS (pairsC W0 p6 (by omega)).ok ?_
    rintro v7 nx7 H7 ⟨⟨ob7, r7, s7, m7, l7, w7, x7, -⟩, k7⟩
    repeat fail
    refine OpsL.call2 (by subst_vars; decide) (by (first | (simp only [ASt.ev, tmPut, ↓reduceIte, reduceIte, Nat.reduceEqDiff, plain1, *]; done) | fail)) (by (first | (simp only [ASt.ev, tmPut, ↓reduceIte, reduceIte, Nat.reduceEqDiff, plain1, *]; done) | fail)) entersFindP (findPC W0 (t6.ext x7 s6) (fun i hi => Nat.lt_of_lt_of_le (s6 i hi) x7.1) (w7.at encP_len) (by omega)).ok ?_
    rintro v8 nx8 H8 ⟨⟨x8, r8, y8, w8, rfl, s8, m8, -, o8⟩, k8⟩
    have he : r8 = r5 := strict_ext _ _ s8 s5 fun z => by rw [m8, m7, m5]
    obtain ⟨rfl, rfl⟩ : w8 = true ∧ y8 = 0 := by
      subst he
      rcases o8 with ⟨h1, k, h2, h3⟩ | ⟨_, _, h⟩
      · have hk : k = 0 := by
          match k, h3 with
          | 0, _ => rfl
          | k + 1, h => simp at h
        subst hk
        exact ⟨h1, h2⟩
      · exact absurd (List.mem_singleton.2 rfl) h
    have t8 := (t6.ext x7 s6).ext x8 (fun i hi => Nat.lt_of_lt_of_le (s6 i hi) x7.1)
    clear o8 x7 x8 w7 t6
    repeat (first | (refine OpsL.p (by subst_vars; decide) (by (first | (exact aop_move (by (first | (simp only [ASt.ev, tmPut, ↓reduceIte, reduceIte, Nat.reduceEqDiff, plain1, *]; rfl) | fail))) | (exact aop_assign (by (first | (simp only [ASt.ev, tmPut, ↓reduceIte, reduceIte, Nat.reduceEqDiff, plain1, *]; rfl) | fail))) | (exact aop_extract (by (first | (simp only [ASt.ev, tmPut, ↓reduceIte, reduceIte, Nat.reduceEqDiff, plain1, *]; rfl) | fail)) (by exact rfl)) | (exact aop_not (by (first | (simp only [ASt.ev, tmPut, ↓reduceIte, reduceIte, Nat.reduceEqDiff, plain1, *]; rfl) | fail))) | (exact aop_pickT (by (first | (simp only [ASt.ev, tmPut, ↓reduceIte, reduceIte, Nat.reduceEqDiff, decide_true, decide_false, not_true_eq_false, not_false_eq_true, Bool.not_true, Bool.not_false, *]; done) | (simp only [ASt.ev, tmPut, ↓reduceIte, reduceIte, Nat.reduceEqDiff, decide_true, decide_false, not_true_eq_false, not_false_eq_true, Bool.not_true, Bool.not_false, *]; rfl))) (by (first | (simp only [ASt.ev, tmPut, ↓reduceIte, reduceIte, Nat.reduceEqDiff, plain1, *]; rfl) | fail))) | fail)) ?_) | (refine Trip.seq ?_) | (refine Trip.ops ?_) | (refine OpsL.nil ?_; ((repeat (first | refine blockExit_eq ?_ | refine blockExit_ne (by decide) ?_ | refine blockExit_normal ?_ | refine blockExit_ret ?_ | refine blockExit_goto ?_)); first | (change Trip _ _ _ _ _) | dsimp only | skip)) | (refine OpsL.unguard (by exact rfl) (by (first | (simp only [ASt.ev, tmPut, ↓reduceIte, reduceIte, Nat.reduceEqDiff, decide_true, decide_false, not_true_eq_false, not_false_eq_true, Bool.not_true, Bool.not_false, *]; done) | (simp only [ASt.ev, tmPut, ↓reduceIte, reduceIte, Nat.reduceEqDiff, decide_true, decide_false, not_true_eq_false, not_false_eq_true, Bool.not_true, Bool.not_false, *]; rfl))) ?_) | fail)
    refine OpsL.p (by subst_vars; decide) (aop_eqlT (by (first | (simp only [ASt.ev, tmPut, ↓reduceIte, reduceIte, Nat.reduceEqDiff, plain1, *]; rfl) | fail)) (by (first | (simp only [ASt.ev, tmPut, ↓reduceIte, reduceIte, Nat.reduceEqDiff, plain1, *]; rfl) | fail)) rfl) ?_
    repeat (first | (refine OpsL.p (by subst_vars; decide) (by (first | (exact aop_move (by (first | (simp only [ASt.ev, tmPut, ↓reduceIte, reduceIte, Nat.reduceEqDiff, plain1, *]; rfl) | fail))) | (exact aop_pickT (by (first | (simp only [ASt.ev, tmPut, ↓reduceIte, reduceIte, Nat.reduceEqDiff, decide_true, decide_false, not_true_eq_false, not_false_eq_true, Bool.not_true, Bool.not_false, *]; done) | (simp only [ASt.ev, tmPut, ↓reduceIte, reduceIte, Nat.reduceEqDiff, decide_true, decide_false, not_true_eq_false, not_false_eq_true, Bool.not_true, Bool.not_false, *]; rfl))) (by (first | (simp only [ASt.ev, tmPut, ↓reduceIte, reduceIte, Nat.reduceEqDiff, plain1, *]; rfl) | fail))) | fail)) ?_) | (refine OpsL.unguard (by exact rfl) (by (first | (simp only [ASt.ev, tmPut, ↓reduceIte, reduceIte, Nat.reduceEqDiff, decide_true, decide_false, not_true_eq_false, not_false_eq_true, Bool.not_true, Bool.not_false, *]; done) | (simp only [ASt.ev, tmPut, ↓reduceIte, reduceIte, Nat.reduceEqDiff, decide_true, decide_false, not_true_eq_false, not_false_eq_true, Bool.not_true, Bool.not_false, *]; rfl))) ?_) | fail)
    refine OpsL.p (by subst_vars; decide) (aop_eqlT (by (first | (simp only [ASt.ev, tmPut, ↓reduceIte, reduceIte, Nat.reduceEqDiff, plain1, *]; rfl) | fail)) (by (first | (simp only [ASt.ev, tmPut, ↓reduceIte, reduceIte, Nat.reduceEqDiff, plain1, *]; rfl) | fail)) rfl) ?_
    repeat (first | (refine OpsL.p (by subst_vars; decide) (by (first | (exact aop_move (by (first | (simp only [ASt.ev, tmPut, ↓reduceIte, reduceIte, Nat.reduceEqDiff, plain1, *]; rfl) | fail))) | (exact aop_pickT (by (first | (simp only [ASt.ev, tmPut, ↓reduceIte, reduceIte, Nat.reduceEqDiff, decide_true, decide_false, not_true_eq_false, not_false_eq_true, Bool.not_true, Bool.not_false, *]; done) | fail)) (by (first | (simp only [ASt.ev, tmPut, ↓reduceIte, reduceIte, Nat.reduceEqDiff, plain1, *]; rfl) | fail))) | fail)) ?_) | (refine OpsL.unguard (by exact rfl) (by (first | (simp only [ASt.ev, tmPut, ↓reduceIte, reduceIte, Nat.reduceEqDiff, decide_true, decide_false, not_true_eq_false, not_false_eq_true, Bool.not_true, Bool.not_false, *]; done) | fail)) ?_) | fail)
    refine OpsL.p (by subst_vars; decide) (aop_eqlT (by (first | (simp only [ASt.ev, tmPut, ↓reduceIte, reduceIte, Nat.reduceEqDiff, plain1, *]; rfl) | fail)) (by (first | (simp only [ASt.ev, tmPut, ↓reduceIte, reduceIte, Nat.reduceEqDiff, plain1, *]; rfl) | fail)) rfl) ?_
    repeat (first | (refine OpsL.p (by subst_vars; decide) (by (first | (exact aop_move (by (first | (simp only [ASt.ev, tmPut, ↓reduceIte, reduceIte, Nat.reduceEqDiff, plain1, *]; rfl) | fail))) | (exact aop_pickT (by (first | (simp only [ASt.ev, tmPut, ↓reduceIte, reduceIte, Nat.reduceEqDiff, decide_true, decide_false, not_true_eq_false, not_false_eq_true, Bool.not_true, Bool.not_false, *]; done) | fail)) (by (first | (simp only [ASt.ev, tmPut, ↓reduceIte, reduceIte, Nat.reduceEqDiff, plain1, *]; rfl) | fail))) | fail)) ?_) | (refine OpsL.unguard (by exact rfl) (by (first | (simp only [ASt.ev, tmPut, ↓reduceIte, reduceIte, Nat.reduceEqDiff, decide_true, decide_false, not_true_eq_false, not_false_eq_true, Bool.not_true, Bool.not_false, *]; done) | fail)) ?_) | fail)
    refine OpsL.call1 (by subst_vars; decide) (by (first | (simp only [ASt.ev, tmPut, ↓reduceIte, reduceIte, Nat.reduceEqDiff, plain1, *]; done) | fail)) entersLen (lenC W0 t8) ?_
    rintro v nx11 H11 ⟨hv, rfl, rfl⟩
    replace hv : v = .int .i64 1 := hv
    subst hv
    refine OpsL.unguard (by exact rfl) (by (first | (simp only [ASt.ev, tmPut, ↓reduceIte, reduceIte, Nat.reduceEqDiff, decide_true, decide_false, not_true_eq_false, not_false_eq_true, Bool.not_true, Bool.not_false, *]; done) | fail)) ?_
    refine OpsL.p (by subst_vars; decide) (aop_eqlT (by (first | (simp only [ASt.ev, tmPut, ↓reduceIte, reduceIte, Nat.reduceEqDiff, plain1, *]; rfl) | fail)) (by (first | (simp only [ASt.ev, tmPut, ↓reduceIte, reduceIte, Nat.reduceEqDiff, plain1, *]; rfl) | fail)) rfl) ?_
    repeat (first | (refine OpsL.p (by subst_vars; decide) (by (first | (exact aop_assign (by (first | (simp only [ASt.ev, tmPut, ↓reduceIte, reduceIte, Nat.reduceEqDiff, plain1, *]; rfl) | fail))) | (exact aop_pickT (by (first | (simp only [ASt.ev, tmPut, ↓reduceIte, reduceIte, Nat.reduceEqDiff, decide_true, decide_false, not_true_eq_false, not_false_eq_true, Bool.not_true, Bool.not_false, *]; done) | fail)) (by (first | (simp only [ASt.ev, tmPut, ↓reduceIte, reduceIte, Nat.reduceEqDiff, plain1, *]; rfl) | fail))) | fail)) ?_) | (refine Trip.ret ?_; ((repeat (first | refine blockExit_eq ?_ | refine blockExit_ne (by decide) ?_ | refine blockExit_normal ?_ | refine blockExit_ret ?_ | refine blockExit_goto ?_)); first | (change Trip _ _ _ _ _) | dsimp only | skip)) | (refine OpsL.nil ?_; ((repeat (first | refine blockExit_eq ?_ | refine blockExit_ne (by decide) ?_ | refine blockExit_normal ?_ | refine blockExit_ret ?_ | refine blockExit_goto ?_)); first | (change Trip _ _ _ _ _) | dsimp only | skip)) | fail)
    exact ⟨.inr rfl, _, res_tmp, by simp [tmPut]⟩

theorem core (W0 : World) (nx : Nat) (H : Heap) (x0 : List Int) (w0 : ∀ x ∈ x0, (Lit.int .i64 x).wf = true) (a1 : Int) (w1 : (Lit.int .i64 a1).wf = true) (us : List Value)
    (hat : All2 (Arg.at H) [.ints .i64 x0, .plain (.int .i64 a1)] us) (_ : ∀ id o, H id = some o → id < nx) : ACalls Try.prog W0 10 us nx H fun v _ _ => v = .bool true := by
  obtain ⟨u0, us, rfl, h0, hat⟩ := hat.cons
  obtain ⟨u1, us, rfl, h1, hat⟩ := hat.cons
  obtain rfl := hat.nil
  obtain rfl : u1 = _ := h1
  exact law W0 h0.1

theorem own : ownKnob Try.prog.godebug = none := by kernel_rfl
theorem laidOut : laidOutB Try.prog = true := by kernel_rfl
theorem cells_ints : Try.prog.cellsOf 3 = 1 := by kernel_rfl

set_option maxRecDepth 100000 in
theorem lifted (os : Os) (started : os.Started) (H : Type) (enc : TypeId × Value → H) :
    ReturnsInHanded {} Try.checked os 10 .any (Rows.setsOrdersSpec.pre6 enc Try.prog Try.f10 Rows.setsOrdersRow.domain false) (Rows.setsOrdersSpec.post enc Try.prog Try.f10 false true false false) := by
  refine returnsInHanded_of_change (C := Try.checked) own started (by kernel_rfl) Try.func10
    (ChangeSpec.witness6 (enc := enc) (C := Try.checked) false ⟨#[], #[.slice none 0 0, .int .i64 0], []⟩ 8 (by kernel_rfl) (by kernel_rfl) (by kernel_rfl) (by kernel_rfl)) ?_
  intro W base args ds gs before hval0 hW _ _
  have hval : ∀ (j : Nat) t v, Try.f10.params[j]? = some t → args[j]? = some v → Value.okWide Try.prog W .any base t v := hval0
  have hW' := hW
  obtain ⟨p, q, hA0, hV, rfl, _, _⟩ := hW
  have hA : DataW.TrodAll enc Try.prog W 0 (fun _ => true) true Try.f10.params.toList args.toList ds p := hA0
  rw [Try.params10] at hA hval
  obtain ⟨v0, vs0, d0, ds0, p0, q0, hargs, rfl, rfl, h0, r0⟩ := trodAll_cons hA
  obtain ⟨v1, vs1, d1, ds1, p1, q1, rfl, rfl, rfl, h1, r1⟩ := trodAll_cons r0
  obtain ⟨rfl, rfl, rfl⟩ := trodAll_nil r1
  obtain rfl : args = #[v0, v1] := by cases args; simp_all
  obtain ⟨rfl, rfl⟩ := trodVars_none hV
  obtain ⟨x0, c0, w0⟩ := came_ints Try.underlying22 Try.underlying3 cells_ints (hval 0 22 v0 rfl rfl) h0
  obtain ⟨a1, rfl, rfl, rfl, w1⟩ := open_int Try.underlying3 (hval 1 3 v1 rfl rfl) h1
  clear hA0 hval0
  refine (law_calls (ars := [.ints .i64 x0, .plain (.int .i64 a1)]) (vs := [_, _]) ⟨c0, ⟨rfl, rfl⟩, trivial⟩ (fun nx H us hat hok => core W nx H x0 w0 a1 w1 us hat hok)).mono fun e W' ⟨he, hg⟩ => ?_
  subst he
  exact ⟨_, rfl, law_post laidOut (by kernel_rfl) rfl Try.underlying4 rfl hW' rfl hg⟩

theorem over : Rows.setsOrdersRow.holds Try.pinned (OpenSpec.ofChange Rows.setsOrdersSpec) :=
  OpenClaim.holds_of_wide 10 Try.f10 rfl rfl rfl rfl rfl rfl rfl ⟨rfl, rfl, rfl, rfl, rfl⟩ rfl rfl rfl rfl rfl (by kernel_rfl) Try.func10 (by kernel_rfl)
    (of_decide_eq_true (by kernel_rfl)) (by unfold Func.isWrapper; first | (rw [if_pos (by decide +kernel)]; kernel_rfl) | (rw [if_neg (by decide +kernel)]; exact ⟨rfl, rfl⟩))
    (fun os started H enc _ => lifted os started H enc)

theorem proved : Rows.SetsOrdersSaid := over
#print axioms proved

end Go.Proofs.Ytigincejpjajpaa.setsOrders
