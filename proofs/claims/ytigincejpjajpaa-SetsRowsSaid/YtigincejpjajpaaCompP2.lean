/-
  slices.Compact at pairs.
-/
import Derived.Test.YtigincejpjajpaaConcP2
import Derived.Test.YtigincejpjajpaaDedup2
namespace Go.Proofs.Ytigincejpjajpaa
set_option linter.unusedSimpArgs false
set_option linter.unusedVariables false
open Go.RowKit Go.Am
attribute [local irreducible] aop OpsL Trip blockExit OpsD OpsK OpsR

theorem entersCompP : Am.Enters Try.prog 53 := ⟨Try.f53, Try.func53, by kernel_rfl, by kernel_rfl⟩
theorem mixedP : Try.prog.follows .mixedOrders = true := by kernel_rfl

theorem pairEq (H : Heap) (x y : Int × Int) (r : Bool) (hr : decide (x = y) = r) : aEq Try.prog H 60 27 (.agg (encP x).toArray) (.agg (encP y).toArray) = some r := by
  have h1 : Try.prog.stoodInHeld 27 = false := by kernel_rfl
  obtain ⟨a, b⟩ := x
  obtain ⟨c, d⟩ := y
  have key : aEq Try.prog H 60 27 (.agg (encP (a, b)).toArray) (.agg (encP (c, d)).toArray) = some ((a == c) && (b == d)) := by
    cases h : (a == c) <;> cases h2 : (b == d) <;> simp [encP, aEq, eqFields, getPart, isAggD, h, h2, h1, Try.underlying27, Try.underlying3]
  rw [key, ← hr]
  congr 1
  rw [Bool.eq_iff_iff]
  simp

set_option maxRecDepth 20000 in
set_option maxHeartbeats 4000000 in
theorem compPC (W0 : World) {nx : Nat} {H : Heap} {ob : Option (Nat × Nat)} {v : Value} {l : List (Int × Int)} (h : OwnPairs H ob v l) (hl : l.length ≤ 100000) :
    ACalls Try.prog W0 53 [v] nx H fun v' nx' H' => nx' = nx ∧ OwnPairs H' ob v' (dedF l) ∧ ∀ i, (∀ b t, ob = some (b, t) → i ≠ b) → H' i = H i := by
  have hrow := h.at encP_len
  obtain ⟨va, vc, rfl⟩ := hrow.slice
  refine ACalls.by_trip (fn := Try.f53) (c := _) Try.func53 rfl (fun tm n hn0 htm => ?_)
  have e0 : tm 0 = .slice va l.length vc := htm 0
  clear htm
  replace hn0 : n = 61 := hn0
  by_cases hsh : l.length < 2
  · repeat (first | (refine OpsL.p (by subst_vars; decide) (by (first | (exact aop_move (by (first | (simp only [ASt.ev, tmPut, ↓reduceIte, reduceIte, Nat.reduceEqDiff, plain1, *]; rfl) | fail))) | (exact aop_assign (by (first | (simp only [ASt.ev, tmPut, ↓reduceIte, reduceIte, Nat.reduceEqDiff, plain1, *]; rfl) | fail))) | (exact aop_len (by (first | (simp only [ASt.ev, tmPut, ↓reduceIte, reduceIte, Nat.reduceEqDiff, plain1, *]; rfl) | fail)) (by exact rfl)) | fail)) ?_) | (refine Trip.seq ?_) | (refine Trip.ops ?_) | (refine OpsL.nil ?_; ((repeat (first | refine blockExit_eq ?_ | refine blockExit_ne (by decide) ?_ | refine blockExit_normal ?_ | refine blockExit_ret ?_ | refine blockExit_goto ?_)); first | (change Trip _ _ _ _ _) | dsimp only | skip)) | fail)
    refine OpsL.p (by subst_vars; decide) (aop_lssT (by (first | (simp only [ASt.ev, tmPut, ↓reduceIte, reduceIte, Nat.reduceEqDiff, plain1, *]; rfl) | fail)) (by (first | (simp only [ASt.ev, tmPut, ↓reduceIte, reduceIte, Nat.reduceEqDiff, plain1, *]; rfl) | fail)) (by omega)) ?_
    repeat (first | (refine OpsL.nil ?_; ((repeat (first | refine blockExit_eq ?_ | refine blockExit_ne (by decide) ?_ | refine blockExit_normal ?_ | refine blockExit_ret ?_ | refine blockExit_goto ?_)); first | (change Trip _ _ _ _ _) | dsimp only | skip)) | fail)
    refine Trip.iteB (b := true) (by (first | (simp only [ASt.ev, tmPut, ↓reduceIte, reduceIte, Nat.reduceEqDiff, decide_true, decide_false, not_true_eq_false, not_false_eq_true, Bool.not_true, Bool.not_false, *]; done) | fail)) (fun _ => ?_) (fun h => absurd h (by decide))
    repeat (first | (refine OpsL.p (by subst_vars; decide) (by (first | (exact aop_move (by (first | (simp only [ASt.ev, tmPut, ↓reduceIte, reduceIte, Nat.reduceEqDiff, plain1, *]; rfl) | fail))) | (exact aop_assign (by (first | (simp only [ASt.ev, tmPut, ↓reduceIte, reduceIte, Nat.reduceEqDiff, plain1, *]; rfl) | fail))) | fail)) ?_) | (refine Trip.seq ?_) | (refine Trip.ops ?_) | (refine Trip.ret ?_; ((repeat (first | refine blockExit_eq ?_ | refine blockExit_ne (by decide) ?_ | refine blockExit_normal ?_ | refine blockExit_ret ?_ | refine blockExit_goto ?_)); first | (change Trip _ _ _ _ _) | dsimp only | skip)) | (refine OpsL.nil ?_; ((repeat (first | refine blockExit_eq ?_ | refine blockExit_ne (by decide) ?_ | refine blockExit_normal ?_ | refine blockExit_ret ?_ | refine blockExit_goto ?_)); first | (change Trip _ _ _ _ _) | dsimp only | skip)) | fail)
    exact ⟨.inr rfl, _, res_tmp, rfl, by rw [dedF_one l (by omega)]; simp [tmPut, *], fun _ _ => rfl⟩
  · obtain ⟨b, t, rfl⟩ : ∃ b t, ob = some (b, t) := by
      cases ob with
      | none => obtain ⟨_, _, h2⟩ := h; omega
      | some bt => exact ⟨_, _, rfl⟩
    obtain ⟨hv, _, rest, hH⟩ := h
    obtain ⟨rfl, _, rfl⟩ := Value.slice.inj hv
    have hS : ∀ (G : Heap) (A rest : List Value), G b = some (.cells (A ++ rest) 2 (some t) false (some 27)) → ∀ k, k < l.length → aSlice Try.prog G 24 (.slice (some ⟨b, 0, some t⟩) l.length l.length) (some (.int .i64 k)) none none = some (.slice (some ⟨b, 0 + k * 2, some t⟩) (l.length - k) (l.length - k)) := fun G A rest hG k hk => by
      have := aSlice_tagged (P := Try.prog) (H := G) (t := 24) (el := 27) (sz := 2) (a := ⟨b, 0, some t⟩) (len := l.length) (cap := l.length) (l := k) (h := l.length) (tg := t) (lo := some (.int .i64 k)) (hi := none) (by exact rfl) (by exact rfl) hG rfl rfl rfl (.inr ⟨.i64, rfl⟩) (.inl ⟨rfl, rfl⟩) (by omega) (Nat.le_refl _)
      rw [if_neg (by omega)] at this
      exact this
    have hS2 : ∀ (G : Heap) (A rest : List Value), G b = some (.cells (A ++ rest) 2 (some t) false (some 27)) → ∀ k, k ≤ l.length → aSlice Try.prog G 24 (.slice (some ⟨b, 0, some t⟩) l.length l.length) none (some (.int .i64 k)) none = some (.slice (some ⟨b, 0, some t⟩) k k) := fun G A rest hG k hk => by
      have := aSlice_tagged (P := Try.prog) (H := G) (t := 24) (el := 27) (sz := 2) (a := ⟨b, 0, some t⟩) (len := l.length) (cap := l.length) (l := 0) (h := k) (tg := t) (lo := none) (hi := some (.int .i64 k)) (by exact rfl) (by exact rfl) hG rfl rfl rfl (.inl ⟨rfl, rfl⟩) (.inr ⟨.i64, rfl⟩) (Nat.zero_le _) hk
      simpa using this
    repeat (first | (refine OpsL.p (by subst_vars; decide) (by (first | (exact aop_move (by (first | (simp only [ASt.ev, tmPut, ↓reduceIte, reduceIte, Nat.reduceEqDiff, plain1, *]; rfl) | fail))) | (exact aop_assign (by (first | (simp only [ASt.ev, tmPut, ↓reduceIte, reduceIte, Nat.reduceEqDiff, plain1, *]; rfl) | fail))) | (exact aop_len (by (first | (simp only [ASt.ev, tmPut, ↓reduceIte, reduceIte, Nat.reduceEqDiff, plain1, *]; rfl) | fail)) (by exact rfl)) | fail)) ?_) | (refine Trip.seq ?_) | (refine Trip.ops ?_) | (refine OpsL.nil ?_; ((repeat (first | refine blockExit_eq ?_ | refine blockExit_ne (by decide) ?_ | refine blockExit_normal ?_ | refine blockExit_ret ?_ | refine blockExit_goto ?_)); first | (change Trip _ _ _ _ _) | dsimp only | skip)) | fail)
    refine OpsL.p (by subst_vars; decide) (aop_lssF (by (first | (simp only [ASt.ev, tmPut, ↓reduceIte, reduceIte, Nat.reduceEqDiff, plain1, *]; rfl) | fail)) (by (first | (simp only [ASt.ev, tmPut, ↓reduceIte, reduceIte, Nat.reduceEqDiff, plain1, *]; rfl) | fail)) (by omega)) ?_
    repeat (first | (refine OpsL.nil ?_; ((repeat (first | refine blockExit_eq ?_ | refine blockExit_ne (by decide) ?_ | refine blockExit_normal ?_ | refine blockExit_ret ?_ | refine blockExit_goto ?_)); first | (change Trip _ _ _ _ _) | dsimp only | skip)) | fail)
    refine Trip.iteB (b := false) (by (first | (simp only [ASt.ev, tmPut, ↓reduceIte, reduceIte, Nat.reduceEqDiff, decide_true, decide_false, not_true_eq_false, not_false_eq_true, Bool.not_true, Bool.not_false, *]; done) | fail)) (fun h => absurd h (by decide)) (fun _ => ?_)
    repeat (first | (refine OpsL.p (by subst_vars; decide) (by (first | (exact aop_assign (by (first | (simp only [ASt.ev, tmPut, ↓reduceIte, reduceIte, Nat.reduceEqDiff, plain1, *]; rfl) | fail))) | fail)) ?_) | (refine Trip.seq ?_) | (refine Trip.ops ?_) | (refine Trip.block ?_) | (refine Trip.skip ?_; ((repeat (first | refine blockExit_eq ?_ | refine blockExit_ne (by decide) ?_ | refine blockExit_normal ?_ | refine blockExit_ret ?_ | refine blockExit_goto ?_)); first | (change Trip _ _ _ _ _) | dsimp only | skip)) | (refine OpsL.nil ?_; ((repeat (first | refine blockExit_eq ?_ | refine blockExit_ne (by decide) ?_ | refine blockExit_normal ?_ | refine blockExit_ret ?_ | refine blockExit_goto ?_)); first | (change Trip _ _ _ _ _) | dsimp only | skip)) | fail)
    refine Trip.inv (fun (k : Nat) st => ∃ (tm : Nat → Value), st = ⟨tm, n, H, nx⟩ ∧ tm 0 = .slice (some ⟨b, 0, some t⟩) l.length l.length ∧ tm 3 = .int .i64 k ∧ 1 ≤ k ∧ k ≤ l.length ∧ ∀ i (h : i < l.length), 0 < i → i < k → l[i - 1] ≠ l[i]) (fun k => l.length - k) 1 ?_ ?_
    · exact ⟨_, rfl, by simp [tmPut, *], by simp [tmPut], by omega, by omega, fun i h h0 h1 => by omega⟩
    · clear e0
      rintro k st ⟨tm, rfl, e0, e3, hk1, hk2, hne⟩
      by_cases hlt : k < l.length
      · repeat (first | (refine OpsL.p (by subst_vars; decide) (by (first | (exact aop_move (by (first | (simp only [ASt.ev, tmPut, ↓reduceIte, reduceIte, Nat.reduceEqDiff, plain1, *]; rfl) | fail))) | (exact aop_len (by (first | (simp only [ASt.ev, tmPut, ↓reduceIte, reduceIte, Nat.reduceEqDiff, plain1, *]; rfl) | fail)) (by exact rfl)) | fail)) ?_) | (refine Trip.seq ?_) | (refine Trip.ops ?_) | fail)
        refine OpsL.p (by subst_vars; decide) (aop_lssT (by (first | (simp only [ASt.ev, tmPut, ↓reduceIte, reduceIte, Nat.reduceEqDiff, plain1, *]; rfl) | fail)) (by (first | (simp only [ASt.ev, tmPut, ↓reduceIte, reduceIte, Nat.reduceEqDiff, plain1, *]; rfl) | fail)) (by omega)) ?_
        repeat (first | (refine OpsL.nil ?_; ((repeat (first | refine blockExit_eq ?_ | refine blockExit_ne (by decide) ?_ | refine blockExit_normal ?_ | refine blockExit_ret ?_ | refine blockExit_goto ?_)); first | (change Trip _ _ _ _ _) | dsimp only | skip)) | fail)
        refine Trip.iteB (b := true) (by (first | (simp only [ASt.ev, tmPut, ↓reduceIte, reduceIte, Nat.reduceEqDiff, decide_true, decide_false, not_true_eq_false, not_false_eq_true, Bool.not_true, Bool.not_false, *]; done) | fail)) (fun _ => ?_) (fun h => absurd h (by decide))
        repeat (first | (refine Trip.seq ?_) | (refine Trip.block ?_) | (refine Trip.skip ?_; ((repeat (first | refine blockExit_eq ?_ | refine blockExit_ne (by decide) ?_ | refine blockExit_normal ?_ | refine blockExit_ret ?_ | refine blockExit_goto ?_)); first | (change Trip _ _ _ _ _) | dsimp only | skip)) | fail)
        have g1 := getc_flat encP_len hH hlt
        have g2 := getc_flat encP_len hH (show k - 1 < l.length by omega)
        refine Trip.mono (Q := fun e st => e = .normal ∧ ∃ (tm' : Nat → Value), st = ⟨tm', n, H, nx⟩ ∧ tm' 25 = .bool (decide (l[k] = l[k - 1])) ∧ tm' 0 = .slice (some ⟨b, 0, some t⟩) l.length l.length ∧ tm' 3 = .int .i64 k) ?_ ?_
        · refine OpsK.drawn (K := fun _ _ => True) mixedP (by kernel_rfl) (by kernel_rfl) trivial ?_
          refine OpsK.one rfl (by kernel_rfl) ?_
          repeat (first | (refine OpsL.p (by subst_vars; decide) (by (first | (exact aop_move (by (first | (simp only [ASt.ev, tmPut, ↓reduceIte, reduceIte, Nat.reduceEqDiff, plain1, *]; rfl) | fail))) | fail)) ?_) | (refine OpsL.nil ?_; ((repeat (first | refine blockExit_eq ?_ | refine blockExit_ne (by decide) ?_ | refine blockExit_normal ?_ | refine blockExit_ret ?_ | refine blockExit_goto ?_)); first | (change Trip _ _ _ _ _) | dsimp only | skip)) | fail)
          refine OpsK.one rfl (by kernel_rfl) ?_
          repeat (first | (refine OpsL.p (by subst_vars; decide) (by (first | (exact aop_move (by (first | (simp only [ASt.ev, tmPut, ↓reduceIte, reduceIte, Nat.reduceEqDiff, plain1, *]; rfl) | fail))) | fail)) ?_) | (refine OpsL.nil ?_; ((repeat (first | refine blockExit_eq ?_ | refine blockExit_ne (by decide) ?_ | refine blockExit_normal ?_ | refine blockExit_ret ?_ | refine blockExit_goto ?_)); first | (change Trip _ _ _ _ _) | dsimp only | skip)) | fail)
          refine OpsK.one rfl (by kernel_rfl) ?_
          repeat (first | (refine OpsL.p (by subst_vars; decide) (by (first | (exact aop_indexAddr (by (first | (simp only [ASt.ev, tmPut, ↓reduceIte, reduceIte, Nat.reduceEqDiff, plain1, *]; rfl) | fail)) (by (first | (simp only [ASt.ev, tmPut, ↓reduceIte, reduceIte, Nat.reduceEqDiff, plain1, *]; rfl) | fail)) (by exact rfl) (by exact rfl) (by omega) (by omega)) | fail)) ?_) | (refine OpsL.nil ?_; ((repeat (first | refine blockExit_eq ?_ | refine blockExit_ne (by decide) ?_ | refine blockExit_normal ?_ | refine blockExit_ret ?_ | refine blockExit_goto ?_)); first | (change Trip _ _ _ _ _) | dsimp only | skip)) | fail)
          refine OpsK.one rfl (by kernel_rfl) ?_
          refine OpsL.p (by subst_vars; decide) (aop_loadAgg (k := 2) (vs := encP l[k]) (by (first | (simp only [ASt.ev, tmPut, ↓reduceIte, reduceIte, Nat.reduceEqDiff, plain1, *]; rfl) | fail)) (by exact rfl) rfl (by exact rfl) (by show getc H ⟨b, 0 + (k : Int).toNat * 2, some t⟩ 2 = _; rw [Int.toNat_natCast]; exact g1)) ?_
          repeat (first | (refine OpsL.nil ?_; ((repeat (first | refine blockExit_eq ?_ | refine blockExit_ne (by decide) ?_ | refine blockExit_normal ?_ | refine blockExit_ret ?_ | refine blockExit_goto ?_)); first | (change Trip _ _ _ _ _) | dsimp only | skip)) | fail)
          refine OpsK.one rfl (by kernel_rfl) ?_
          repeat (first | (refine OpsL.p (by subst_vars; decide) (by (first | (exact aop_move (by (first | (simp only [ASt.ev, tmPut, ↓reduceIte, reduceIte, Nat.reduceEqDiff, plain1, *]; rfl) | fail))) | fail)) ?_) | (refine OpsL.nil ?_; ((repeat (first | refine blockExit_eq ?_ | refine blockExit_ne (by decide) ?_ | refine blockExit_normal ?_ | refine blockExit_ret ?_ | refine blockExit_goto ?_)); first | (change Trip _ _ _ _ _) | dsimp only | skip)) | fail)
          refine OpsK.one rfl (by kernel_rfl) ?_
          repeat (first | (refine OpsL.p (by subst_vars; decide) (by (first | (exact aop_move (by (first | (simp only [ASt.ev, tmPut, ↓reduceIte, reduceIte, Nat.reduceEqDiff, plain1, *]; rfl) | fail))) | fail)) ?_) | (refine OpsL.nil ?_; ((repeat (first | refine blockExit_eq ?_ | refine blockExit_ne (by decide) ?_ | refine blockExit_normal ?_ | refine blockExit_ret ?_ | refine blockExit_goto ?_)); first | (change Trip _ _ _ _ _) | dsimp only | skip)) | fail)
          refine OpsK.one rfl (by kernel_rfl) ?_
          repeat (first | (refine OpsL.p (by subst_vars; decide) (by (first | (exact aop_sub (by (first | (simp only [ASt.ev, tmPut, ↓reduceIte, reduceIte, Nat.reduceEqDiff, plain1, *]; rfl) | fail)) (by (first | (simp only [ASt.ev, tmPut, ↓reduceIte, reduceIte, Nat.reduceEqDiff, plain1, *]; rfl) | fail)) (by omega)) | fail)) ?_) | (refine OpsL.nil ?_; ((repeat (first | refine blockExit_eq ?_ | refine blockExit_ne (by decide) ?_ | refine blockExit_normal ?_ | refine blockExit_ret ?_ | refine blockExit_goto ?_)); first | (change Trip _ _ _ _ _) | dsimp only | skip)) | fail)
          refine OpsK.one rfl (by kernel_rfl) ?_
          repeat (first | (refine OpsL.p (by subst_vars; decide) (by (first | (exact aop_indexAddr (by (first | (simp only [ASt.ev, tmPut, ↓reduceIte, reduceIte, Nat.reduceEqDiff, plain1, *]; rfl) | fail)) (by (first | (simp only [ASt.ev, tmPut, ↓reduceIte, reduceIte, Nat.reduceEqDiff, plain1, *]; rfl) | fail)) (by exact rfl) (by exact rfl) (by omega) (by omega)) | fail)) ?_) | (refine OpsL.nil ?_; ((repeat (first | refine blockExit_eq ?_ | refine blockExit_ne (by decide) ?_ | refine blockExit_normal ?_ | refine blockExit_ret ?_ | refine blockExit_goto ?_)); first | (change Trip _ _ _ _ _) | dsimp only | skip)) | fail)
          refine OpsK.one rfl (by kernel_rfl) ?_
          refine OpsL.p (by subst_vars; decide) (aop_loadAgg (k := 2) (vs := encP l[k - 1]) (by (first | (simp only [ASt.ev, tmPut, ↓reduceIte, reduceIte, Nat.reduceEqDiff, plain1, *]; rfl) | fail)) (by exact rfl) rfl (by exact rfl) (by show getc H ⟨b, 0 + ((k : Int) - 1).toNat * 2, some t⟩ 2 = _; rw [show ((k : Int) - 1).toNat = k - 1 by omega]; exact g2)) ?_
          repeat (first | (refine OpsL.nil ?_; ((repeat (first | refine blockExit_eq ?_ | refine blockExit_ne (by decide) ?_ | refine blockExit_normal ?_ | refine blockExit_ret ?_ | refine blockExit_goto ?_)); first | (change Trip _ _ _ _ _) | dsimp only | skip)) | fail)
          refine OpsK.one rfl (by kernel_rfl) ?_
          refine OpsL.p (by subst_vars; decide) (aop_eqlA (r := decide (l[k] = l[k - 1])) (by (first | (simp only [ASt.ev, tmPut, ↓reduceIte, reduceIte, Nat.reduceEqDiff, plain1, *]; done) | fail)) (by (first | (simp only [ASt.ev, tmPut, ↓reduceIte, reduceIte, Nat.reduceEqDiff, plain1, *]; done) | fail)) (by kernel_rfl) (pairEq _ _ _ _ rfl)) ?_
          repeat (first | (refine OpsL.nil ?_; ((repeat (first | refine blockExit_eq ?_ | refine blockExit_ne (by decide) ?_ | refine blockExit_normal ?_ | refine blockExit_ret ?_ | refine blockExit_goto ?_)); first | (change Trip _ _ _ _ _) | dsimp only | skip)) | fail)
          refine OpsK.nil ?_
          exact ⟨rfl, _, rfl, by simp [tmPut], by simp [tmPut, *], by simp [tmPut, *]⟩
        · rintro e st ⟨rfl, tm', rfl, e25, e0, e3⟩
          dsimp only
          clear g1 g2
          by_cases heq : l[k] = l[k - 1]
          · rw [decide_eq_true heq] at e25
            repeat fail
            refine Trip.iteB (b := true) (by (first | (simp only [ASt.ev, tmPut, ↓reduceIte, reduceIte, Nat.reduceEqDiff, decide_true, decide_false, not_true_eq_false, not_false_eq_true, Bool.not_true, Bool.not_false, *]; done) | fail)) (fun _ => ?_) (fun h => absurd h (by decide))
            repeat (first | (refine OpsL.p (by subst_vars; decide) (by (first | (exact aop_move (by (first | (simp only [ASt.ev, tmPut, ↓reduceIte, reduceIte, Nat.reduceEqDiff, plain1, *]; rfl) | fail))) | fail)) ?_) | (refine Trip.seq ?_) | (refine Trip.ops ?_) | fail)
            refine OpsL.p (by subst_vars; decide) (aop_slice (a := some (.int .i64 k)) (b := none) (c := none) (by (first | (simp only [ASt.ev, tmPut, ↓reduceIte, reduceIte, Nat.reduceEqDiff, plain1, *]; done) | fail)) (by simp only [evOpt, ASt.ev, tmPut, ↓reduceIte, reduceIte, Option.some.injEq, Nat.reduceEqDiff, Option.map_some, *]) rfl rfl (hS H _ _ hH k hlt)) ?_
            repeat (first | (refine OpsL.p (by subst_vars; decide) (by (first | (exact aop_assign (by (first | (simp only [ASt.ev, tmPut, ↓reduceIte, reduceIte, Nat.reduceEqDiff, plain1, *]; rfl) | fail))) | fail)) ?_) | (refine Trip.seq ?_) | (refine Trip.ops ?_) | (refine Trip.block ?_) | (refine OpsL.nil ?_; ((repeat (first | refine blockExit_eq ?_ | refine blockExit_ne (by decide) ?_ | refine blockExit_normal ?_ | refine blockExit_ret ?_ | refine blockExit_goto ?_)); first | (change Trip _ _ _ _ _) | dsimp only | skip)) | fail)
            have hd0 : dedF (l.take (k + 1)) = l.take k := by
              rw [dedF_take l (by omega) hlt, if_pos heq.symm]
              exact dedF_same l k (by omega) (fun i hi a c => hne i hi a c)
            refine Trip.inv (fun (k2 : Nat) st => ∃ (tm : Nat → Value) (H' : Heap) (A : List (Int × Int)) (rest : List Value) (kk : Nat), st = ⟨tm, n, H', nx⟩ ∧ H' b = some (.cells (A.flatMap encP ++ rest) 2 (some t) false (some 27)) ∧ A.length = l.length ∧ (∀ i, i ≠ b → H' i = H i) ∧ tm 0 = .slice (some ⟨b, 0, some t⟩) l.length l.length ∧ tm 3 = .int .i64 kk ∧ tm 4 = .slice (some ⟨b, 0 + k * 2, some t⟩) (l.length - k) (l.length - k) ∧ tm 5 = .int .i64 k2 ∧
              1 ≤ kk ∧ kk ≤ k + k2 - 1 ∧ 1 ≤ k2 ∧ k2 ≤ l.length - k ∧ A.take kk = dedF (l.take (k + k2)) ∧ A.drop (k + k2 - 1) = l.drop (k + k2 - 1)) (fun k2 => l.length - k - k2) 1 ?_ ?_
            · exact ⟨_, H, l, rest, k, rfl, hH, rfl, fun _ _ => rfl, by simp [tmPut, *], by simp [tmPut, *], by simp [tmPut, *], by simp [tmPut, *], by omega, by omega, by omega, by omega, hd0.symm, rfl⟩
            · clear e0 e3 e25
              rintro k2 st ⟨tm, H', A, rest', kk, rfl, hG, hAl, hsame, e0, e3, e4, e5, k1, k3, k4, k5, hta, hda⟩
              by_cases hlt2 : k + k2 < l.length
              · have hA1 : A[k + k2]'(by omega) = l[k + k2] := by
                  have : (A.drop (k + k2 - 1))[1]? = (l.drop (k + k2 - 1))[1]? := by rw [hda]
                  rw [List.getElem?_drop, List.getElem?_drop, show k + k2 - 1 + 1 = k + k2 by omega, List.getElem?_eq_getElem (by omega), List.getElem?_eq_getElem hlt2] at this
                  exact Option.some.inj this
                have hA2 : A[k + k2 - 1]'(by omega) = l[k + k2 - 1] := by
                  have : (A.drop (k + k2 - 1))[0]? = (l.drop (k + k2 - 1))[0]? := by rw [hda]
                  rw [List.getElem?_drop, List.getElem?_drop, Nat.add_zero, List.getElem?_eq_getElem (by omega), List.getElem?_eq_getElem (by omega)] at this
                  exact Option.some.inj this
                have hstep := dedF_take l (m := k + k2) (by omega) hlt2
                have hdn : A.drop (k + (k2 + 1) - 1) = l.drop (k + (k2 + 1) - 1) := by
                  have := congrArg (List.drop 1) hda
                  rw [List.drop_drop, List.drop_drop] at this
                  rw [show k + (k2 + 1) - 1 = k + k2 - 1 + 1 by omega]; exact this
                have g1 := getc_flat encP_len hG (show k + k2 < A.length by omega)
                have g2 := getc_flat encP_len hG (show k + k2 - 1 < A.length by omega)
                rw [hA1] at g1
                rw [hA2] at g2
                replace g1 : getc H' ⟨b, 0 + k * 2 + (k2 : Int).toNat * 2, some t⟩ 2 = some (encP l[k + k2]) := by
                  rw [Int.toNat_natCast, show 0 + k * 2 + k2 * 2 = 0 + (k + k2) * 2 by omega]; exact g1
                replace g2 : getc H' ⟨b, 0 + k * 2 + ((k2 : Int) - 1).toNat * 2, some t⟩ 2 = some (encP l[k + k2 - 1]) := by
                  rw [show 0 + k * 2 + ((k2 : Int) - 1).toNat * 2 = 0 + (k + k2 - 1) * 2 by omega]; exact g2
                repeat (first | (refine OpsL.p (by subst_vars; decide) (by (first | (exact aop_move (by (first | (simp only [ASt.ev, tmPut, ↓reduceIte, reduceIte, Nat.reduceEqDiff, plain1, *]; rfl) | fail))) | (exact aop_len (by (first | (simp only [ASt.ev, tmPut, ↓reduceIte, reduceIte, Nat.reduceEqDiff, plain1, *]; rfl) | fail)) (by exact rfl)) | fail)) ?_) | (refine Trip.seq ?_) | (refine Trip.ops ?_) | fail)
                refine OpsL.p (by subst_vars; decide) (aop_lssT (by (first | (simp only [ASt.ev, tmPut, ↓reduceIte, reduceIte, Nat.reduceEqDiff, plain1, *]; rfl) | fail)) (by (first | (simp only [ASt.ev, tmPut, ↓reduceIte, reduceIte, Nat.reduceEqDiff, plain1, *]; rfl) | fail)) (by omega)) ?_
                repeat (first | (refine OpsL.nil ?_; ((repeat (first | refine blockExit_eq ?_ | refine blockExit_ne (by decide) ?_ | refine blockExit_normal ?_ | refine blockExit_ret ?_ | refine blockExit_goto ?_)); first | (change Trip _ _ _ _ _) | dsimp only | skip)) | fail)
                refine Trip.iteB (b := true) (by (first | (simp only [ASt.ev, tmPut, ↓reduceIte, reduceIte, Nat.reduceEqDiff, decide_true, decide_false, not_true_eq_false, not_false_eq_true, Bool.not_true, Bool.not_false, *]; done) | fail)) (fun _ => ?_) (fun h => absurd h (by decide))
                repeat (first | (refine Trip.seq ?_) | (refine Trip.block ?_) | (refine Trip.skip ?_; ((repeat (first | refine blockExit_eq ?_ | refine blockExit_ne (by decide) ?_ | refine blockExit_normal ?_ | refine blockExit_ret ?_ | refine blockExit_goto ?_)); first | (change Trip _ _ _ _ _) | dsimp only | skip)) | fail)
                refine Trip.mono (Q := fun e st => e = .normal ∧ ∃ (tm' : Nat → Value), st = ⟨tm', n, H', nx⟩ ∧ tm' 44 = .bool (!decide (l[k + k2] = l[k + k2 - 1])) ∧ tm' 0 = .slice (some ⟨b, 0, some t⟩) l.length l.length ∧ tm' 3 = .int .i64 kk ∧ tm' 4 = .slice (some ⟨b, 0 + k * 2, some t⟩) (l.length - k) (l.length - k) ∧ tm' 5 = .int .i64 k2) ?_ ?_
                · refine OpsK.drawn (K := fun _ _ => True) mixedP (by kernel_rfl) (by kernel_rfl) trivial ?_
                  refine OpsK.one rfl (by kernel_rfl) ?_
                  repeat (first | (refine OpsL.p (by subst_vars; decide) (by (first | (exact aop_move (by (first | (simp only [ASt.ev, tmPut, ↓reduceIte, reduceIte, Nat.reduceEqDiff, plain1, *]; rfl) | fail))) | fail)) ?_) | (refine OpsL.nil ?_; ((repeat (first | refine blockExit_eq ?_ | refine blockExit_ne (by decide) ?_ | refine blockExit_normal ?_ | refine blockExit_ret ?_ | refine blockExit_goto ?_)); first | (change Trip _ _ _ _ _) | dsimp only | skip)) | fail)
                  refine OpsK.one rfl (by kernel_rfl) ?_
                  repeat (first | (refine OpsL.p (by subst_vars; decide) (by (first | (exact aop_move (by (first | (simp only [ASt.ev, tmPut, ↓reduceIte, reduceIte, Nat.reduceEqDiff, plain1, *]; rfl) | fail))) | fail)) ?_) | (refine OpsL.nil ?_; ((repeat (first | refine blockExit_eq ?_ | refine blockExit_ne (by decide) ?_ | refine blockExit_normal ?_ | refine blockExit_ret ?_ | refine blockExit_goto ?_)); first | (change Trip _ _ _ _ _) | dsimp only | skip)) | fail)
                  refine OpsK.one rfl (by kernel_rfl) ?_
                  repeat (first | (refine OpsL.p (by subst_vars; decide) (by (first | (exact aop_indexAddr (by (first | (simp only [ASt.ev, tmPut, ↓reduceIte, reduceIte, Nat.reduceEqDiff, plain1, *]; rfl) | fail)) (by (first | (simp only [ASt.ev, tmPut, ↓reduceIte, reduceIte, Nat.reduceEqDiff, plain1, *]; rfl) | fail)) (by exact rfl) (by exact rfl) (by omega) (by omega)) | fail)) ?_) | (refine OpsL.nil ?_; ((repeat (first | refine blockExit_eq ?_ | refine blockExit_ne (by decide) ?_ | refine blockExit_normal ?_ | refine blockExit_ret ?_ | refine blockExit_goto ?_)); first | (change Trip _ _ _ _ _) | dsimp only | skip)) | fail)
                  refine OpsK.one rfl (by kernel_rfl) ?_
                  refine OpsL.p (by subst_vars; decide) (aop_loadAgg (k := 2) (vs := encP l[k + k2]) (by (first | (simp only [ASt.ev, tmPut, ↓reduceIte, reduceIte, Nat.reduceEqDiff, plain1, *]; rfl) | fail)) (by exact rfl) rfl (by exact rfl) g1) ?_
                  repeat (first | (refine OpsL.nil ?_; ((repeat (first | refine blockExit_eq ?_ | refine blockExit_ne (by decide) ?_ | refine blockExit_normal ?_ | refine blockExit_ret ?_ | refine blockExit_goto ?_)); first | (change Trip _ _ _ _ _) | dsimp only | skip)) | fail)
                  refine OpsK.one rfl (by kernel_rfl) ?_
                  repeat (first | (refine OpsL.p (by subst_vars; decide) (by (first | (exact aop_move (by (first | (simp only [ASt.ev, tmPut, ↓reduceIte, reduceIte, Nat.reduceEqDiff, plain1, *]; rfl) | fail))) | fail)) ?_) | (refine OpsL.nil ?_; ((repeat (first | refine blockExit_eq ?_ | refine blockExit_ne (by decide) ?_ | refine blockExit_normal ?_ | refine blockExit_ret ?_ | refine blockExit_goto ?_)); first | (change Trip _ _ _ _ _) | dsimp only | skip)) | fail)
                  refine OpsK.one rfl (by kernel_rfl) ?_
                  repeat (first | (refine OpsL.p (by subst_vars; decide) (by (first | (exact aop_move (by (first | (simp only [ASt.ev, tmPut, ↓reduceIte, reduceIte, Nat.reduceEqDiff, plain1, *]; rfl) | fail))) | fail)) ?_) | (refine OpsL.nil ?_; ((repeat (first | refine blockExit_eq ?_ | refine blockExit_ne (by decide) ?_ | refine blockExit_normal ?_ | refine blockExit_ret ?_ | refine blockExit_goto ?_)); first | (change Trip _ _ _ _ _) | dsimp only | skip)) | fail)
                  refine OpsK.one rfl (by kernel_rfl) ?_
                  repeat (first | (refine OpsL.p (by subst_vars; decide) (by (first | (exact aop_sub (by (first | (simp only [ASt.ev, tmPut, ↓reduceIte, reduceIte, Nat.reduceEqDiff, plain1, *]; rfl) | fail)) (by (first | (simp only [ASt.ev, tmPut, ↓reduceIte, reduceIte, Nat.reduceEqDiff, plain1, *]; rfl) | fail)) (by omega)) | fail)) ?_) | (refine OpsL.nil ?_; ((repeat (first | refine blockExit_eq ?_ | refine blockExit_ne (by decide) ?_ | refine blockExit_normal ?_ | refine blockExit_ret ?_ | refine blockExit_goto ?_)); first | (change Trip _ _ _ _ _) | dsimp only | skip)) | fail)
                  refine OpsK.one rfl (by kernel_rfl) ?_
                  repeat (first | (refine OpsL.p (by subst_vars; decide) (by (first | (exact aop_indexAddr (by (first | (simp only [ASt.ev, tmPut, ↓reduceIte, reduceIte, Nat.reduceEqDiff, plain1, *]; rfl) | fail)) (by (first | (simp only [ASt.ev, tmPut, ↓reduceIte, reduceIte, Nat.reduceEqDiff, plain1, *]; rfl) | fail)) (by exact rfl) (by exact rfl) (by omega) (by omega)) | fail)) ?_) | (refine OpsL.nil ?_; ((repeat (first | refine blockExit_eq ?_ | refine blockExit_ne (by decide) ?_ | refine blockExit_normal ?_ | refine blockExit_ret ?_ | refine blockExit_goto ?_)); first | (change Trip _ _ _ _ _) | dsimp only | skip)) | fail)
                  refine OpsK.one rfl (by kernel_rfl) ?_
                  refine OpsL.p (by subst_vars; decide) (aop_loadAgg (k := 2) (vs := encP l[k + k2 - 1]) (by (first | (simp only [ASt.ev, tmPut, ↓reduceIte, reduceIte, Nat.reduceEqDiff, plain1, *]; rfl) | fail)) (by exact rfl) rfl (by exact rfl) g2) ?_
                  repeat (first | (refine OpsL.nil ?_; ((repeat (first | refine blockExit_eq ?_ | refine blockExit_ne (by decide) ?_ | refine blockExit_normal ?_ | refine blockExit_ret ?_ | refine blockExit_goto ?_)); first | (change Trip _ _ _ _ _) | dsimp only | skip)) | fail)
                  refine OpsK.one rfl (by kernel_rfl) ?_
                  refine OpsL.p (by subst_vars; decide) (aop_neqA (r := decide (l[k + k2] = l[k + k2 - 1])) (by (first | (simp only [ASt.ev, tmPut, ↓reduceIte, reduceIte, Nat.reduceEqDiff, plain1, *]; done) | fail)) (by (first | (simp only [ASt.ev, tmPut, ↓reduceIte, reduceIte, Nat.reduceEqDiff, plain1, *]; done) | fail)) (by kernel_rfl) (pairEq _ _ _ _ rfl)) ?_
                  repeat (first | (refine OpsL.nil ?_; ((repeat (first | refine blockExit_eq ?_ | refine blockExit_ne (by decide) ?_ | refine blockExit_normal ?_ | refine blockExit_ret ?_ | refine blockExit_goto ?_)); first | (change Trip _ _ _ _ _) | dsimp only | skip)) | fail)
                  refine OpsK.nil ?_
                  exact ⟨rfl, _, rfl, by simp [tmPut], by simp [tmPut, *], by simp [tmPut, *], by simp [tmPut, *], by simp [tmPut, *]⟩
                · rintro e st ⟨rfl, tm', rfl, e44, e0, e3, e4, e5⟩
                  dsimp only
                  by_cases he2 : l[k + k2] = l[k + k2 - 1]
                  · rw [decide_eq_true he2] at e44
                    rw [if_pos he2.symm] at hstep
                    repeat fail
                    refine Trip.iteB (b := false) (by (first | (simp only [ASt.ev, tmPut, ↓reduceIte, reduceIte, Nat.reduceEqDiff, decide_true, decide_false, not_true_eq_false, not_false_eq_true, Bool.not_true, Bool.not_false, *]; done) | fail)) (fun h => absurd h (by decide)) (fun _ => ?_)
                    repeat (first | (refine OpsL.p (by subst_vars; decide) (by (first | (exact aop_move (by (first | (simp only [ASt.ev, tmPut, ↓reduceIte, reduceIte, Nat.reduceEqDiff, plain1, *]; rfl) | fail))) | (exact aop_assign (by (first | (simp only [ASt.ev, tmPut, ↓reduceIte, reduceIte, Nat.reduceEqDiff, plain1, *]; rfl) | fail))) | (exact aop_add (by (first | (simp only [ASt.ev, tmPut, ↓reduceIte, reduceIte, Nat.reduceEqDiff, plain1, *]; rfl) | fail)) (by (first | (simp only [ASt.ev, tmPut, ↓reduceIte, reduceIte, Nat.reduceEqDiff, plain1, *]; rfl) | fail)) (by omega)) | fail)) ?_) | (refine Trip.ops ?_) | (refine Trip.skip ?_; ((repeat (first | refine blockExit_eq ?_ | refine blockExit_ne (by decide) ?_ | refine blockExit_normal ?_ | refine blockExit_ret ?_ | refine blockExit_goto ?_)); first | (change Trip _ _ _ _ _) | dsimp only | skip)) | (refine OpsL.nil ?_; ((repeat (first | refine blockExit_eq ?_ | refine blockExit_ne (by decide) ?_ | refine blockExit_normal ?_ | refine blockExit_ret ?_ | refine blockExit_goto ?_)); first | (change Trip _ _ _ _ _) | dsimp only | skip)) | fail)
                    exact ⟨k2 + 1, ⟨_, H', A, rest', kk, rfl, hG, hAl, hsame, by simp [tmPut, *], by simp [tmPut, *], by simp [tmPut, *], by simp [tmPut, *], k1, by omega, by omega, by omega, by rw [hta, ← hstep]; rfl, hdn⟩, by omega⟩
                  · rw [decide_eq_false he2] at e44
                    rw [if_neg (fun h => he2 h.symm)] at hstep
                    repeat fail
                    refine Trip.iteB (b := true) (by (first | (simp only [ASt.ev, tmPut, ↓reduceIte, reduceIte, Nat.reduceEqDiff, decide_true, decide_false, not_true_eq_false, not_false_eq_true, Bool.not_true, Bool.not_false, *]; done) | fail)) (fun _ => ?_) (fun h => absurd h (by decide))
                    repeat (first | (refine OpsL.p (by subst_vars; decide) (by (first | (exact aop_move (by (first | (simp only [ASt.ev, tmPut, ↓reduceIte, reduceIte, Nat.reduceEqDiff, plain1, *]; rfl) | fail))) | (exact aop_indexAddr (by (first | (simp only [ASt.ev, tmPut, ↓reduceIte, reduceIte, Nat.reduceEqDiff, plain1, *]; rfl) | fail)) (by (first | (simp only [ASt.ev, tmPut, ↓reduceIte, reduceIte, Nat.reduceEqDiff, plain1, *]; rfl) | fail)) (by exact rfl) (by exact rfl) (by omega) (by omega)) | fail)) ?_) | (refine Trip.seq ?_) | (refine Trip.ops ?_) | fail)
                    refine OpsL.p (by subst_vars; decide) (aop_loadAgg (k := 2) (vs := encP l[k + k2]) (by (first | (simp only [ASt.ev, tmPut, ↓reduceIte, reduceIte, Nat.reduceEqDiff, plain1, *]; rfl) | fail)) (by exact rfl) rfl (by exact rfl) g1) ?_
                    repeat (first | (refine OpsL.p (by subst_vars; decide) (by (first | (exact aop_indexAddr (by (first | (simp only [ASt.ev, tmPut, ↓reduceIte, reduceIte, Nat.reduceEqDiff, plain1, *]; rfl) | fail)) (by (first | (simp only [ASt.ev, tmPut, ↓reduceIte, reduceIte, Nat.reduceEqDiff, plain1, *]; rfl) | fail)) (by exact rfl) (by exact rfl) (by omega) (by omega)) | fail)) ?_) | fail)
                    refine OpsL.upd (aop_store (u := .agg (encP l[k + k2]).toArray) (o := .cells ((A.set kk l[k + k2]).flatMap encP ++ rest') 2 (some t) false (some 27)) (by (first | (simp only [ASt.ev, tmPut, ↓reduceIte, reduceIte, Nat.reduceEqDiff, plain1, *]; rfl) | fail)) (by (first | (simp only [ASt.ev, tmPut, ↓reduceIte, reduceIte, Nat.reduceEqDiff, plain1, *]; done) | fail)) (by exact rfl) rfl (by
                      have := setc_flat (x := l[k + k2]) encP_len encP_one hG (show kk < A.length by omega)
                      show setc H' ⟨b, 0 + (kk : Int).toNat * 2, some t⟩ (encP l[k + k2]) = _
                      rw [Int.toNat_natCast]; exact this)) ?_
                    repeat (first | (refine OpsL.p (by subst_vars; decide) (by (first | (exact aop_move (by (first | (simp only [ASt.ev, tmPut, ↓reduceIte, reduceIte, Nat.reduceEqDiff, plain1, *]; rfl) | fail))) | (exact aop_assign (by (first | (simp only [ASt.ev, tmPut, ↓reduceIte, reduceIte, Nat.reduceEqDiff, plain1, *]; rfl) | fail))) | (exact aop_add (by (first | (simp only [ASt.ev, tmPut, ↓reduceIte, reduceIte, Nat.reduceEqDiff, plain1, *]; rfl) | fail)) (by (first | (simp only [ASt.ev, tmPut, ↓reduceIte, reduceIte, Nat.reduceEqDiff, plain1, *]; rfl) | fail)) (by omega)) | fail)) ?_) | (refine Trip.ops ?_) | (refine OpsL.nil ?_; ((repeat (first | refine blockExit_eq ?_ | refine blockExit_ne (by decide) ?_ | refine blockExit_normal ?_ | refine blockExit_ret ?_ | refine blockExit_goto ?_)); first | (change Trip _ _ _ _ _) | dsimp only | skip)) | fail)
                    refine ⟨k2 + 1, ⟨_, _, A.set kk l[k + k2], rest', kk + 1, rfl, Heap.put_eq, by rw [List.length_set]; exact hAl, fun i hi => by show Heap.put H' b _ i = _; rw [Heap.put_ne hi]; exact hsame i hi, by simp [tmPut, *], by simp [tmPut, *], by simp [tmPut, *], by simp [tmPut, *], by omega, by omega, by omega, by omega, ?_, ?_⟩, by omega⟩
                    · rw [show k + (k2 + 1) = k + k2 + 1 by omega, hstep, ← hta, List.take_add_one, List.getElem?_set_self (by omega), List.take_set_of_le (Nat.le_refl _)]
                      rfl
                    · rw [List.drop_set_of_lt (by omega)]
                      exact hdn
              · have hk2 : k2 = l.length - k := by omega
                rw [show k + k2 = l.length by omega, List.take_length] at hta
                repeat (first | (refine OpsL.p (by subst_vars; decide) (by (first | (exact aop_move (by (first | (simp only [ASt.ev, tmPut, ↓reduceIte, reduceIte, Nat.reduceEqDiff, plain1, *]; rfl) | fail))) | (exact aop_len (by (first | (simp only [ASt.ev, tmPut, ↓reduceIte, reduceIte, Nat.reduceEqDiff, plain1, *]; rfl) | fail)) (by exact rfl)) | fail)) ?_) | (refine Trip.seq ?_) | (refine Trip.ops ?_) | fail)
                refine OpsL.p (by subst_vars; decide) (aop_lssF (by (first | (simp only [ASt.ev, tmPut, ↓reduceIte, reduceIte, Nat.reduceEqDiff, plain1, *]; rfl) | fail)) (by (first | (simp only [ASt.ev, tmPut, ↓reduceIte, reduceIte, Nat.reduceEqDiff, plain1, *]; rfl) | fail)) (by omega)) ?_
                repeat (first | (refine OpsL.nil ?_; ((repeat (first | refine blockExit_eq ?_ | refine blockExit_ne (by decide) ?_ | refine blockExit_normal ?_ | refine blockExit_ret ?_ | refine blockExit_goto ?_)); first | (change Trip _ _ _ _ _) | dsimp only | skip)) | fail)
                refine Trip.iteB (b := false) (by (first | (simp only [ASt.ev, tmPut, ↓reduceIte, reduceIte, Nat.reduceEqDiff, decide_true, decide_false, not_true_eq_false, not_false_eq_true, Bool.not_true, Bool.not_false, *]; done) | fail)) (fun h => absurd h (by decide)) (fun _ => ?_)
                repeat (first | (refine OpsL.p (by subst_vars; decide) (by (first | (exact aop_move (by (first | (simp only [ASt.ev, tmPut, ↓reduceIte, reduceIte, Nat.reduceEqDiff, plain1, *]; rfl) | fail))) | fail)) ?_) | (refine Trip.seq ?_) | (refine Trip.ops ?_) | (refine Trip.exit ?_; ((repeat (first | refine blockExit_eq ?_ | refine blockExit_ne (by decide) ?_ | refine blockExit_normal ?_ | refine blockExit_ret ?_ | refine blockExit_goto ?_)); first | (change Trip _ _ _ _ _) | dsimp only | skip)) | fail)
                refine OpsL.p (by subst_vars; decide) (aop_slice (a := some (.int .i64 kk)) (b := none) (c := none) (by (first | (simp only [ASt.ev, tmPut, ↓reduceIte, reduceIte, Nat.reduceEqDiff, plain1, *]; done) | fail)) (by simp only [evOpt, ASt.ev, tmPut, ↓reduceIte, reduceIte, Option.some.injEq, Nat.reduceEqDiff, Option.map_some, *]) rfl rfl (hS H' _ _ hG kk (by omega))) ?_
                obtain ⟨rest2, hend⟩ := setc_end (k := kk) (z := [.int .i64 0, .int .i64 0]) encP_len rfl rfl hG (by omega)
                rw [hAl, hta] at hend
                refine OpsL.clear (z := [.int .i64 0, .int .i64 0]) (by (first | (simp only [ASt.ev, tmPut, ↓reduceIte, reduceIte, Nat.reduceEqDiff, plain1, *]; rfl) | fail)) (by exact rfl) (by exact rfl) (by omega) hend ?_
                repeat (first | (refine OpsL.p (by subst_vars; decide) (by (first | (exact aop_move (by (first | (simp only [ASt.ev, tmPut, ↓reduceIte, reduceIte, Nat.reduceEqDiff, plain1, *]; rfl) | fail))) | fail)) ?_) | (refine Trip.seq ?_) | (refine Trip.ops ?_) | (refine OpsL.nil ?_; ((repeat (first | refine blockExit_eq ?_ | refine blockExit_ne (by decide) ?_ | refine blockExit_normal ?_ | refine blockExit_ret ?_ | refine blockExit_goto ?_)); first | (change Trip _ _ _ _ _) | dsimp only | skip)) | fail)
                have hlen : (dedF l).length = kk := by rw [← hta, List.length_take]; omega
                refine OpsL.p (by subst_vars; decide) (aop_slice (a := none) (b := some (.int .i64 kk)) (c := none) (by (first | (simp only [ASt.ev, tmPut, ↓reduceIte, reduceIte, Nat.reduceEqDiff, plain1, *]; done) | fail)) rfl (by simp only [evOpt, ASt.ev, tmPut, ↓reduceIte, reduceIte, Option.some.injEq, Nat.reduceEqDiff, Option.map_some, *]) rfl (hS2 _ _ rest2 Heap.put_eq kk (by omega))) ?_
                repeat (first | (refine OpsL.p (by subst_vars; decide) (by (first | (exact aop_assign (by (first | (simp only [ASt.ev, tmPut, ↓reduceIte, reduceIte, Nat.reduceEqDiff, plain1, *]; rfl) | fail))) | fail)) ?_) | (refine Trip.ret ?_; ((repeat (first | refine blockExit_eq ?_ | refine blockExit_ne (by decide) ?_ | refine blockExit_normal ?_ | refine blockExit_ret ?_ | refine blockExit_goto ?_)); first | (change Trip _ _ _ _ _) | dsimp only | skip)) | (refine OpsL.nil ?_; ((repeat (first | refine blockExit_eq ?_ | refine blockExit_ne (by decide) ?_ | refine blockExit_normal ?_ | refine blockExit_ret ?_ | refine blockExit_goto ?_)); first | (change Trip _ _ _ _ _) | dsimp only | skip)) | fail)
                refine ⟨.inr rfl, _, res_tmp, rfl, ?_, fun i hi => ?_⟩
                · refine ⟨by simp [tmPut, hlen], by rw [flat_len encP_len], rest2, Heap.put_eq⟩
                · show Heap.put H' b _ i = _
                  rw [Heap.put_ne (hi b t rfl)]
                  exact hsame i (hi b t rfl)
          · rw [decide_eq_false heq] at e25
            repeat fail
            refine Trip.iteB (b := false) (by (first | (simp only [ASt.ev, tmPut, ↓reduceIte, reduceIte, Nat.reduceEqDiff, decide_true, decide_false, not_true_eq_false, not_false_eq_true, Bool.not_true, Bool.not_false, *]; done) | fail)) (fun h => absurd h (by decide)) (fun _ => ?_)
            repeat (first | (refine OpsL.p (by subst_vars; decide) (by (first | (exact aop_move (by (first | (simp only [ASt.ev, tmPut, ↓reduceIte, reduceIte, Nat.reduceEqDiff, plain1, *]; rfl) | fail))) | (exact aop_assign (by (first | (simp only [ASt.ev, tmPut, ↓reduceIte, reduceIte, Nat.reduceEqDiff, plain1, *]; rfl) | fail))) | (exact aop_add (by (first | (simp only [ASt.ev, tmPut, ↓reduceIte, reduceIte, Nat.reduceEqDiff, plain1, *]; rfl) | fail)) (by (first | (simp only [ASt.ev, tmPut, ↓reduceIte, reduceIte, Nat.reduceEqDiff, plain1, *]; rfl) | fail)) (by omega)) | fail)) ?_) | (refine Trip.ops ?_) | (refine Trip.skip ?_; ((repeat (first | refine blockExit_eq ?_ | refine blockExit_ne (by decide) ?_ | refine blockExit_normal ?_ | refine blockExit_ret ?_ | refine blockExit_goto ?_)); first | (change Trip _ _ _ _ _) | dsimp only | skip)) | (refine OpsL.nil ?_; ((repeat (first | refine blockExit_eq ?_ | refine blockExit_ne (by decide) ?_ | refine blockExit_normal ?_ | refine blockExit_ret ?_ | refine blockExit_goto ?_)); first | (change Trip _ _ _ _ _) | dsimp only | skip)) | fail)
            refine ⟨k + 1, ⟨_, rfl, by simp [tmPut, *], by simp [tmPut, *], by omega, by omega, fun i hi h0 h1 => ?_⟩, by omega⟩
            by_cases hik : i = k
            · subst hik
              exact fun hh => heq hh.symm
            · exact hne i hi h0 (by omega)
      · repeat (first | (refine OpsL.p (by subst_vars; decide) (by (first | (exact aop_move (by (first | (simp only [ASt.ev, tmPut, ↓reduceIte, reduceIte, Nat.reduceEqDiff, plain1, *]; rfl) | fail))) | (exact aop_len (by (first | (simp only [ASt.ev, tmPut, ↓reduceIte, reduceIte, Nat.reduceEqDiff, plain1, *]; rfl) | fail)) (by exact rfl)) | fail)) ?_) | (refine Trip.seq ?_) | (refine Trip.ops ?_) | fail)
        refine OpsL.p (by subst_vars; decide) (aop_lssF (by (first | (simp only [ASt.ev, tmPut, ↓reduceIte, reduceIte, Nat.reduceEqDiff, plain1, *]; rfl) | fail)) (by (first | (simp only [ASt.ev, tmPut, ↓reduceIte, reduceIte, Nat.reduceEqDiff, plain1, *]; rfl) | fail)) (by omega)) ?_
        repeat (first | (refine OpsL.nil ?_; ((repeat (first | refine blockExit_eq ?_ | refine blockExit_ne (by decide) ?_ | refine blockExit_normal ?_ | refine blockExit_ret ?_ | refine blockExit_goto ?_)); first | (change Trip _ _ _ _ _) | dsimp only | skip)) | fail)
        refine Trip.iteB (b := false) (by (first | (simp only [ASt.ev, tmPut, ↓reduceIte, reduceIte, Nat.reduceEqDiff, decide_true, decide_false, not_true_eq_false, not_false_eq_true, Bool.not_true, Bool.not_false, *]; done) | fail)) (fun h => absurd h (by decide)) (fun _ => ?_)
        repeat (first | (refine OpsL.p (by subst_vars; decide) (by (first | (exact aop_move (by (first | (simp only [ASt.ev, tmPut, ↓reduceIte, reduceIte, Nat.reduceEqDiff, plain1, *]; rfl) | fail))) | (exact aop_assign (by (first | (simp only [ASt.ev, tmPut, ↓reduceIte, reduceIte, Nat.reduceEqDiff, plain1, *]; rfl) | fail))) | fail)) ?_) | (refine Trip.seq ?_) | (refine Trip.ops ?_) | (refine Trip.exit ?_; ((repeat (first | refine blockExit_eq ?_ | refine blockExit_ne (by decide) ?_ | refine blockExit_normal ?_ | refine blockExit_ret ?_ | refine blockExit_goto ?_)); first | (change Trip _ _ _ _ _) | dsimp only | skip)) | (refine Trip.ret ?_; ((repeat (first | refine blockExit_eq ?_ | refine blockExit_ne (by decide) ?_ | refine blockExit_normal ?_ | refine blockExit_ret ?_ | refine blockExit_goto ?_)); first | (change Trip _ _ _ _ _) | dsimp only | skip)) | (refine OpsL.nil ?_; ((repeat (first | refine blockExit_eq ?_ | refine blockExit_ne (by decide) ?_ | refine blockExit_normal ?_ | refine blockExit_ret ?_ | refine blockExit_goto ?_)); first | (change Trip _ _ _ _ _) | dsimp only | skip)) | fail)
        have hd := dedF_same l l.length (Nat.le_refl _) (fun i hi a c => hne i hi a (by omega))
        rw [List.take_length] at hd
        refine ⟨.inr rfl, _, res_tmp, rfl, ?_, fun _ _ => rfl⟩
        rw [hd]
        exact ⟨by simp [tmPut, *], by rw [flat_len encP_len], rest, hH⟩

end Go.Proofs.Ytigincejpjajpaa
