import Derived.Test.YtjgbcpagfghfnaaQWM27
import Derived.Test.YtjgbcpagfghfnaaQWM16
set_option linter.unusedVariables false
set_option linter.unusedSimpArgs false
namespace Go.Proofs.Ytjgbcpagfghfnaa
open Go.Am Go.RowKit
attribute [local irreducible] aop OpsL Trip blockExit OpsD OpsK OpsR
theorem entersPlain : Am.Enters Try.prog 34 := ⟨Try.f34, Try.func34, by kernel_rfl, by kernel_rfl⟩
set_option maxRecDepth 20000 in
set_option maxHeartbeats 8000000 in
theorem isPlainC (W0 : World) {nx : Nat} {H : Heap} {m : Mo} {V : MoV} (hm : MoIn H m V) (hn : MoLen m) {p : Nat} (hp : p < m.of.length) (hp1 : p < m.inn.length) : ACalls Try.prog W0 34 [.agg (moV m V).toArray, .int .i64 p] nx H fun v nx' H' => v = .bool (plnF m p) ∧ Ext nx H nx' H' := by
  refine ACalls.by_trip (fn := Try.f34) (c := _) Try.func34 rfl (fun tm n hn0 htm => ?_)
  have e0 : tm 0 = .agg (moV m V).toArray := htm 0
  have e1 : tm 1 = .int .i64 p := htm 1
  clear htm
  replace hn0 : n = 28 := hn0
  refine Trip.ok fun hok => ?_
  replace hok : ∀ id o, H id = some o → id < nx := hok
  refine Trip.seq ?_
  refine Trip.ops ?_
  refine OpsL.boxM hm hok ?_ (by (first | (simp only [ASt.ev, tmPut, ↓reduceIte, Nat.reduceEqDiff, *]; done))) (by subst_vars; decide)
  intro G x0 okG hb hG
  clear e0
  obtain ⟨oa, oc, ov⟩ := hG.of.slice
  have oh := hG.of
  have g2 := hb.c2
  rw [ov] at oh g2
  obtain ⟨ia, ic, iv⟩ := hG.inn.slice
  have ih := hG.inn
  have g5 := hb.c5
  rw [iv] at ih g5
  have g0 := hb.c0
  obtain ⟨q, rfl, hc⟩ := IntsAt.atI oh (show (0 : Int) ≤ p by omega) (show (p : Int) < m.of.length by omega)
  obtain ⟨q1, rb, rk, rfl, hc1, hrow⟩ := L2At.atI ih (show (0 : Int) ≤ p by omega) (show (p : Int) < m.inn.length by omega)
  simp only [Int.toNat_natCast] at hc hc1 hrow
  have hl := hn.inn1 p
  repeat (first | (refine OpsL.q (by exact oasg) ?_) | (refine Trip.seq ?_) | (refine OpsL.nil ?_; (change Trip _ _ _ _ _)))
  cases hd : decide (((m.inn.getD p []).length : Int) = m.plains)
  · refine OpsR.drawnW [21] (K := fun _ _ => True) mixed13 (by kernel_rfl) (by kernel_rfl) [0, 1, 2, 3, 4, 5, 6, 7, 8, 9, 10, 11, 12, 13, 14, 15, 16, 17, 18, 19, 20, 21, 22, 23] (by kernel_rfl) trivial ?_
    refine OpsR.one rfl rfl rfl (by kernel_rfl) ?_
    repeat (first | (refine OpsL.q (by exact ofa) ?_) | (refine OpsL.nil ?_; (dsimp only)))
    refine OpsR.one rfl rfl rfl (by kernel_rfl) ?_
    repeat (first | (refine OpsL.q (by exact old) ?_) | (refine OpsL.nil ?_; (skip)))
    refine OpsR.one rfl rfl rfl (by kernel_rfl) ?_
    repeat (first | (refine OpsL.q (by exact omv) ?_) | (refine OpsL.nil ?_; (skip)))
    refine OpsR.one rfl rfl rfl (by kernel_rfl) ?_
    repeat (first | (refine OpsL.q (by exact oixa) ?_) | (refine OpsL.nil ?_; (dsimp only)))
    refine OpsR.one rfl rfl rfl (by kernel_rfl) ?_
    repeat (first | (refine OpsL.q (by exact old) ?_) | (refine OpsL.nil ?_; (skip)))
    refine OpsR.one rfl rfl rfl (by kernel_rfl) ?_
    repeat (first | (refine OpsL.q (by exact olen) ?_) | (refine OpsL.nil ?_; (skip)))
    refine OpsR.one rfl rfl rfl (by kernel_rfl) ?_
    repeat (first | (refine OpsL.q (by exact ofa) ?_) | (refine OpsL.nil ?_; (dsimp only)))
    refine OpsR.one rfl rfl rfl (by kernel_rfl) ?_
    repeat (first | (refine OpsL.q (by exact old) ?_) | (refine OpsL.nil ?_; (skip)))
    refine OpsR.one rfl rfl rfl (by kernel_rfl) ?_
    repeat (first | (refine OpsL.q (by exact oeql) ?_) | (refine OpsL.nil ?_; (skip)))
    refine OpsR.one rfl rfl rfl (by kernel_rfl) ?_
    repeat (first | (refine OpsL.q (by exact omv) ?_) | (refine OpsL.nil ?_; (skip)))
    refine OpsR.one rfl rfl rfl (by kernel_rfl) ?_
    repeat (first | (refine OpsL.nil ?_; (skip)) | (refine OpsL.skp ?_))
    refine OpsR.one rfl rfl rfl (by kernel_rfl) ?_
    repeat (first | (refine OpsL.nil ?_; (skip)) | (refine OpsL.skp ?_))
    refine OpsR.one rfl rfl rfl (by kernel_rfl) ?_
    repeat (first | (refine OpsL.nil ?_; (skip)) | (refine OpsL.skp ?_))
    refine OpsR.one rfl rfl rfl (by kernel_rfl) ?_
    repeat (first | (refine OpsL.nil ?_; (skip)) | (refine OpsL.skp ?_))
    refine OpsR.one rfl rfl rfl (by kernel_rfl) ?_
    repeat (first | (refine OpsL.nil ?_; (skip)) | (refine OpsL.skp ?_))
    refine OpsR.one rfl rfl rfl (by kernel_rfl) ?_
    repeat (first | (refine OpsL.nil ?_; (skip)) | (refine OpsL.skp ?_))
    refine OpsR.one rfl rfl rfl (by kernel_rfl) ?_
    repeat (first | (refine OpsL.nil ?_; (skip)) | (refine OpsL.skp ?_))
    refine OpsR.one rfl rfl rfl (by kernel_rfl) ?_
    repeat (first | (refine OpsL.nil ?_; (skip)) | (refine OpsL.skp ?_))
    refine OpsR.one rfl rfl rfl (by kernel_rfl) ?_
    repeat (first | (refine OpsL.nil ?_; (skip)) | (refine OpsL.skp ?_))
    refine OpsR.one rfl rfl rfl (by kernel_rfl) ?_
    repeat (first | (refine OpsL.nil ?_; (skip)) | (refine OpsL.skp ?_))
    refine OpsR.one rfl rfl rfl (by kernel_rfl) ?_
    repeat (first | (refine OpsL.nil ?_; (skip)) | (refine OpsL.skp ?_))
    refine OpsR.act (by kernel_rfl) (ActStep.walk rfl rfl ?_)
    repeat (first | (refine OpsL.nil ?_; (skip)) | (refine OpsL.skp ?_))
    refine ⟨trivial, ?_⟩
    refine OpsR.one rfl rfl rfl (by kernel_rfl) ?_
    repeat (first | (refine OpsL.q (by exact opkF) ?_) | (refine OpsL.nil ?_; (skip)))
    refine OpsR.one rfl rfl rfl (by kernel_rfl) ?_
    repeat (first | (refine OpsL.q (by exact oasg) ?_) | (refine OpsL.nil ?_; (skip)))
    refine OpsR.nil ?_
    (change Trip _ _ _ _ _)
    repeat (first | (refine Trip.ret ?_; (dsimp only)))
    exact ⟨.inr rfl, _, res_tmp, by unfold plnF; rw [hd]; rfl, x0⟩
  · refine OpsR.drawnW [21] (K := fun _ _ => True) mixed13 (by kernel_rfl) (by kernel_rfl) [0, 1, 2, 3, 4, 5, 6, 7, 8, 9, 10, 11, 12, 13, 14, 15, 16, 17, 18, 19, 20, 21, 22, 23] (by kernel_rfl) trivial ?_
    refine OpsR.one rfl rfl rfl (by kernel_rfl) ?_
    repeat (first | (refine OpsL.q (by exact ofa) ?_) | (refine OpsL.nil ?_; (dsimp only)))
    refine OpsR.one rfl rfl rfl (by kernel_rfl) ?_
    repeat (first | (refine OpsL.q (by exact old) ?_) | (refine OpsL.nil ?_; (skip)))
    refine OpsR.one rfl rfl rfl (by kernel_rfl) ?_
    repeat (first | (refine OpsL.q (by exact omv) ?_) | (refine OpsL.nil ?_; (skip)))
    refine OpsR.one rfl rfl rfl (by kernel_rfl) ?_
    repeat (first | (refine OpsL.q (by exact oixa) ?_) | (refine OpsL.nil ?_; (dsimp only)))
    refine OpsR.one rfl rfl rfl (by kernel_rfl) ?_
    repeat (first | (refine OpsL.q (by exact old) ?_) | (refine OpsL.nil ?_; (skip)))
    refine OpsR.one rfl rfl rfl (by kernel_rfl) ?_
    repeat (first | (refine OpsL.q (by exact olen) ?_) | (refine OpsL.nil ?_; (skip)))
    refine OpsR.one rfl rfl rfl (by kernel_rfl) ?_
    repeat (first | (refine OpsL.q (by exact ofa) ?_) | (refine OpsL.nil ?_; (dsimp only)))
    refine OpsR.one rfl rfl rfl (by kernel_rfl) ?_
    repeat (first | (refine OpsL.q (by exact old) ?_) | (refine OpsL.nil ?_; (skip)))
    refine OpsR.one rfl rfl rfl (by kernel_rfl) ?_
    repeat (first | (refine OpsL.q (by exact oeql) ?_) | (refine OpsL.nil ?_; (skip)))
    refine OpsR.one rfl rfl rfl (by kernel_rfl) ?_
    repeat (first | (refine OpsL.q (by exact omv) ?_) | (refine OpsL.nil ?_; (skip)))
    refine OpsR.one rfl rfl rfl (by kernel_rfl) ?_
    repeat (first | (refine OpsL.ung ?_))
    refine OpsL.loadM hb ?_ (by (first | (simp only [ASt.ev, tmPut, ↓reduceIte, Nat.reduceEqDiff, *]; done))) (by subst_vars; decide)
    repeat (first | (refine OpsL.nil ?_; (skip)))
    refine OpsR.one rfl rfl rfl (by kernel_rfl) ?_
    repeat (first | (refine OpsL.q (by exact ofa) ?_) | (refine OpsL.nil ?_; (dsimp only)) | (refine OpsL.ung ?_))
    refine OpsR.one rfl rfl rfl (by kernel_rfl) ?_
    repeat (first | (refine OpsL.q (by exact old) ?_) | (refine OpsL.nil ?_; (skip)) | (refine OpsL.ung ?_))
    refine OpsR.one rfl rfl rfl (by kernel_rfl) ?_
    repeat (first | (refine OpsL.q (by exact omv) ?_) | (refine OpsL.nil ?_; (skip)) | (refine OpsL.ung ?_))
    refine OpsR.one rfl rfl rfl (by kernel_rfl) ?_
    repeat (first | (refine OpsL.q (by exact oixa) ?_) | (refine OpsL.nil ?_; (dsimp only)) | (refine OpsL.ung ?_))
    refine OpsR.one rfl rfl rfl (by kernel_rfl) ?_
    repeat (first | (refine OpsL.q (by exact old) ?_) | (refine OpsL.nil ?_; (skip)) | (refine OpsL.ung ?_))
    refine OpsR.one rfl rfl rfl (by kernel_rfl) ?_
    repeat (first | (refine OpsL.q (by exact ofa) ?_) | (refine OpsL.nil ?_; (dsimp only)) | (refine OpsL.ung ?_))
    refine OpsR.one rfl rfl rfl (by kernel_rfl) ?_
    repeat (first | (refine OpsL.q (by exact old) ?_) | (refine OpsL.nil ?_; (skip)) | (refine OpsL.ung ?_))
    refine OpsR.one rfl rfl rfl (by kernel_rfl) ?_
    repeat (first | (refine OpsL.q (by exact omv) ?_) | (refine OpsL.nil ?_; (skip)) | (refine OpsL.ung ?_))
    refine OpsR.one rfl rfl rfl (by kernel_rfl) ?_
    repeat (first | (refine OpsL.q (by exact oixa) ?_) | (refine OpsL.nil ?_; (dsimp only)) | (refine OpsL.ung ?_))
    refine OpsR.one rfl rfl rfl (by kernel_rfl) ?_
    repeat (first | (refine OpsL.q (by exact old) ?_) | (refine OpsL.nil ?_; (skip)) | (refine OpsL.ung ?_))
    refine OpsR.act (by kernel_rfl) (ActStep.walk rfl rfl ?_)
    repeat (first | (refine OpsL.ung ?_))
    refine OpsL.c3 (hf := entersAreIn) (hc := (areInC W0 hG hn hrow hl _)) (h := ?_)
    rintro v1 nx1 H1 ⟨rfl, y1⟩
    refine OpsL.nil ⟨trivial, ?_⟩
    refine OpsR.one rfl rfl rfl (by kernel_rfl) ?_
    repeat (first | (refine OpsL.q (by exact opkT) ?_) | (refine OpsL.nil ?_; (skip)))
    refine OpsR.one rfl rfl rfl (by kernel_rfl) ?_
    repeat (first | (refine OpsL.q (by exact oasg) ?_) | (refine OpsL.nil ?_; (skip)))
    refine OpsR.nil ?_
    (change Trip _ _ _ _ _)
    repeat (first | (refine Trip.ret ?_; (dsimp only)))
    exact ⟨.inr rfl, _, res_tmp, by unfold plnF; rw [hd]; rfl, x0.trans y1⟩
theorem entersLow : Am.Enters Try.prog 35 := ⟨Try.f35, Try.func35, by kernel_rfl, by kernel_rfl⟩
set_option maxRecDepth 20000 in
set_option maxHeartbeats 8000000 in
theorem isLowC (W0 : World) {nx : Nat} {H : Heap} {m : Mo} {V : MoV} (hm : MoIn H m V) (hn : MoLen m) {p : Nat} (hp : p < m.of.length) (hp1 : p < m.low.length) : ACalls Try.prog W0 35 [.agg (moV m V).toArray, .int .i64 p] nx H fun v nx' H' => v = .bool (lowF m p) ∧ Ext nx H nx' H' := by
  refine ACalls.by_trip (fn := Try.f35) (c := _) Try.func35 rfl (fun tm n hn0 htm => ?_)
  have e0 : tm 0 = .agg (moV m V).toArray := htm 0
  have e1 : tm 1 = .int .i64 p := htm 1
  clear htm
  replace hn0 : n = 36 := hn0
  refine Trip.ok fun hok => ?_
  replace hok : ∀ id o, H id = some o → id < nx := hok
  refine Trip.seq ?_
  refine Trip.ops ?_
  refine OpsL.boxM hm hok ?_ (by (first | (simp only [ASt.ev, tmPut, ↓reduceIte, Nat.reduceEqDiff, *]; done))) (by subst_vars; decide)
  intro G x0 okG hb hG
  clear e0
  obtain ⟨oa, oc, ov⟩ := hG.of.slice
  have oh := hG.of
  have g2 := hb.c2
  rw [ov] at oh g2
  obtain ⟨ia, ic, iv⟩ := hG.low.slice
  have ih := hG.low
  have g6 := hb.c6
  rw [iv] at ih g6
  have g1 := hb.c1
  obtain ⟨q, rfl, hc⟩ := IntsAt.atI oh (show (0 : Int) ≤ p by omega) (show (p : Int) < m.of.length by omega)
  obtain ⟨q1, rb, rk, rfl, hc1, hrow⟩ := L2At.atI ih (show (0 : Int) ≤ p by omega) (show (p : Int) < m.low.length by omega)
  simp only [Int.toNat_natCast] at hc hc1 hrow
  have hl := hn.low1 p
  repeat (first | (refine OpsL.q (by first | exact omv | exact oasg | exact ofa | exact old | exact oixa) ?_) | (refine Trip.seq ?_) | (refine Trip.ops ?_) | (refine OpsL.nil ?_; (change Trip _ _ _ _ _)))
  by_cases h0 : m.of.getD p 0 = 0
  · refine OpsL.neqF ?_ (c := h0)
    replace h0 : decide (m.of.getD p 0 = 0) = true := decide_eq_true h0
    repeat (first | (refine OpsL.nil ?_; (change Trip _ _ _ _ _)))
    refine Trip.ifF ?_
    repeat (first | (refine Trip.seq ?_) | (refine Trip.skip ?_; (change Trip _ _ _ _ _)))
    cases hd : decide (((m.low.getD p []).length : Int) = m.closings)
    · refine OpsR.drawnW [16] (K := fun _ _ => True) mixed13 (by kernel_rfl) (by kernel_rfl) [0, 1, 2, 3, 4, 5, 6, 7, 8, 9, 10, 11, 12, 13, 14, 15, 16, 17, 18] (by kernel_rfl) trivial ?_
      refine OpsR.one rfl rfl rfl (by kernel_rfl) ?_
      repeat (first | (refine OpsL.q (by exact ofa) ?_) | (refine OpsL.nil ?_; (dsimp only)))
      refine OpsR.one rfl rfl rfl (by kernel_rfl) ?_
      repeat (first | (refine OpsL.q (by exact old) ?_) | (refine OpsL.nil ?_; (skip)))
      refine OpsR.one rfl rfl rfl (by kernel_rfl) ?_
      repeat (first | (refine OpsL.q (by exact omv) ?_) | (refine OpsL.nil ?_; (skip)))
      refine OpsR.one rfl rfl rfl (by kernel_rfl) ?_
      repeat (first | (refine OpsL.q (by exact oixa) ?_) | (refine OpsL.nil ?_; (dsimp only)))
      refine OpsR.one rfl rfl rfl (by kernel_rfl) ?_
      repeat (first | (refine OpsL.q (by exact old) ?_) | (refine OpsL.nil ?_; (skip)))
      refine OpsR.one rfl rfl rfl (by kernel_rfl) ?_
      repeat (first | (refine OpsL.q (by exact olen) ?_) | (refine OpsL.nil ?_; (skip)))
      refine OpsR.one rfl rfl rfl (by kernel_rfl) ?_
      repeat (first | (refine OpsL.q (by exact ofa) ?_) | (refine OpsL.nil ?_; (dsimp only)))
      refine OpsR.one rfl rfl rfl (by kernel_rfl) ?_
      repeat (first | (refine OpsL.q (by exact old) ?_) | (refine OpsL.nil ?_; (skip)))
      refine OpsR.one rfl rfl rfl (by kernel_rfl) ?_
      repeat (first | (refine OpsL.q (by exact oeql) ?_) | (refine OpsL.nil ?_; (skip)))
      refine OpsR.one rfl rfl rfl (by kernel_rfl) ?_
      repeat (first | (refine OpsL.q (by exact omv) ?_) | (refine OpsL.nil ?_; (skip)))
      refine OpsR.one rfl rfl rfl (by kernel_rfl) ?_
      repeat (first | (refine OpsL.nil ?_; (skip)) | (refine OpsL.skp ?_))
      refine OpsR.one rfl rfl rfl (by kernel_rfl) ?_
      repeat (first | (refine OpsL.nil ?_; (skip)) | (refine OpsL.skp ?_))
      refine OpsR.one rfl rfl rfl (by kernel_rfl) ?_
      repeat (first | (refine OpsL.nil ?_; (skip)) | (refine OpsL.skp ?_))
      refine OpsR.one rfl rfl rfl (by kernel_rfl) ?_
      repeat (first | (refine OpsL.nil ?_; (skip)) | (refine OpsL.skp ?_))
      refine OpsR.one rfl rfl rfl (by kernel_rfl) ?_
      repeat (first | (refine OpsL.nil ?_; (skip)) | (refine OpsL.skp ?_))
      refine OpsR.one rfl rfl rfl (by kernel_rfl) ?_
      repeat (first | (refine OpsL.nil ?_; (skip)) | (refine OpsL.skp ?_))
      refine OpsR.act (by kernel_rfl) (ActStep.walk rfl rfl ?_)
      repeat (first | (refine OpsL.nil ?_; (skip)) | (refine OpsL.skp ?_))
      refine ⟨trivial, ?_⟩
      refine OpsR.one rfl rfl rfl (by kernel_rfl) ?_
      repeat (first | (refine OpsL.q (by exact opkF) ?_) | (refine OpsL.nil ?_; (skip)))
      refine OpsR.one rfl rfl rfl (by kernel_rfl) ?_
      repeat (first | (refine OpsL.q (by exact oasg) ?_) | (refine OpsL.nil ?_; (skip)))
      refine OpsR.nil ?_
      (change Trip _ _ _ _ _)
      repeat (first | (refine Trip.ret ?_; (dsimp only)))
      exact ⟨.inr rfl, _, res_tmp, by unfold lowF; rw [if_pos (of_decide_eq_true h0), hd]; rfl, x0⟩
    · refine OpsR.drawnW [16] (K := fun _ _ => True) mixed13 (by kernel_rfl) (by kernel_rfl) [0, 1, 2, 3, 4, 5, 6, 7, 8, 9, 10, 11, 12, 13, 14, 15, 16, 17, 18] (by kernel_rfl) trivial ?_
      refine OpsR.one rfl rfl rfl (by kernel_rfl) ?_
      repeat (first | (refine OpsL.q (by exact ofa) ?_) | (refine OpsL.nil ?_; (dsimp only)))
      refine OpsR.one rfl rfl rfl (by kernel_rfl) ?_
      repeat (first | (refine OpsL.q (by exact old) ?_) | (refine OpsL.nil ?_; (skip)))
      refine OpsR.one rfl rfl rfl (by kernel_rfl) ?_
      repeat (first | (refine OpsL.q (by exact omv) ?_) | (refine OpsL.nil ?_; (skip)))
      refine OpsR.one rfl rfl rfl (by kernel_rfl) ?_
      repeat (first | (refine OpsL.q (by exact oixa) ?_) | (refine OpsL.nil ?_; (dsimp only)))
      refine OpsR.one rfl rfl rfl (by kernel_rfl) ?_
      repeat (first | (refine OpsL.q (by exact old) ?_) | (refine OpsL.nil ?_; (skip)))
      refine OpsR.one rfl rfl rfl (by kernel_rfl) ?_
      repeat (first | (refine OpsL.q (by exact olen) ?_) | (refine OpsL.nil ?_; (skip)))
      refine OpsR.one rfl rfl rfl (by kernel_rfl) ?_
      repeat (first | (refine OpsL.q (by exact ofa) ?_) | (refine OpsL.nil ?_; (dsimp only)))
      refine OpsR.one rfl rfl rfl (by kernel_rfl) ?_
      repeat (first | (refine OpsL.q (by exact old) ?_) | (refine OpsL.nil ?_; (skip)))
      refine OpsR.one rfl rfl rfl (by kernel_rfl) ?_
      repeat (first | (refine OpsL.q (by exact oeql) ?_) | (refine OpsL.nil ?_; (skip)))
      refine OpsR.one rfl rfl rfl (by kernel_rfl) ?_
      repeat (first | (refine OpsL.q (by exact omv) ?_) | (refine OpsL.nil ?_; (skip)))
      refine OpsR.one rfl rfl rfl (by kernel_rfl) ?_
      repeat (first | (refine OpsL.ung ?_))
      refine OpsL.loadM hb ?_ (by (first | (simp only [ASt.ev, tmPut, ↓reduceIte, Nat.reduceEqDiff, *]; done))) (by subst_vars; decide)
      repeat (first | (refine OpsL.nil ?_; (skip)))
      refine OpsR.one rfl rfl rfl (by kernel_rfl) ?_
      repeat (first | (refine OpsL.q (by exact ofa) ?_) | (refine OpsL.nil ?_; (dsimp only)) | (refine OpsL.ung ?_))
      refine OpsR.one rfl rfl rfl (by kernel_rfl) ?_
      repeat (first | (refine OpsL.q (by exact old) ?_) | (refine OpsL.nil ?_; (skip)) | (refine OpsL.ung ?_))
      refine OpsR.one rfl rfl rfl (by kernel_rfl) ?_
      repeat (first | (refine OpsL.q (by exact omv) ?_) | (refine OpsL.nil ?_; (skip)) | (refine OpsL.ung ?_))
      refine OpsR.one rfl rfl rfl (by kernel_rfl) ?_
      repeat (first | (refine OpsL.q (by exact oixa) ?_) | (refine OpsL.nil ?_; (dsimp only)) | (refine OpsL.ung ?_))
      refine OpsR.one rfl rfl rfl (by kernel_rfl) ?_
      repeat (first | (refine OpsL.q (by exact old) ?_) | (refine OpsL.nil ?_; (skip)) | (refine OpsL.ung ?_))
      refine OpsR.act (by kernel_rfl) (ActStep.walk rfl rfl ?_)
      repeat (first | (refine OpsL.ung ?_))
      refine OpsL.c3 (hf := entersAreIn) (hc := (areInC W0 hG hn hrow hl _)) (h := ?_)
      rintro v1 nx1 H1 ⟨rfl, y1⟩
      refine OpsL.nil ⟨trivial, ?_⟩
      refine OpsR.one rfl rfl rfl (by kernel_rfl) ?_
      repeat (first | (refine OpsL.q (by exact opkT) ?_) | (refine OpsL.nil ?_; (skip)))
      refine OpsR.one rfl rfl rfl (by kernel_rfl) ?_
      repeat (first | (refine OpsL.q (by exact oasg) ?_) | (refine OpsL.nil ?_; (skip)))
      refine OpsR.nil ?_
      (change Trip _ _ _ _ _)
      repeat (first | (refine Trip.ret ?_; (dsimp only)))
      exact ⟨.inr rfl, _, res_tmp, by unfold lowF; rw [if_pos (of_decide_eq_true h0), hd]; rfl, x0.trans y1⟩
  · refine OpsL.neqT ?_ (c := h0)
    repeat (first | (refine OpsL.nil ?_; (change Trip _ _ _ _ _)))
    refine Trip.ifT ?_
    repeat (first | (refine OpsL.q (by first | exact omv | exact oasg | exact oeql | exact olen | exact oixa | exact ofa | exact old) ?_) | (refine Trip.seq ?_) | (refine Trip.ops ?_) | (refine Trip.ret ?_; (dsimp only)) | (refine OpsL.nil ?_; (change Trip _ _ _ _ _)))
    exact ⟨.inr rfl, _, res_tmp, by unfold lowF; rw [if_neg h0]; rfl, x0⟩
end Go.Proofs.Ytjgbcpagfghfnaa
