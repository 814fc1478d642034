import Derived.Test.YtjgbcpagfghfnaaQWM28
import Derived.Test.YtjgbcpagfghfnaaQWM16
import Derived.Test.YtjgbcpagfghfnaaQWM26
set_option linter.unusedVariables false
set_option linter.unusedSimpArgs false
namespace Go.Proofs.Ytjgbcpagfghfnaa
open Go.Am Go.RowKit
attribute [local irreducible] aop OpsL Trip blockExit OpsD OpsK OpsR
theorem entersRet : Am.Enters Try.prog 36 := ⟨Try.f36, Try.func36, by kernel_rfl, by kernel_rfl⟩
set_option maxRecDepth 20000 in
set_option maxHeartbeats 8000000 in
theorem isRetC (W0 : World) {nx : Nat} {H : Heap} {m : Mo} {V : MoV} (hm : MoIn H m V) (hn : MoLen m) {p : Nat} (hp : p < m.of.length) (hp1 : p < m.ret.length) : ACalls Try.prog W0 36 [.agg (moV m V).toArray, .int .i64 p] nx H fun v nx' H' => v = .bool (retF m p) ∧ Ext nx H nx' H' := by
  refine ACalls.by_trip (fn := Try.f36) (c := _) Try.func36 rfl (fun tm n hn0 htm => ?_)
  have e0 : tm 0 = .agg (moV m V).toArray := htm 0
  have e1 : tm 1 = .int .i64 p := htm 1
  clear htm
  replace hn0 : n = 65 := hn0
  refine Trip.ok fun hok => ?_
  replace hok : ∀ id o, H id = some o → id < nx := hok
  refine Trip.seq ?_
  refine Trip.ops ?_
  refine OpsL.boxM hm hok ?_ (by (first | (simp only [ASt.ev, tmPut, ↓reduceIte, Nat.reduceEqDiff, *]; done))) (by subst_vars; decide)
  intro G x0 okG hb hG
  clear e0
  obtain ⟨oa, oc, ov⟩ := hG.of.slice
  have oh := hG.of
  have g2 := hb.c2
  rw [ov] at oh g2
  obtain ⟨ra, rc, rv⟩ := hG.ret.slice
  have rh := hG.ret
  have g7 := hb.c7
  rw [rv] at rh g7
  have g1 := hb.c1
  obtain ⟨q, rfl, hc⟩ := IntsAt.atI oh (show (0 : Int) ≤ p by omega) (show (p : Int) < m.of.length by omega)
  obtain ⟨q1, rb, rk, rfl, hc1, hrow⟩ := L3At.atI rh (show (0 : Int) ≤ p by omega) (show (p : Int) < m.ret.length by omega)
  simp only [Int.toNat_natCast] at hc hc1 hrow
  have hl := hn.ret1 p
  have hl2 := hn.ret2 p
  have q0 := hn.of
  repeat (first | (refine OpsL.q (by first | exact omv | exact oasg | exact ofa | exact old | exact oixa) ?_) | (refine Trip.seq ?_) | (refine Trip.ops ?_) | (refine OpsL.nil ?_; (change Trip _ _ _ _ _)))
  by_cases h0 : m.of.getD p 0 = 0
  · refine OpsL.eqlT ?_ (c := h0)
    replace h0 : decide (m.of.getD p 0 = 0) = true := decide_eq_true h0
    repeat (first | (refine OpsL.nil ?_; (change Trip _ _ _ _ _)))
    refine Trip.ifT ?_
    repeat (first | (refine OpsL.q (by first | exact omv | exact oasg | exact oeql | exact olen | exact oixa | exact ofa | exact old) ?_) | (refine Trip.seq ?_) | (refine Trip.ops ?_) | (refine Trip.ret ?_; (dsimp only)) | (refine OpsL.nil ?_; (change Trip _ _ _ _ _)))
    exact ⟨.inr rfl, _, res_tmp, by unfold retF; rw [if_pos (of_decide_eq_true h0)]; rfl, x0⟩
  refine OpsL.eqlF ?_ (c := h0)
  repeat (first | (refine OpsL.nil ?_; (change Trip _ _ _ _ _)))
  refine Trip.ifF ?_
  repeat (first | (refine Trip.seq ?_) | (refine Trip.skip ?_; (change Trip _ _ _ _ _)))
  have hrF : retF m p = (decide (((m.ret.getD p []).length : Int) = m.closings) && allN (m.ret.getD p []).length fun j => rowF m ((m.ret.getD p []).getD j [])) := by unfold retF; rw [if_neg h0]
  rw [hrF]
  clear hrF h0
  generalize m.ret.getD p [] = L at *
  refine Trip.mono (Q := fun e st => e = .normal ∧ ∃ tm' : Nat → Value, st = ⟨tm', n, G, nx + 1⟩ ∧ tm' 1 = .int .i64 p ∧ tm' 2 = .pointer (some ⟨nx, 0, none⟩) ∧ tm' 30 = .bool (!decide ((L.length : Int) = m.closings))) ?_ ?_
  · refine OpsR.drawnW [] (K := fun _ _ => True) mixed13 (by kernel_rfl) (by kernel_rfl) [0, 1, 2, 3, 4, 5, 6, 7, 8] (by kernel_rfl) trivial ?_
    refine OpsR.one rfl rfl rfl (by kernel_rfl) ?_
    repeat (first | (refine OpsL.q (by exact ofa) ?_) | (refine OpsL.nil ?_; (dsimp only)))
    refine OpsR.one rfl rfl rfl (by kernel_rfl) ?_
    repeat (first | (refine OpsL.q (by exact old) ?_) | (refine OpsL.nil ?_; (skip)))
    refine OpsR.one rfl rfl rfl (by kernel_rfl) ?_
    repeat (first | (refine OpsL.q (by exact omv) ?_) | (refine OpsL.nil ?_; (skip)))
    refine OpsR.one rfl rfl rfl (by kernel_rfl) ?_
    repeat (first | (refine OpsL.q (by exact oixa) ?_) | (refine OpsL.nil ?_; (dsimp only)))
    refine OpsR.one rfl rfl rfl (by kernel_rfl) ?_
    repeat (first | (refine OpsL.q (by exact old) ?_) | (refine OpsL.nil ?_; (skip)))
    refine OpsR.one rfl rfl rfl (by kernel_rfl) ?_
    repeat (first | (refine OpsL.q (by exact olen) ?_) | (refine OpsL.nil ?_; (skip)))
    refine OpsR.one rfl rfl rfl (by kernel_rfl) ?_
    repeat (first | (refine OpsL.q (by exact ofa) ?_) | (refine OpsL.nil ?_; (dsimp only)))
    refine OpsR.one rfl rfl rfl (by kernel_rfl) ?_
    repeat (first | (refine OpsL.q (by exact old) ?_) | (refine OpsL.nil ?_; (skip)))
    refine OpsR.one rfl rfl rfl (by kernel_rfl) ?_
    cases hd : decide ((L.length : Int) = m.closings)
    · refine OpsL.neqT ?_ (c := of_decide_eq_false hd)
      refine OpsL.nil ?_
      refine OpsR.nil ?_
      exact ⟨rfl, _, rfl, by simp [tmPut, *], by simp [tmPut, *], by simp [tmPut, *]⟩
    · refine OpsL.neqF ?_ (c := of_decide_eq_true hd)
      refine OpsL.nil ?_
      refine OpsR.nil ?_
      exact ⟨rfl, _, rfl, by simp [tmPut, *], by simp [tmPut, *], by simp [tmPut, *]⟩
  clear e1
  rintro e st ⟨rfl, tm', rfl, e1, e2, e30⟩
  (change Trip _ _ _ _ _)
  repeat fail
  cases hd : decide ((L.length : Int) = m.closings)
  · rw [hd] at e30
    replace e30 : tm' 30 = .bool true := e30
    refine Trip.ifT ?_
    repeat (first | (refine OpsL.q (by exact oasg) ?_) | (refine Trip.seq ?_) | (refine Trip.ops ?_) | (refine Trip.ret ?_; (dsimp only)) | (refine OpsL.nil ?_; (change Trip _ _ _ _ _)))
    exact ⟨.inr rfl, _, res_tmp, rfl, x0⟩
  rw [hd] at e30
  replace e30 : tm' 30 = .bool false := e30
  refine Trip.ifF ?_
  repeat (first | (refine OpsL.q (by first | exact omv | exact olen | exact oixa | exact ofa | exact old) ?_) | (refine Trip.seq ?_) | (refine Trip.ops ?_) | (refine Trip.block ?_) | (refine Trip.skip ?_; (change Trip _ _ _ _ _)) | (refine OpsL.nil ?_; (change Trip _ _ _ _ _)))
  rw [Bool.true_and]
  clear e30 hd
  refine Trip.inv (fun (i : Nat) s => ∃ (tm : Nat → Value) (nx' : Nat) (H' : Heap), s = ⟨tm, n, H', nx'⟩ ∧ Ext (nx + 1) G nx' H' ∧ tm 1 = .int .i64 p ∧ tm 2 = .pointer (some ⟨nx, 0, none⟩) ∧ tm 35 = .slice rb L.length rk ∧ tm 36 = .int .i64 L.length ∧ tm 37 = .int .i64 i ∧ i ≤ L.length ∧ allN i (fun j => rowF m (L.getD j [])) = true) (fun i => L.length - i) 0 ?_ ?_
  · exact ⟨_, _, _, rfl, Ext.refl, by simp [tmPut, *], by simp [tmPut, *], by simp [tmPut, *], by simp [tmPut, *], by simp [tmPut, *], by omega, allN_zero⟩
  clear e1 e2
  rintro i s ⟨tm, nx', H', rfl, hx, e1, e2, e35, e36, e37, hi, hall⟩
  have c2 := cell_ext hx okG g2
  refine Trip.ok fun hokH => ?_
  replace hokH : ∀ id o, H' id = some o → id < nx' := hokH
  repeat (first | (refine OpsL.q (by exact olss) ?_) | (refine Trip.seq ?_) | (refine Trip.ops ?_) | (refine Trip.block ?_) | (refine Trip.itA (fun _ => ?_) (fun _ => ?_)) | (refine Trip.skip ?_; (change Trip _ _ _ _ _)) | (refine OpsL.nil ?_; (change Trip _ _ _ _ _)))
  · have hlt : i < L.length := by omega
    obtain ⟨q2, sb, sk, rfl, hc2, hrow2⟩ := L2At.atI (hrow.ext hx okG) (show (0 : Int) ≤ i by omega) (show (i : Int) < L.length by omega)
    simp only [Int.toNat_natCast] at hc2 hrow2
    have hl3 := hl2 i
    obtain ⟨R, hR⟩ : ∃ R, L.getD i [] = R := ⟨_, rfl⟩
    rw [hR] at hc2 hrow2 hl3
    repeat (first | (refine OpsL.q (by first | exact omv | exact oasg | exact olen | exact ofa | exact old | exact oixa) ?_) | (refine Trip.seq ?_) | (refine Trip.ops ?_) | (refine OpsL.nil ?_; (change Trip _ _ _ _ _)))
    by_cases hd : (R.length : Int) = m.of.length
    · refine OpsL.neqF ?_ (c := hd)
      replace hd : decide ((R.length : Int) = m.of.length) = true := decide_eq_true hd
      have hrow3 : rowF m (L.getD i []) = allN R.length fun q => inF m (R.getD q 0) (m.of.getD q 0) := by unfold rowF; rw [hR, hd]; rfl
      repeat (first | (refine OpsL.nil ?_; (change Trip _ _ _ _ _)))
      refine Trip.ifF ?_
      repeat (first | (refine OpsL.q (by first | exact omv | exact olen) ?_) | (refine Trip.seq ?_) | (refine Trip.ops ?_) | (refine Trip.block ?_) | (refine Trip.skip ?_; (change Trip _ _ _ _ _)) | (refine OpsL.nil ?_; (change Trip _ _ _ _ _)))
      have okH : ∀ id o, H' id = some o → id < nx' := hokH
      refine Trip.inv (fun (j : Nat) s => ∃ (tm : Nat → Value) (nx2 : Nat) (H2 : Heap), s = ⟨tm, n, H2, nx2⟩ ∧ Ext nx' H' nx2 H2 ∧ tm 1 = .int .i64 p ∧ tm 2 = .pointer (some ⟨nx, 0, none⟩) ∧ tm 35 = .slice (some q2) L.length rk ∧ tm 36 = .int .i64 L.length ∧ tm 37 = .int .i64 i ∧ tm 47 = .slice sb R.length sk ∧ tm 48 = .int .i64 R.length ∧ tm 49 = .int .i64 j ∧ j ≤ R.length ∧ allN j (fun q => inF m (R.getD q 0) (m.of.getD q 0)) = true) (fun j => R.length - j) 0 ?_ ?_
      · exact ⟨_, _, _, rfl, Ext.refl, by simp [tmPut, *], by simp [tmPut, *], by simp [tmPut, *], by simp [tmPut, *], by simp [tmPut, *], by simp [tmPut, *], by simp [tmPut, *], by simp [tmPut, *], by omega, allN_zero⟩
      clear e1 e2 e35 e36 e37 c2
      rintro j s ⟨tm, nx2, H2, rfl, hx2, e1, e2, e35, e36, e37, e47, e48, e49, hj, hallj⟩
      have hy := hx.trans hx2
      have c2 := cell_ext hy okG g2
      repeat (first | (refine OpsL.q (by first | exact omv | exact olss) ?_) | (refine Trip.seq ?_) | (refine Trip.ops ?_) | (refine Trip.block ?_) | (refine Trip.itA (fun _ => ?_) (fun _ => ?_)) | (refine Trip.skip ?_; (change Trip _ _ _ _ _)) | (refine OpsL.nil ?_; (change Trip _ _ _ _ _)))
      · have hltj : j < R.length := by omega
        have hltj2 : j < m.of.length := by have := of_decide_eq_true hd; omega
        obtain ⟨q3, rfl, hc3⟩ := IntsAt.atI (hrow2.ext hx2 okH) (show (0 : Int) ≤ j by omega) (show (j : Int) < R.length by omega)
        obtain ⟨q4, hq4, hc4⟩ := IntsAt.atI (oh.ext hy okG) (show (0 : Int) ≤ j by omega) (show (j : Int) < m.of.length by omega)
        cases hq4
        simp only [Int.toNat_natCast] at hc3 hc4
        repeat (first | (refine OpsL.q (by first | exact oasg | exact oixa | exact old) ?_) | (refine Trip.seq ?_) | (refine OpsL.nil ?_; (change Trip _ _ _ _ _)))
        refine Trip.mono (Q := fun e st => e = .normal ∧ ∃ (tm' : Nat → Value) (nx3 : Nat) (H3 : Heap), st = ⟨tm', n, H3, nx3⟩ ∧ Ext nx2 H2 nx3 H3 ∧ tm' 1 = .int .i64 p ∧ tm' 2 = .pointer (some ⟨nx, 0, none⟩) ∧ tm' 35 = .slice (some q2) L.length rk ∧ tm' 36 = .int .i64 L.length ∧ tm' 37 = .int .i64 i ∧ tm' 47 = .slice (some q3) R.length sk ∧ tm' 48 = .int .i64 R.length ∧ tm' 49 = .int .i64 j ∧ tm' 62 = .bool (!inF m (R.getD j 0) (m.of.getD j 0))) ?_ ?_
        · refine OpsR.drawnW [7] (K := fun _ _ => True) mixed13 (by kernel_rfl) (by kernel_rfl) [0, 1, 2, 3, 4, 5, 6, 7, 8] (by kernel_rfl) trivial ?_
          refine OpsR.one rfl rfl rfl (by kernel_rfl) ?_
          refine OpsL.loadM (hb.ext hy okG) ?_ (by (first | (simp only [ASt.ev, tmPut, ↓reduceIte, Nat.reduceEqDiff, *]; done))) (by subst_vars; decide)
          repeat (first | (refine OpsL.nil ?_; (dsimp only)))
          refine OpsR.one rfl rfl rfl (by kernel_rfl) ?_
          repeat (first | (refine OpsL.q (by exact omv) ?_) | (refine OpsL.nil ?_; (skip)))
          refine OpsR.one rfl rfl rfl (by kernel_rfl) ?_
          repeat (first | (refine OpsL.q (by exact ofa) ?_) | (refine OpsL.nil ?_; (dsimp only)))
          refine OpsR.one rfl rfl rfl (by kernel_rfl) ?_
          repeat (first | (refine OpsL.q (by exact old) ?_) | (refine OpsL.nil ?_; (skip)))
          refine OpsR.one rfl rfl rfl (by kernel_rfl) ?_
          repeat (first | (refine OpsL.q (by exact omv) ?_) | (refine OpsL.nil ?_; (skip)))
          refine OpsR.one rfl rfl rfl (by kernel_rfl) ?_
          repeat (first | (refine OpsL.q (by exact oixa) ?_) | (refine OpsL.nil ?_; (dsimp only)))
          refine OpsR.one rfl rfl rfl (by kernel_rfl) ?_
          repeat (first | (refine OpsL.q (by exact old) ?_) | (refine OpsL.nil ?_; (skip)))
          refine OpsR.act (by kernel_rfl) (ActStep.walk rfl rfl ?_)
          refine OpsL.c3 (hf := entersIsIn) (hc := (isInC W0 (hG.ext hy okG) hn _ _)) (h := ?_)
          rintro v1 nx3 H3 ⟨rfl, y3⟩
          refine OpsL.nil ⟨trivial, ?_⟩
          refine OpsR.one rfl rfl rfl (by kernel_rfl) ?_
          repeat (first | (refine OpsL.q (by exact onot) ?_) | (refine OpsL.nil ?_; (skip)))
          refine OpsR.nil ?_
          exact ⟨rfl, _, _, _, rfl, y3, by simp [tmPut, *], by simp [tmPut, *], by simp [tmPut, *], by simp [tmPut, *], by simp [tmPut, *], by simp [tmPut, *], by simp [tmPut, *], by simp [tmPut, *], by simp [tmPut, *]⟩
        clear e1 e2 e35 e36 e37 e47 e48 e49 c2
        rintro e st ⟨rfl, tm', nx3, H3, rfl, x3, e1, e2, e35, e36, e37, e47, e48, e49, e62⟩
        (change Trip _ _ _ _ _)
        repeat fail
        cases hs : inF m (R.getD j 0) (m.of.getD j 0)
        · rw [hs] at e62
          replace e62 : tm' 62 = .bool true := e62
          refine Trip.ifT ?_
          repeat (first | (refine OpsL.q (by exact oasg) ?_) | (refine Trip.seq ?_) | (refine Trip.ops ?_) | (refine Trip.ret ?_; ((repeat (refine blockExit_ret ?_)); dsimp only)) | (refine OpsL.nil ?_; (change Trip _ _ _ _ _)))
          exact ⟨.inr rfl, _, res_tmp, by rw [allN_no hlt (hrow3.trans (allN_no hltj hs))]; rfl, (x0.trans hy).trans x3⟩
        · rw [hs] at e62
          replace e62 : tm' 62 = .bool false := e62
          refine Trip.ifF ?_
          repeat (first | (refine OpsL.q (by first | exact omv | exact oadd) ?_) | (refine Trip.ops ?_) | (refine Trip.skip ?_; ((repeat (refine blockExit_normal ?_)); change Trip _ _ _ _ _)) | (refine OpsL.nil ?_; (dsimp only)))
          exact ⟨j + 1, ⟨_, _, _, rfl, hx2.trans x3, by simp [tmPut, *], by simp [tmPut, *], by simp [tmPut, *], by simp [tmPut, *], by simp [tmPut, *], by simp [tmPut, *], by simp [tmPut, *], by simp [tmPut, *], by omega, allN_put hallj hs⟩, by omega⟩
      · have hj2 : j = R.length := by omega
        subst hj2
        repeat (first | (refine OpsL.q (by first | exact omv | exact oadd) ?_) | (refine Trip.ops ?_) | (refine Trip.exit ?_; ((repeat (first | refine blockExit_eq ?_ | refine blockExit_normal ?_)); change Trip _ _ _ _ _)) | (refine OpsL.nil ?_; (dsimp only)))
        exact ⟨i + 1, ⟨_, _, _, rfl, hy, by simp [tmPut, *], by simp [tmPut, *], by simp [tmPut, *], by simp [tmPut, *], by simp [tmPut, *], by omega, allN_put hall (hrow3.trans hallj)⟩, by omega⟩
    · refine OpsL.neqT ?_ (c := hd)
      repeat (first | (refine OpsL.nil ?_; (change Trip _ _ _ _ _)))
      refine Trip.ifT ?_
      repeat (first | (refine OpsL.q (by exact oasg) ?_) | (refine Trip.seq ?_) | (refine Trip.ops ?_) | (refine Trip.ret ?_; ((repeat (refine blockExit_ret ?_)); dsimp only)) | (refine OpsL.nil ?_; (change Trip _ _ _ _ _)))
      exact ⟨.inr rfl, _, res_tmp, by rw [allN_no hlt (show rowF m (L.getD i []) = false by unfold rowF; rw [hR, decide_eq_false hd]; rfl)]; rfl, x0.trans hx⟩
  · repeat (first | (refine OpsL.q (by exact oasg) ?_) | (refine Trip.seq ?_) | (refine Trip.ops ?_) | (refine Trip.exit ?_; ((repeat (refine blockExit_eq ?_)); change Trip _ _ _ _ _)) | (refine Trip.ret ?_; (dsimp only)) | (refine OpsL.nil ?_; (change Trip _ _ _ _ _)))
    have hi2 : i = L.length := by omega
    subst hi2
    exact ⟨.inr rfl, _, res_tmp, by rw [hall]; rfl, x0.trans hx⟩
end Go.Proofs.Ytjgbcpagfghfnaa
namespace Go.Proofs.Ytjgbcpagfghfnaa
open Go.Am Go.RowKit
attribute [local irreducible] aop OpsL Trip blockExit OpsD OpsK OpsR
theorem entersIsMod : Am.Enters Try.prog 22 := ⟨Try.f22, Try.func22, by kernel_rfl, by kernel_rfl⟩
set_option maxRecDepth 20000 in
set_option maxHeartbeats 8000000 in
theorem isModC (W0 : World) {nx : Nat} {H : Heap} {m : Mo} {V : MoV} (hm : MoIn H m V) (hn : MoLen m) : ACalls Try.prog W0 22 [.agg (moV m V).toArray] nx H fun v nx' H' => v = .bool (modF m) ∧ Ext nx H nx' H' := by
  refine ACalls.by_trip (fn := Try.f22) (c := _) Try.func22 rfl (fun tm n hn0 htm => ?_)
  have e0 : tm 0 = .agg (moV m V).toArray := htm 0
  clear htm
  replace hn0 : n = 35 := hn0
  refine Trip.ok fun hok => ?_
  replace hok : ∀ id o, H id = some o → id < nx := hok
  refine Trip.seq ?_
  refine Trip.ops ?_
  refine OpsL.boxM hm hok ?_ (by (first | (simp only [ASt.ev, tmPut, ↓reduceIte, Nat.reduceEqDiff, *]; done))) (by subst_vars; decide)
  intro G x0 okG hb hG
  clear e0
  obtain ⟨oa, oc, ov⟩ := hG.of.slice
  have oh := hG.of
  have g2 := hb.c2
  rw [ov] at oh g2
  have q0 := hn.of
  repeat (first | (refine OpsL.q (by exact oasg) ?_) | (refine Trip.seq ?_) | (refine Trip.ops ?_) | (refine OpsL.nil ?_; (change Trip _ _ _ _ _)))
  refine OpsL.loadM hb ?_ (by (first | (simp only [ASt.ev, tmPut, ↓reduceIte, Nat.reduceEqDiff, *]; done))) (by subst_vars; decide)
  refine OpsL.c1 (hf := entersSized) (hc := (isSizedC W0 hG).ok) (h := ?_)
  rintro v1 nx1 H1 ⟨⟨rfl, y1⟩, ok1⟩
  cases hs1 : sizedF m
  · repeat (first | (refine OpsL.q (by first | exact omv | exact onot | exact opkT) ?_) | (refine OpsL.nil ?_; (change Trip _ _ _ _ _)) | (refine OpsL.skp ?_))
    refine Trip.ifT ?_
    repeat (first | (refine OpsL.q (by exact oasg) ?_) | (refine Trip.seq ?_) | (refine Trip.ops ?_) | (refine Trip.ret ?_; (dsimp only)) | (refine OpsL.nil ?_; (change Trip _ _ _ _ _)))
    exact ⟨.inr rfl, _, res_tmp, by simp [tmPut, modF, hs1], x0.trans y1⟩
  repeat (first | (refine OpsL.q (by first | exact omv | exact onot) ?_) | (refine OpsL.ung ?_))
  refine OpsL.loadM (hb.ext y1 okG) ?_ (by (first | (simp only [ASt.ev, tmPut, ↓reduceIte, Nat.reduceEqDiff, *]; done))) (by subst_vars; decide)
  repeat (first | (refine OpsL.ung ?_))
  refine OpsL.c1 (hf := entersHoused) (hc := (isHousedC W0 (hG.ext y1 okG) hn).ok) (h := ?_)
  rintro v2 nx2 H2 ⟨⟨rfl, y2⟩, ok2⟩
  have z2 := y1.trans y2
  cases hs2 : housedF m
  · repeat (first | (refine OpsL.q (by first | exact onot | exact opkF) ?_) | (refine OpsL.nil ?_; (change Trip _ _ _ _ _)) | (refine OpsL.ung ?_))
    refine Trip.ifT ?_
    repeat (first | (refine OpsL.q (by exact oasg) ?_) | (refine Trip.seq ?_) | (refine Trip.ops ?_) | (refine Trip.ret ?_; (dsimp only)) | (refine OpsL.nil ?_; (change Trip _ _ _ _ _)))
    exact ⟨.inr rfl, _, res_tmp, by simp [tmPut, modF, hs1, hs2], x0.trans z2⟩
  have c2 := cell_ext z2 okG g2
  repeat (first | (refine OpsL.q (by first | exact onot | exact opkF) ?_) | (refine OpsL.nil ?_; (change Trip _ _ _ _ _)) | (refine OpsL.ung ?_))
  refine Trip.ifF ?_
  repeat (first | (refine OpsL.q (by first | exact omv | exact olen | exact ofa | exact old) ?_) | (refine Trip.seq ?_) | (refine Trip.ops ?_) | (refine Trip.block ?_) | (refine Trip.skip ?_; (change Trip _ _ _ _ _)) | (refine OpsL.nil ?_; (change Trip _ _ _ _ _)))
  have hF : modF m = allN m.of.length (stateF m) := by unfold modF; rw [hs1, hs2]; rfl
  obtain ⟨-, -, -, -, f1, f2, f3, f4⟩ := of_decide_eq_true hs1
  rw [hF]
  clear hF c2
  refine Trip.inv (fun (i : Nat) s => ∃ (tm : Nat → Value) (nx' : Nat) (H' : Heap), s = ⟨tm, n, H', nx'⟩ ∧ Ext (nx + 1) G nx' H' ∧ tm 1 = .pointer (some ⟨nx, 0, none⟩) ∧ tm 14 = .int .i64 m.of.length ∧ tm 15 = .int .i64 i ∧ i ≤ m.of.length ∧ allN i (stateF m) = true) (fun i => m.of.length - i) 0 ?_ ?_
  · exact ⟨_, _, _, rfl, z2, by simp [tmPut, *], by simp [tmPut, *], by simp [tmPut, *], by omega, allN_zero⟩
  rintro i s ⟨tm, nx', H', rfl, hx, e1, e14, e15, hi, hall⟩
  repeat (first | (refine OpsL.q (by first | exact omv | exact oasg | exact olss) ?_) | (refine Trip.seq ?_) | (refine Trip.ops ?_) | (refine Trip.block ?_) | (refine Trip.itA (fun _ => ?_) (fun _ => ?_)) | (refine Trip.skip ?_; (change Trip _ _ _ _ _)) | (refine OpsL.nil ?_; (change Trip _ _ _ _ _)))
  · have hlt : i < m.of.length := by omega
    refine OpsL.loadM (hb.ext hx okG) ?_ (by (first | (simp only [ASt.ev, tmPut, ↓reduceIte, Nat.reduceEqDiff, *]; done))) (by subst_vars; decide)
    repeat (first | (refine OpsL.q (by exact omv) ?_))
    refine OpsL.c2 (hf := entersPlain) (hc := (isPlainC W0 (hG.ext hx okG) hn hlt (by omega)).ok) (h := ?_)
    rintro v3 nx3 H3 ⟨⟨rfl, y3⟩, ok3⟩
    have z3 := hx.trans y3
    cases hp : plnF m i
    · repeat (first | (refine OpsL.q (by first | exact omv | exact onot | exact opkT) ?_) | (refine OpsL.nil ?_; (change Trip _ _ _ _ _)) | (refine OpsL.skp ?_))
      refine Trip.ifT ?_
      repeat (first | (refine OpsL.q (by exact oasg) ?_) | (refine Trip.seq ?_) | (refine Trip.ops ?_) | (refine Trip.ret ?_; ((repeat (refine blockExit_ret ?_)); dsimp only)) | (refine OpsL.nil ?_; (change Trip _ _ _ _ _)))
      exact ⟨.inr rfl, _, res_tmp, by rw [allN_no hlt (by simp [stateF, hp])]; rfl, x0.trans z3⟩
    repeat (first | (refine OpsL.q (by first | exact omv | exact onot) ?_) | (refine OpsL.ung ?_))
    refine OpsL.loadM (hb.ext z3 okG) ?_ (by (first | (simp only [ASt.ev, tmPut, ↓reduceIte, Nat.reduceEqDiff, *]; done))) (by subst_vars; decide)
    repeat (first | (refine OpsL.q (by exact omv) ?_) | (refine OpsL.ung ?_))
    refine OpsL.c2 (hf := entersLow) (hc := (isLowC W0 (hG.ext z3 okG) hn hlt (by omega)).ok) (h := ?_)
    rintro v4 nx4 H4 ⟨⟨rfl, y4⟩, ok4⟩
    have z4 := z3.trans y4
    cases hl : lowF m i
    · repeat (first | (refine OpsL.q (by first | exact omv | exact onot | exact opkT | exact opkF) ?_) | (refine OpsL.nil ?_; (change Trip _ _ _ _ _)) | (refine OpsL.ung ?_) | (refine OpsL.skp ?_))
      refine Trip.ifT ?_
      repeat (first | (refine OpsL.q (by exact oasg) ?_) | (refine Trip.seq ?_) | (refine Trip.ops ?_) | (refine Trip.ret ?_; ((repeat (refine blockExit_ret ?_)); dsimp only)) | (refine OpsL.nil ?_; (change Trip _ _ _ _ _)))
      exact ⟨.inr rfl, _, res_tmp, by rw [allN_no hlt (by simp [stateF, hp, hl])]; rfl, x0.trans z4⟩
    repeat (first | (refine OpsL.q (by first | exact omv | exact onot | exact opkF) ?_) | (refine OpsL.ung ?_))
    refine OpsL.loadM (hb.ext z4 okG) ?_ (by (first | (simp only [ASt.ev, tmPut, ↓reduceIte, Nat.reduceEqDiff, *]; done))) (by subst_vars; decide)
    repeat (first | (refine OpsL.q (by exact omv) ?_) | (refine OpsL.ung ?_))
    refine OpsL.c2 (hf := entersRet) (hc := (isRetC W0 (hG.ext z4 okG) hn hlt (by omega)).ok) (h := ?_)
    rintro v5 nx5 H5 ⟨⟨rfl, y5⟩, ok5⟩
    have z5 := z4.trans y5
    cases hr : retF m i
    · repeat (first | (refine OpsL.q (by first | exact onot | exact opkF) ?_) | (refine OpsL.nil ?_; (change Trip _ _ _ _ _)) | (refine OpsL.ung ?_))
      refine Trip.ifT ?_
      repeat (first | (refine OpsL.q (by exact oasg) ?_) | (refine Trip.seq ?_) | (refine Trip.ops ?_) | (refine Trip.ret ?_; ((repeat (refine blockExit_ret ?_)); dsimp only)) | (refine OpsL.nil ?_; (change Trip _ _ _ _ _)))
      exact ⟨.inr rfl, _, res_tmp, by rw [allN_no hlt (by simp [stateF, hp, hl, hr])]; rfl, x0.trans z5⟩
    repeat (first | (refine OpsL.q (by first | exact onot | exact opkF) ?_) | (refine OpsL.nil ?_; (change Trip _ _ _ _ _)) | (refine OpsL.ung ?_))
    refine Trip.ifF ?_
    repeat (first | (refine OpsL.q (by first | exact omv | exact oadd) ?_) | (refine Trip.ops ?_) | (refine Trip.skip ?_; ((repeat (refine blockExit_normal ?_)); change Trip _ _ _ _ _)) | (refine OpsL.nil ?_; (dsimp only)))
    exact ⟨i + 1, ⟨_, _, _, rfl, z5, by simp [tmPut, *], by simp [tmPut, *], by simp [tmPut, *], by omega, allN_put hall (by simp [stateF, hp, hl, hr])⟩, by omega⟩
  · repeat (first | (refine OpsL.q (by exact oasg) ?_) | (refine Trip.seq ?_) | (refine Trip.ops ?_) | (refine Trip.exit ?_; ((repeat (refine blockExit_eq ?_)); change Trip _ _ _ _ _)) | (refine Trip.ret ?_; (dsimp only)) | (refine OpsL.nil ?_; (change Trip _ _ _ _ _)))
    have hi2 : i = m.of.length := by omega
    subst hi2
    exact ⟨.inr rfl, _, res_tmp, by rw [hall]; rfl, x0.trans hx⟩
theorem entersFCheck : Am.Enters Try.prog 19 := ⟨Try.f19, Try.func19, by kernel_rfl, by kernel_rfl⟩
set_option maxRecDepth 20000 in
set_option maxHeartbeats 8000000 in
theorem fcheckC (W0 : World) {nx : Nat} {H : Heap} {m : Mo} {V : MoV} (hm : MoIn H m V) (hn : MoLen m) : ACalls Try.prog W0 19 [.agg (moV m V).toArray] nx H fun v nx' H' => v = .int .i64 (if modF m then 0 else 11) ∧ Ext nx H nx' H' := by
  refine ACalls.by_trip (fn := Try.f19) (c := _) Try.func19 rfl (fun tm n hn0 htm => ?_)
  have e0 : tm 0 = .agg (moV m V).toArray := htm 0
  clear htm
  replace hn0 : n = 6 := hn0
  refine Trip.ok fun hok => ?_
  replace hok : ∀ id o, H id = some o → id < nx := hok
  refine Trip.seq ?_
  refine Trip.ops ?_
  refine OpsL.boxM hm hok ?_ (by (first | (simp only [ASt.ev, tmPut, ↓reduceIte, Nat.reduceEqDiff, *]; done))) (by subst_vars; decide)
  intro G x0 okG hb hG
  clear e0
  repeat (first | (refine OpsL.q (by exact oasg) ?_) | (refine Trip.seq ?_) | (refine Trip.ops ?_) | (refine OpsL.nil ?_; (change Trip _ _ _ _ _)))
  refine OpsL.loadM hb ?_ (by (first | (simp only [ASt.ev, tmPut, ↓reduceIte, Nat.reduceEqDiff, *]; done))) (by subst_vars; decide)
  refine OpsL.c1 (hf := entersIsMod) (hc := (isModC W0 hG hn)) (h := ?_)
  rintro v1 nx1 H1 ⟨rfl, y1⟩
  cases hs1 : modF m
  · repeat (first | (refine OpsL.q (by exact onot) ?_) | (refine OpsL.nil ?_; (change Trip _ _ _ _ _)))
    refine Trip.ifT ?_
    repeat (first | (refine OpsL.q (by exact oasg) ?_) | (refine Trip.seq ?_) | (refine Trip.ops ?_) | (refine Trip.ret ?_; (dsimp only)) | (refine OpsL.nil ?_; (change Trip _ _ _ _ _)))
    exact ⟨.inr rfl, _, res_tmp, by simp [tmPut, *], x0.trans y1⟩
  · repeat (first | (refine OpsL.q (by exact onot) ?_) | (refine OpsL.nil ?_; (change Trip _ _ _ _ _)))
    refine Trip.ifF ?_
    repeat (first | (refine OpsL.q (by exact oasg) ?_) | (refine Trip.seq ?_) | (refine Trip.ops ?_) | (refine Trip.skip ?_; (change Trip _ _ _ _ _)) | (refine Trip.ret ?_; (dsimp only)) | (refine OpsL.nil ?_; (change Trip _ _ _ _ _)))
    exact ⟨.inr rfl, _, res_tmp, by simp [tmPut, *], x0.trans y1⟩
end Go.Proofs.Ytjgbcpagfghfnaa
namespace Go.Am
open Go.RowKit
theorem wf64 {a : Int} (h : (Lit.int .i64 a).wf = true) : -9223372036854775808 ≤ a ∧ a ≤ 9223372036854775807 := by
  have h' : (decide (IntKind.i64.min ≤ a) && decide (a ≤ IntKind.i64.max)) = true := h
  rw [Bool.and_eq_true, decide_eq_true_eq, decide_eq_true_eq] at h'
  exact h'
theorem res_cell2 {P : Program} {st : ASt} {t s : Tmp} {ty : TypeId} {a : Addr} {v : Value} (ht : st.tm t = .pointer (some a)) (hr : readAt P st.H ty a = some v) : aResults P st #[.cell t ty, .tmp s] = some (.tuple #[v, st.tm s]) := by simp [aResults, aResultL, aResult, ht, hr]
def noMo : Mo := ⟨0, 0, [], [], [], [], [], []⟩
theorem noMo_in (H : Heap) : MoIn H noMo nilV := ⟨.inl ⟨0, rfl, rfl⟩, .inl ⟨0, rfl, rfl⟩, .inl ⟨0, rfl, rfl⟩, .inl ⟨0, rfl, rfl⟩, .inl ⟨0, rfl, rfl⟩, .inl ⟨0, rfl, rfl⟩⟩
end Go.Am
namespace Go.Proofs.Ytjgbcpagfghfnaa
open Go.Am Go.RowKit
attribute [local irreducible] aop OpsL Trip blockExit OpsD OpsK OpsR OpsQ
theorem MkO.in {σ : CH} {m : Mo} {V : MoV} (h : MkO σ m V) : MoIn σ.H m V :=
  ⟨h.of.ints, h.en.ints, h.fi.bools, OwnLC.at (fun _ _ _ hr => hr.ints) h.inn, OwnLC.at (fun _ _ _ hr => hr.ints) h.low, OwnLC.at (fun _ _ _ hr => OwnLC.at (fun _ _ _ hr => hr.ints) hr) h.ret⟩
theorem MkO.keep {S : List Co} {σ τ : CH} {m : Mo} {V : MoV} (hx : Chg S σ τ) (hS : ∀ c ∈ S, c = .self ∨ c = .tmp) (h : MkO σ m V) : MkO τ m V := by
  have hn : ∀ c : Co, c ≠ .self → c ≠ .tmp → c ∉ S := fun c h1 h2 hc => by rcases hS c hc with e | e; exact h1 e; exact h2 e
  exact ⟨h.of.keep hx (hn _ (by simp) (by simp)), h.en.keep hx (hn _ (by simp) (by simp)), h.fi.keep hx (hn _ (by simp) (by simp)), Row2.keepL hx (hn _ (by simp) (by simp)) (fun _ _ => hn _ (by simp) (by simp)) h.inn, Row2.keepL hx (hn _ (by simp) (by simp)) (fun _ _ => hn _ (by simp) (by simp)) h.low, Row3.keepL hx (hn _ (by simp) (by simp)) (fun _ _ => hn _ (by simp) (by simp)) (fun _ _ _ => hn _ (by simp) (by simp)) h.ret⟩
theorem MkO.one {σ : CH} {m : Mo} {V : MoV} (h : MkO σ m V) : (moV m V).all (·.oneCell') = true := by
  have so : V.o.oneCell' = true := by obtain ⟨_, e, _⟩ := h.of.block; rw [e]; rfl
  have se : V.e.oneCell' = true := by obtain ⟨_, e, _⟩ := h.en.block; rw [e]; rfl
  have sf : V.f.oneCell' = true := by obtain ⟨_, _, e⟩ := OwnC.slice encBo_len h.fi; rw [e]; rfl
  have si : V.i.oneCell' = true := by obtain ⟨_, q1, _⟩ := h.inn; obtain ⟨_, _, e⟩ := OwnC.slice encS_len q1; rw [e]; rfl
  have sl : V.l.oneCell' = true := by obtain ⟨_, q1, _⟩ := h.low; obtain ⟨_, _, e⟩ := OwnC.slice encS_len q1; rw [e]; rfl
  have sr : V.r.oneCell' = true := by obtain ⟨_, q1, _⟩ := h.ret; obtain ⟨_, _, e⟩ := OwnC.slice encS_len q1; rw [e]; rfl
  simp only [moV, List.all_cons, List.all_nil, so, se, sf, si, sl, sr, Bool.and_true]
  rfl
theorem entersMake : Am.Enters Try.prog 7 := ⟨Try.f7, Try.func7, by kernel_rfl, by kernel_rfl⟩
theorem makeC (W0 : World) {nx : Nat} {H : Heap} {nv : Value} {ns : List Int} {size : Int} (hn : IntsAt H nv ns) (hok : ∀ id o, H id = some o → id < nx) (hs : -9223372036854775808 ≤ size ∧ size ≤ 9223372036854775807) :
    ACalls Try.prog W0 7 [.int .i64 size, nv] nx H fun v nx' H' => ∃ V σ, v = .agg (moV (makeF size ns) V).toArray ∧ nx' = σ.nx ∧ H' = σ.H ∧ OldC ⟨nx, fun _ => .old, H⟩ σ ∧ MkO σ (makeF size ns) V :=
  makeC0 W0 (σ0 := ⟨nx, fun _ => .old, H⟩) (fun _ _ => rfl) (IntsC.of hn hok) hs
theorem entersFSmall : Am.Enters Try.prog 8 := ⟨Try.f8, Try.func8, by kernel_rfl, by kernel_rfl⟩
end Go.Proofs.Ytjgbcpagfghfnaa
namespace Go.Am
open Go.RowKit
theorem flat_map1 {α : Type} {enc : α → List Value} {f : α → Value} (h : ∀ x, enc x = [f x]) (l : List α) : l.flatMap enc = l.map f := by
  induction l with
  | nil => rfl
  | cons x l ih => rw [List.flatMap_cons, ih, h]; rfl
section
variable {α : Type} {enc : α → List Value} {f : α → Value} {el : TypeId} {c : Co} {σ : CH} {v : Value} {l : List α}
theorem OwnC.opn (he : ∀ x, enc x = [f x]) (h : OwnC enc el c σ v l) (hl : l ≠ []) : ∃ b t rest, v = .slice (some ⟨b, 0, some t⟩) l.length l.length ∧ ObC c σ b (.cells (l.map f ++ rest) 1 (some t) false (some el)) := by
  obtain ⟨ob, ho, hc⟩ := h
  cases ob with
  | none => obtain ⟨_, _, h0⟩ := ho; exact absurd (List.eq_nil_of_length_eq_zero h0) hl
  | some bt =>
    obtain ⟨b, t⟩ := bt
    obtain ⟨h1, h2, rest, h3⟩ := ho
    rw [flat_map1 he] at h3
    exact ⟨b, t, rest, h1, (hc b t rfl).1, (hc b t rfl).2, h3⟩
theorem OwnC.cls (he : ∀ x, enc x = [f x]) {b t : Nat} {rest : List Value} (h : ObC c σ b (.cells (l.map f ++ rest) 1 (some t) false (some el))) : OwnC enc el c σ (.slice (some ⟨b, 0, some t⟩) l.length l.length) l := by
  refine ⟨some (b, t), ⟨rfl, ?_, rest, ?_⟩, fun b' t' e => ?_⟩
  · rw [flat_map1 he, List.length_map, Nat.mul_one]
  · rw [flat_map1 he]; exact h.2.2
  · cases e
    exact ⟨h.1, h.2.1⟩
end
theorem Chg.ofExt {σ : CH} {nx' : Nat} {H' : Heap} (h : Ext σ.nx σ.H nx' H') : ∃ τ : CH, nx' = τ.nx ∧ H' = τ.H ∧ Chg [] σ τ :=
  ⟨⟨nx', fun i => if i < σ.nx then σ.C i else .tmp, H'⟩, rfl, rfl, h.1, fun i hi => ⟨if_pos hi, fun _ => h.2 i hi⟩⟩
theorem encN_f (x : Int) : encN x = [(fun x => Value.int .i64 x) x] := rfl
theorem encS_f (s : SV) : encS s = [slV s] := rfl
theorem encBo_f (b : Bool) : encBo b = [(fun b => Value.bool b) b] := rfl
end Go.Am
namespace Go.Proofs.Ytjgbcpagfghfnaa
open Go.Am Go.RowKit
end Go.Proofs.Ytjgbcpagfghfnaa
