import Derived.Test.YtjgbcpagfghfnaaQXM50
import Derived.Test.YtjgbcpagfghfnaaQXM15
set_option linter.unusedVariables false
set_option linter.unusedSimpArgs false
namespace Go.Proofs.Ytjgbcpagfghfnaa
open Go.Am Go.RowKit
attribute [local irreducible] aop OpsL Trip blockExit OpsD OpsK OpsR
theorem entersRState : Am.Enters Try.prog 43 := ⟨Try.f43, Try.func43, by kernel_rfl, by kernel_rfl⟩
set_option maxRecDepth 20000 in
set_option maxHeartbeats 16000000 in
theorem rstateC (W0 : World) {nx : Nat} {H : Heap} {m : Mo} {V : MoV} (hm : MoIn H m V) (hn : MoLen m) {p : Nat} (hp : p < m.of.length) (hp1 : p < m.inn.length) (hp2 : p < m.low.length) (hp3 : p < m.ret.length) : ACalls Try.prog W0 43 [.agg (moV m V).toArray, .int .i64 p] nx H fun v nx' H' => v = .bool (stateF m p) ∧ Ext nx H nx' H' := by
 refine ACalls.by_trip (fn := Try.f43) (c := _) Try.func43 rfl (fun tm n hn0 htm => ?_)
 have e0 : tm 0 = .agg (moV m V).toArray := htm 0
 have e1 : tm 1 = .int .i64 p := htm 1
 clear htm
 replace hn0 : n = 124 := hn0
 refine Trip.ok fun hok => ?_
 replace hok : ∀ id o, H id = some o → id < nx := hok
 refine zg29 ?_
 refine OpsL.boxM hm hok ?_ evd sdc
 intro G x0 okG hb hG
 clear e0
 obtain ⟨oa, oc, ov⟩ := hG.of.slice
 have oh := hG.of
 have g2 := hb.c2
 rw [ov] at oh g2
 obtain ⟨ia, ic, iv⟩ := hG.inn.slice
 have ih := hG.inn
 have g5 := hb.c5
 rw [iv] at ih g5
 obtain ⟨la, lc, lv⟩ := hG.low.slice
 have lh := hG.low
 have g6 := hb.c6
 rw [lv] at lh g6
 obtain ⟨ra, rc, rv⟩ := hG.ret.slice
 have rh := hG.ret
 have g7 := hb.c7
 rw [rv] at rh g7
 have g0 := hb.c0
 have g1 := hb.c1
 obtain ⟨q, rfl, hc⟩ := IntsAt.atI oh (show (0 : Int) ≤ p by omega) (show (p : Int) < m.of.length by omega)
 obtain ⟨qi, ib, ik, rfl, hci, hirow⟩ := L2At.atI ih (show (0 : Int) ≤ p by omega) (show (p : Int) < m.inn.length by omega)
 obtain ⟨ql, lb, lk, rfl, hcl, hlrow⟩ := L2At.atI lh (show (0 : Int) ≤ p by omega) (show (p : Int) < m.low.length by omega)
 obtain ⟨qr, rb, rk, rfl, hcr, hrrow⟩ := L3At.atI rh (show (0 : Int) ≤ p by omega) (show (p : Int) < m.ret.length by omega)
 simp only [Int.toNat_natCast] at hc hci hirow hcl hlrow hcr hrrow
 have li := hn.inn1 p
 have ll := hn.low1 p
 have lr := hn.ret1 p
 have lr2 := hn.ret2 p
 have q0 := hn.of
 refine zg63 ?_
 refine Trip.mono (Q := fun e st => e = .normal ∧ ∃ (tm' : Nat → Value) (nx' : Nat) (H' : Heap), st = ⟨tm', n, H', nx'⟩ ∧ Ext (nx + 1) G nx' H' ∧ tm' 1 = .int .i64 p ∧ tm' 2 = .pointer (some ⟨nx, 0, none⟩) ∧ tm' 22 = .bool (!plnF m p)) ?_ ?_
 ·refine OpsR.drawnW [13] (K := fun _ _ => True) mixed13 krf krf [0, 1, 2, 3, 4, 5, 6, 7, 8, 9, 10, 11, 12, 13, 14] krf trivial ?_
  refine zg1 ?_
  refine OpsL.loadM hb ?_ evd sdc
  repeat (first | (refine OpsL.nil ?_; (skip)))
  refine zg113 ?_
  refine zg91 ?_
  refine zg10 ?_
  repeat (first | (refine OpsL.q (by exact ofa) ?_) | (refine OpsL.nil ?_; (dsimp only)))
  refine zg1 ?_
  refine zg5 ?_
  refine zg45 ?_
  refine zg1 ?_
  refine zg91 ?_
  refine zg84 ?_
  refine OpsL.c4 (hf := entersRRow) (hc := (rrowC W0 hG hn hirow li _ _)) (h := ?_)
  rintro v1 nx1 H1 ⟨rfl, y1⟩
  refine OpsL.nil ⟨trivial, ?_⟩
  refine zg1 ?_
  refine zg111 ?_
  refine OpsR.nil ?_
  exact ⟨rfl, _, _, _, rfl, y1, stp, stp, by simp [tmPut, plnF]⟩
 clear e1
 rintro e st ⟨rfl, tm, nx1, H1, rfl, x1, e1, e2, e22⟩
 (change Trip _ _ _ _ _)
 cases hpl : plnF m p
 ·rw [hpl] at e22
  replace e22 : tm 22 = .bool true := e22
  repeat fail
  refine zg90 ?_
  exact ⟨.inr rfl, _, res_tmp, by simp [tmPut, stateF, hpl], x0.trans x1⟩
 rw [hpl] at e22
 replace e22 : tm 22 = .bool false := e22
 repeat fail
 refine zg88 ?_
 have c2 := cell_ext x1 okG g2
 have c6 := cell_ext x1 okG g6
 have c7 := cell_ext x1 okG g7
 have c1 := cell_ext x1 okG g1
 replace hc := cell_ext x1 okG hc
 replace hcl := cell_ext x1 okG hcl
 replace hcr := cell_ext x1 okG hcr
 refine Trip.ok fun ok1 => ?_
 replace ok1 : ∀ id o, H1 id = some o → id < nx1 := ok1
 repeat (first | (refine OpsL.q (by first | exact omv | exact ofa | exact old | exact oixa) ?_) | (refine Trip.seq ?_) | (refine Trip.ops ?_) | (refine Trip.skip ?_; (change Trip _ _ _ _ _)))
 by_cases h0 : m.of.getD p 0 = 0
 ·refine OpsL.eqlT ?_ (c := h0)
  have hst : stateF m p = ((decide (((m.low.getD p []).length : Int) = m.closings) && areF m (m.low.getD p []) 0) && decide (((m.ret.getD p []).length : Int) = 0)) := by
   unfold stateF lowF retF
   rw [hpl, if_pos h0, if_pos h0]
   rfl
  rw [hst]
  replace h0 : decide (m.of.getD p 0 = 0) = true := decide_eq_true h0
  clear hst
  refine zg68 ?_
  repeat (first | (refine Trip.seq ?_))
  refine OpsR.drawnW [8] (K := fun _ _ => True) mixed13 krf krf [0, 1, 2, 3, 4, 5, 6, 7, 8, 9, 10, 11, 12, 13, 14, 15, 16, 17, 18] krf trivial ?_
  refine zg1 ?_
  refine OpsL.loadM (hb.ext x1 okG) ?_ evd sdc
  repeat (first | (refine OpsL.nil ?_; (dsimp only)))
  refine zg108 ?_
  repeat (first | (refine OpsL.q (by exact ofa) ?_) | (refine OpsL.nil ?_; (dsimp only)))
  refine zg1 ?_
  refine zg5 ?_
  refine zg84 ?_
  refine OpsL.c4 (hf := entersRRow) (hc := (rrowC W0 (hG.ext x1 okG) hn (hlrow.ext x1 okG) ll _ _)) (h := ?_)
  rintro v2 nx2 H2 ⟨rfl, y2⟩
  refine OpsL.nil ⟨trivial, ?_⟩
  have d7 := cell_ext y2 ok1 c7
  have dcr := cell_ext y2 ok1 hcr
  cases hr : (decide (((m.low.getD p []).length : Int) = m.closings) && areF m (m.low.getD p []) 0)
  ·skip
   refine zg45 ?_
   refine zg0 ?_
   refine zg0 ?_
   refine zg1 ?_
   refine zg41 ?_
   refine zg17 ?_
   refine zg42 ?_
   (change Trip _ _ _ _ _)
   refine zg85 ?_
   exact ⟨.inr rfl, _, res_tmp, by simp [tmPut], (x0.trans x1).trans y2⟩
  ·skip
   refine zg106 ?_
   refine zg81 ?_
   refine zg1 ?_
   repeat (first | (refine OpsL.q (by exact oeql) ?_) | (refine OpsL.nil ?_; (skip)) | (refine OpsL.ung ?_))
   refine zg121 ?_
   refine zg42 ?_
   (change Trip _ _ _ _ _)
   refine zg85 ?_
   exact ⟨.inr rfl, _, res_tmp, by simp [tmPut], (x0.trans x1).trans y2⟩
 refine OpsL.eqlF ?_ (c := h0)
 have hst : stateF m p = (decide (((m.low.getD p []).length : Int) = 0) && (decide (((m.ret.getD p []).length : Int) = m.closings) && allN (m.ret.getD p []).length fun j => rowF m ((m.ret.getD p []).getD j []))) := by
  unfold stateF lowF retF
  rw [hpl, if_neg h0, if_neg h0]
  rfl
 rw [hst]
 replace h0 : decide (m.of.getD p 0 = 0) = false := decide_eq_false h0
 clear hst
 refine zg23 ?_
 refine zg37 ?_
 obtain ⟨L, hL⟩ : ∃ L, m.ret.getD p [] = L := ⟨_, rfl⟩
 rw [hL] at hcr hrrow lr lr2 ⊢
 refine Trip.mono (Q := fun e st => e = .normal ∧ ∃ (tm' : Nat → Value), st = ⟨tm', n, H1, nx1⟩ ∧ tm' 1 = .int .i64 p ∧ tm' 2 = .pointer (some ⟨nx, 0, none⟩) ∧ tm' 64 = .bool (!(decide (((m.low.getD p []).length : Int) = 0) && decide ((L.length : Int) = m.closings)))) ?_ ?_
 ·refine OpsR.drawnW [] (K := fun _ _ => True) mixed13 krf krf [0, 1, 2, 3, 4, 5, 6, 7, 8, 9, 10, 11, 12, 13, 14, 15, 16, 17] krf trivial ?_
  refine zg108 ?_
  refine zg43 ?_
  refine zg1 ?_
  cases hd : decide (((m.low.getD p []).length : Int) = 0)
  ·refine OpsL.neqT ?_ (c := of_decide_eq_false hd)
   refine zg46 ?_
   refine zg45 ?_
   refine zg34 ?_
   refine zg121 ?_
   refine OpsR.nil ?_
   exact ⟨rfl, _, rfl, stp, stp, by simp [tmPut]⟩
  ·refine OpsL.neqF ?_ (c := of_decide_eq_true hd)
   refine zg46 ?_
   refine zg106 ?_
   refine zg81 ?_
   refine zg7 ?_
   refine zg101 ?_
   cases hd2 : decide ((L.length : Int) = m.closings)
   ·refine OpsL.neqT ?_ (c := of_decide_eq_false hd2)
    refine zg67 ?_
    exact ⟨rfl, _, rfl, stp, stp, by simp [tmPut]⟩
   ·refine OpsL.neqF ?_ (c := of_decide_eq_true hd2)
    refine zg67 ?_
    exact ⟨rfl, _, rfl, stp, stp, by simp [tmPut]⟩
 clear e1 e2
 rintro e st ⟨rfl, tm, rfl, e1, e2, e64⟩
 (change Trip _ _ _ _ _)
 rw [← Bool.and_assoc]
 cases hd : (decide (((m.low.getD p []).length : Int) = 0) && decide ((L.length : Int) = m.closings))
 ·rw [hd] at e64
  replace e64 : tm 64 = .bool true := e64
  repeat fail
  refine zg90 ?_
  exact ⟨.inr rfl, _, res_tmp, rfl, x0.trans x1⟩
 rw [hd] at e64
 replace e64 : tm 64 = .bool false := e64
 repeat fail
 refine zg88 ?_
 rw [Bool.true_and]
 rw [Bool.and_eq_true] at hd
 have hcls : m.closings = (L.length : Int) := (of_decide_eq_true hd.2).symm
 rw [hcls] at c1
 clear hd e64 hcls
 refine zg22 ?_
 refine Trip.inv (fun (i : Nat) s => ∃ (tm : Nat → Value), s = ⟨tm, n, H1, nx1⟩ ∧ tm 1 = .int .i64 p ∧ tm 2 = .pointer (some ⟨nx, 0, none⟩) ∧ tm 5 = .int .i64 i ∧ i ≤ L.length ∧ allN i (fun j => rowF m (L.getD j [])) = true) (fun i => L.length - i) 0 ?_ ?_
 ·exact ⟨_, rfl, stp, stp, stp, by omega, allN_zero⟩
 clear e1 e2
 rintro i s ⟨tm, rfl, e1, e2, e5, hi, hall⟩
 repeat (first | (refine OpsL.q (by first | exact omv | exact ofa | exact old | exact olss) ?_) | (refine Trip.seq ?_) | (refine Trip.ops ?_) | (refine Trip.block ?_) | (refine Trip.itA (fun _ => ?_) (fun _ => ?_)) | (refine Trip.skip ?_; (change Trip _ _ _ _ _)) | (refine OpsL.nil ?_; (change Trip _ _ _ _ _)))
 ·have hlt : i < L.length := by omega
  obtain ⟨q2, sb, sk, rfl, hc2, hrow2⟩ := L2At.atI (hrrow.ext x1 okG) (show (0 : Int) ≤ i by omega) (show (i : Int) < L.length by omega)
  simp only [Int.toNat_natCast] at hc2 hrow2
  have hl3 := lr2 i
  obtain ⟨R, hR⟩ : ∃ R, L.getD i [] = R := ⟨_, rfl⟩
  rw [hR] at hc2 hrow2 hl3
  repeat fail
  refine Trip.mono (Q := fun e st => e = .normal ∧ ∃ (tm' : Nat → Value), st = ⟨tm', n, H1, nx1⟩ ∧ tm' 1 = .int .i64 p ∧ tm' 2 = .pointer (some ⟨nx, 0, none⟩) ∧ tm' 5 = .int .i64 i ∧ tm' 83 = .bool (!decide ((R.length : Int) = m.of.length))) ?_ ?_
  ·refine OpsR.drawnW [] (K := fun _ _ => True) mixed13 krf krf [0, 1, 2, 3, 4, 5, 6, 7, 8, 9, 10, 11, 12] krf trivial ?_
   refine zg108 ?_
   refine zg19 ?_
   refine zg43 ?_
   refine zg10 ?_
   refine zg43 ?_
   refine zg1 ?_
   cases hd : decide ((R.length : Int) = m.of.length)
   ·refine OpsL.neqT ?_ (c := of_decide_eq_false hd)
    refine zg98 ?_
    exact ⟨rfl, _, rfl, stp, stp, stp, by simp [tmPut]⟩
   ·refine OpsL.neqF ?_ (c := of_decide_eq_true hd)
    refine zg98 ?_
    exact ⟨rfl, _, rfl, stp, stp, stp, by simp [tmPut]⟩
  clear e1 e2 e5
  rintro e st ⟨rfl, tm, rfl, e1, e2, e5, e83⟩
  (change Trip _ _ _ _ _)
  cases hd : decide ((R.length : Int) = m.of.length)
  ·rw [hd] at e83
   replace e83 : tm 83 = .bool true := e83
   repeat fail
   refine zg80 ?_
   exact ⟨.inr rfl, _, res_tmp, by rw [allN_no hlt (show rowF m (L.getD i []) = false by unfold rowF; rw [hR, hd]; rfl)]; rfl, x0.trans x1⟩
  rw [hd] at e83
  replace e83 : tm 83 = .bool false := e83
  have hRl : (R.length : Int) = m.of.length := of_decide_eq_true hd
  have hrow3 : rowF m (L.getD i []) = allN R.length fun q => inF m (R.getD q 0) (m.of.getD q 0) := by unfold rowF; rw [hR, hd]; rfl
  repeat fail
  refine zg88 ?_
  refine zg22 ?_
  refine Trip.inv (fun (j : Nat) s => ∃ (tm : Nat → Value), s = ⟨tm, n, H1, nx1⟩ ∧ tm 1 = .int .i64 p ∧ tm 2 = .pointer (some ⟨nx, 0, none⟩) ∧ tm 5 = .int .i64 i ∧ tm 6 = .int .i64 j ∧ j ≤ R.length ∧ allN j (fun q => inF m (R.getD q 0) (m.of.getD q 0)) = true) (fun j => R.length - j) 0 ?_ ?_
  ·exact ⟨_, rfl, stp, stp, stp, stp, by omega, allN_zero⟩
  clear e1 e2 e5 e83 hd
  rintro j s ⟨tm, rfl, e1, e2, e5, e6, hj, hallj⟩
  repeat (first | (refine OpsL.q (by first | exact omv | exact ofa | exact old | exact olen | exact olss) ?_) | (refine Trip.seq ?_) | (refine Trip.ops ?_) | (refine Trip.block ?_) | (refine Trip.itA (fun _ => ?_) (fun _ => ?_)) | (refine Trip.skip ?_; (change Trip _ _ _ _ _)) | (refine OpsL.nil ?_; (change Trip _ _ _ _ _)))
  ·have hltj : j < R.length := by omega
   have hltj2 : j < m.of.length := by omega
   obtain ⟨q3, rfl, hc3⟩ := IntsAt.atI hrow2 (show (0 : Int) ≤ j by omega) (show (j : Int) < R.length by omega)
   obtain ⟨q4, hq4, hc4⟩ := IntsAt.atI (oh.ext x1 okG) (show (0 : Int) ≤ j by omega) (show (j : Int) < m.of.length by omega)
   cases hq4
   simp only [Int.toNat_natCast] at hc3 hc4
   obtain ⟨x, hx⟩ : ∃ x, R.getD j 0 = x := ⟨_, rfl⟩
   obtain ⟨kk, hkk⟩ : ∃ x, m.of.getD j 0 = x := ⟨_, rfl⟩
   rw [hx] at hc3
   rw [hkk] at hc4
   repeat (first | (refine OpsL.q (by first | exact omv | exact old | exact oixa | exact oasg) ?_) | (refine Trip.seq ?_) | (refine OpsL.nil ?_; (change Trip _ _ _ _ _)))
   refine Trip.mono (Q := fun e st => e = .normal ∧ ∃ (tm' : Nat → Value), st = ⟨tm', n, H1, nx1⟩ ∧ tm' 1 = .int .i64 p ∧ tm' 2 = .pointer (some ⟨nx, 0, none⟩) ∧ tm' 5 = .int .i64 i ∧ tm' 6 = .int .i64 j ∧ tm' 123 = .bool (!inF m x kk)) ?_ ?_
   ·refine OpsR.drawnW [] (K := fun _ _ => True) mixed13 krf krf [0, 1, 2, 3, 4, 5, 6, 7, 8, 9, 10, 11, 12, 13, 14, 15, 16, 17, 18, 19, 20, 21] krf trivial ?_
    refine zg1 ?_
    refine zg51 ?_
    refine zg1 ?_
    by_cases h0 : x < 0
    ·refine OpsL.lssT ?_ (c := h0)
     have hF : inF m x kk = false := decide_eq_false fun q => by omega
     refine zg46 ?_
     refine zg45 ?_
     refine zg0 ?_
     refine zg18 ?_
     refine zg41 ?_
     refine zg121 ?_
     refine zg71 ?_
     refine OpsR.nil ?_
     exact ⟨rfl, _, rfl, stp, stp, stp, stp, stp⟩
    refine OpsL.lssF ?_ (c := h0)
    refine zg46 ?_
    refine zg45 ?_
    refine zg122 ?_
    refine zg7 ?_
    refine zg81 ?_
    refine zg101 ?_
    by_cases h1 : (m.of.length : Int) ≤ x
    ·refine OpsL.geqT ?_ (c := h1)
     have hF : inF m x kk = false := decide_eq_false fun q => by omega
     refine zg46 ?_
     refine zg17 ?_
     refine zg71 ?_
     refine OpsR.nil ?_
     exact ⟨rfl, _, rfl, stp, stp, stp, stp, stp⟩
    refine OpsL.geqF ?_ (c := h1)
    refine zg46 ?_
    obtain ⟨q5, hq5, hc5⟩ := IntsAt.atI (oh.ext x1 okG) (show 0 ≤ x by omega) (show x < m.of.length by omega)
    cases hq5
    refine zg17 ?_
    refine zg106 ?_
    refine zg7 ?_
    refine zg2 ?_
    refine zg101 ?_
    by_cases h2 : m.of.getD x.toNat 0 = kk
    ·refine OpsL.neqF ?_ (c := h2)
     have hF : inF m x kk = true := decide_eq_true ⟨⟨by omega, by omega⟩, h2⟩
     clear h2
     refine zg67 ?_
     exact ⟨rfl, _, rfl, stp, stp, stp, stp, stp⟩
    ·refine OpsL.neqT ?_ (c := h2)
     have hF : inF m x kk = false := decide_eq_false fun q => h2 q.2
     clear h2
     refine zg67 ?_
     exact ⟨rfl, _, rfl, stp, stp, stp, stp, stp⟩
   clear e1 e2 e5 e6
   rintro e st ⟨rfl, tm, rfl, e1, e2, e5, e6, e123⟩
   (change Trip _ _ _ _ _)
   cases hs : inF m x kk
   ·rw [hs] at e123
    replace e123 : tm 123 = .bool true := e123
    repeat fail
    refine zg80 ?_
    exact ⟨.inr rfl, _, res_tmp, by rw [allN_no hlt (hrow3.trans (allN_no hltj (by rw [hx, hkk]; exact hs)))]; rfl, x0.trans x1⟩
   ·rw [hs] at e123
    replace e123 : tm 123 = .bool false := e123
    repeat fail
    refine zg35 ?_
    exact ⟨j + 1, ⟨_, rfl, stp, stp, stp, stp, by omega, allN_put hallj (by rw [hx, hkk]; exact hs)⟩, by omega⟩
  ·repeat (first | (refine OpsL.q (by exact omv) ?_) | (refine Trip.ops ?_) | (refine Trip.exit ?_; ((repeat (first | refine blockExit_eq ?_ | refine blockExit_normal ?_)); change Trip _ _ _ _ _)))
   have hj2 : j = R.length := by omega
   subst hj2
   repeat (first | (refine OpsL.q (by first | exact oasg | exact oadd) ?_) | (refine OpsL.nil ?_; (dsimp only)))
   exact ⟨i + 1, ⟨_, rfl, stp, stp, stp, by omega, allN_put hall (hrow3.trans hallj)⟩, by omega⟩
 ·repeat (first | (refine OpsL.q (by exact oasg) ?_) | (refine Trip.seq ?_) | (refine Trip.ops ?_) | (refine Trip.exit ?_; ((repeat (refine blockExit_eq ?_)); change Trip _ _ _ _ _)) | (refine Trip.ret ?_; (dsimp only)) | (refine OpsL.nil ?_; (change Trip _ _ _ _ _)))
  have hi2 : i = L.length := by omega
  subst hi2
  exact ⟨.inr rfl, _, res_tmp, by rw [hall]; rfl, x0.trans x1⟩
end Go.Proofs.Ytjgbcpagfghfnaa
