import Derived.Test.YtjgbcpagfghfnaaQYM51
import Derived.Test.YtjgbcpagfghfnaaQYM15
set_option linter.unusedVariables false
set_option linter.unusedSimpArgs false
namespace Go.Proofs.Ytjgbcpagfghfnaa
open Go.Am Go.RowKit
attribute [local irreducible] aop OpsL Trip zt z1X z1E OpsR
theorem z9v : Am.z1G Try.prog 43 := ⟨Try.f43, Try.func43, by kernel_rfl, by kernel_rfl⟩
set_option maxRecDepth 20000 in
set_option maxHeartbeats 16000000 in
theorem zf2 (W0 : World) {nx : Nat} {H : Heap} {m : Mo} {V : MoV} (hm : MoIn H m V) (hn : MoLen m) {p : Nat} (hp : p < m.of.length) (hp1 : p < m.inn.length) (hp2 : p < m.low.length) (hp3 : p < m.ret.length) : ACalls Try.prog W0 43 [.agg (moV m V).toArray, .int .i64 p] nx H fun v nx' H' => v = .bool (z29 m p) ∧ Ext nx H nx' H' := by
 refine zg (fn := Try.f43) (c := _) Try.func43 rfl (fun tm n hn0 htm => ?_);have e0 : tm 0 = .agg (moV m V).toArray := htm 0;have e1 : tm 1 = .int .i64 p := htm 1;clear htm;replace hn0 : n = 124 := hn0;refine Trip.ok fun hok => ?_;replace hok : ∀ id o, H id = some o → id < nx := hok;refine z2k ?_;refine zY hm hok ?_ evd sdc;intro G x0 okG hb hG;clear e0;obtain ⟨oa, oc, ov⟩ := hG.of.slice;have oh := hG.of;have g2 := hb.c2;rw [ov] at oh g2;obtain ⟨ia, ic, iv⟩ := hG.inn.slice;have ih := hG.inn;have g5 := hb.c5;rw [iv] at ih g5;obtain ⟨la, lc, lv⟩ := hG.low.slice;have lh := hG.low;have g6 := hb.c6;rw [lv] at lh g6;obtain ⟨ra, rc, rv⟩ := hG.ret.slice;have rh := hG.ret;have g7 := hb.c7;rw [rv] at rh g7;have g0 := hb.c0;have g1 := hb.c1;obtain ⟨q, rfl, hc⟩ := IntsAt.atI oh (show (0 : Int) ≤ p by omega) (show (p : Int) < m.of.length by omega);obtain ⟨qi, ib, ik, rfl, hci, hirow⟩ := L2At.atI ih (show (0 : Int) ≤ p by omega) (show (p : Int) < m.inn.length by omega);obtain ⟨ql, lb, lk, rfl, hcl, hlrow⟩ := L2At.atI lh (show (0 : Int) ≤ p by omega) (show (p : Int) < m.low.length by omega);obtain ⟨qr, rb, rk, rfl, hcr, hrrow⟩ := L3At.atI rh (show (0 : Int) ≤ p by omega) (show (p : Int) < m.ret.length by omega);simp only [Int.toNat_natCast] at hc hci hirow hcl hlrow hcr hrrow;have li := hn.inn1 p;have ll := hn.low1 p;have lr := hn.ret1 p;have lr2 := hn.ret2 p;have q0 := hn.of;refine zfC ?_;refine Trip.mono (Q := fun e st => e = .normal ∧ ∃ (tm' : Nat → Value) (nx' : Nat) (H' : Heap), st = ⟨tm', n, H', nx'⟩ ∧ Ext (nx + 1) G nx' H' ∧ tm' 1 = .int .i64 p ∧ tm' 2 = .pointer (some ⟨nx, 0, none⟩) ∧ tm' 22 = .bool (!zbZ m p)) ?_ ?_
 ·refine z04 [13] (K := fun _ _ => True) zU krf krf [0, 1, 2, 3, 4, 5, 6, 7, 8, 9, 10, 11, 12, 13, 14] krf trivial ?_;refine zg1 ?_;refine zS hb ?_ evd sdc
  repeat (first | (refine OpsL.nil ?_; (skip)))
  refine zaD ?_;refine zbi ?_;refine zaD ?_;refine zei ?_;refine OpsL.c4 (hf := z7I) (hc := (zfY W0 hG hn hirow li _ _)) (h := ?_);rintro v1 nx1 H1 ⟨rfl, y1⟩;refine OpsL.nil ⟨trivial, ?_⟩;refine zg1 ?_;refine zdx ?_;refine OpsR.nil ?_;exact ⟨rfl, _, _, _, rfl, y1, stp, stp, by simp [zb, zbZ]⟩
 clear e1;rintro e st ⟨rfl, tm, nx1, H1, rfl, x1, e1, e2, e22⟩
 (change Trip _ _ _ _ _)
 cases hpl : zbZ m p
 ·rw [hpl] at e22;replace e22 : tm 22 = .bool true := e22
  repeat fail
  refine zaE ?_;exact ⟨.inr rfl, _, zn, by simp [zb, z29, hpl], x0.trans x1⟩
 rw [hpl] at e22;replace e22 : tm 22 = .bool false := e22
 repeat fail
 refine z2r ?_;have c2 := zI x1 okG g2;have c6 := zI x1 okG g6;have c7 := zI x1 okG g7;have c1 := zI x1 okG g1;replace hc := zI x1 okG hc;replace hcl := zI x1 okG hcl;replace hcr := zI x1 okG hcr;refine Trip.ok fun ok1 => ?_;replace ok1 : ∀ id o, H1 id = some o → id < nx1 := ok1
 repeat (first | (refine zc (by first | exact omv | exact ofa | exact old | exact z1j) ?_) | (refine Trip.seq ?_) | (refine zd ?_) | (refine Trip.skip ?_; (change Trip _ _ _ _ _)))
 by_cases h0 : m.of.getD p 0 = 0
 ·refine z0H ?_ (c := h0)
  have hst : z29 m p = ((decide (((m.low.getD p []).length : Int) = m.closings) && zc1 m (m.low.getD p []) 0) && decide (((m.ret.getD p []).length : Int) = 0)) := by
   unfold z29 zbk zbj;rw [hpl, if_pos h0, if_pos h0];rfl
  rw [hst];replace h0 : decide (m.of.getD p 0 = 0) = true := decide_eq_true h0;clear hst;refine z9O ?_
  repeat (first | (refine Trip.seq ?_))
  refine z04 [8] (K := fun _ _ => True) zU krf krf [0, 1, 2, 3, 4, 5, 6, 7, 8, 9, 10, 11, 12, 13, 14, 15, 16, 17, 18] krf trivial ?_;refine zg1 ?_;refine zS (hb.ext x1 okG) ?_ evd sdc
  repeat (first | (refine OpsL.nil ?_; (dsimp only)))
  refine zaD ?_;refine zbi ?_;refine zei ?_;refine OpsL.c4 (hf := z7I) (hc := (zfY W0 (hG.ext x1 okG) hn (hlrow.ext x1 okG) ll _ _)) (h := ?_);rintro v2 nx2 H2 ⟨rfl, y2⟩;refine OpsL.nil ⟨trivial, ?_⟩;have d7 := zI y2 ok1 c7;have dcr := zI y2 ok1 hcr;cases hr : (decide (((m.low.getD p []).length : Int) = m.closings) && zc1 m (m.low.getD p []) 0)
  ·skip;refine z4G ?_;refine zg0 ?_;refine zg0 ?_;refine zg1 ?_;refine zdm ?_;refine z9W ?_;refine zel ?_
   (change Trip _ _ _ _ _)
   refine zdq ?_;exact ⟨.inr rfl, _, zn, by simp [zb], (x0.trans x1).trans y2⟩
  ·skip;refine z9Z ?_;refine zgD ?_;refine zg1 ?_
   repeat (first | (refine zc (by exact zfs) ?_) | (refine OpsL.nil ?_; (skip)) | (refine zB ?_))
   refine z7d ?_;refine zel ?_
   (change Trip _ _ _ _ _)
   refine zdq ?_;exact ⟨.inr rfl, _, zn, by simp [zb], (x0.trans x1).trans y2⟩
 refine z30 ?_ (c := h0)
 have hst : z29 m p = (decide (((m.low.getD p []).length : Int) = 0) && (decide (((m.ret.getD p []).length : Int) = m.closings) && z4H (m.ret.getD p []).length fun j => z9S m ((m.ret.getD p []).getD j []))) := by
  unfold z29 zbk zbj;rw [hpl, if_neg h0, if_neg h0];rfl
 rw [hst];replace h0 : decide (m.of.getD p 0 = 0) = false := decide_eq_false h0;clear hst;refine zep ?_;refine zdo ?_;obtain ⟨L, hL⟩ : ∃ L, m.ret.getD p [] = L := ⟨_, rfl⟩;rw [hL] at hcr hrrow lr lr2 ⊢;refine Trip.mono (Q := fun e st => e = .normal ∧ ∃ (tm' : Nat → Value), st = ⟨tm', n, H1, nx1⟩ ∧ tm' 1 = .int .i64 p ∧ tm' 2 = .pointer (some ⟨nx, 0, none⟩) ∧ tm' 64 = .bool (!(decide (((m.low.getD p []).length : Int) = 0) && decide ((L.length : Int) = m.closings)))) ?_ ?_
 ·refine z04 [] (K := fun _ _ => True) zU krf krf [0, 1, 2, 3, 4, 5, 6, 7, 8, 9, 10, 11, 12, 13, 14, 15, 16, 17] krf trivial ?_;refine zaD ?_;refine zem ?_;refine zg1 ?_;cases hd : decide (((m.low.getD p []).length : Int) = 0)
  ·refine z08 ?_ (c := of_decide_eq_false hd);refine z0n ?_;refine z4G ?_;refine z9P ?_;refine z7d ?_;refine OpsR.nil ?_;exact ⟨rfl, _, rfl, stp, stp, by simp [zb]⟩
  ·refine z02 ?_ (c := of_decide_eq_true hd);refine z0n ?_;refine z9Z ?_;refine zgD ?_;refine zg9 ?_;refine z6u ?_;cases hd2 : decide ((L.length : Int) = m.closings)
   ·refine z08 ?_ (c := of_decide_eq_false hd2);refine zdl ?_;exact ⟨rfl, _, rfl, stp, stp, by simp [zb]⟩
   ·refine z02 ?_ (c := of_decide_eq_true hd2);refine zdl ?_;exact ⟨rfl, _, rfl, stp, stp, by simp [zb]⟩
 clear e1 e2;rintro e st ⟨rfl, tm, rfl, e1, e2, e64⟩
 (change Trip _ _ _ _ _)
 rw [← Bool.and_assoc];cases hd : (decide (((m.low.getD p []).length : Int) = 0) && decide ((L.length : Int) = m.closings))
 ·rw [hd] at e64;replace e64 : tm 64 = .bool true := e64
  repeat fail
  refine zaE ?_;exact ⟨.inr rfl, _, zn, rfl, x0.trans x1⟩
 rw [hd] at e64;replace e64 : tm 64 = .bool false := e64
 repeat fail
 refine z2r ?_;rw [Bool.true_and];rw [Bool.and_eq_true] at hd;have hcls : m.closings = (L.length : Int) := (of_decide_eq_true hd.2).symm;rw [hcls] at c1;clear hd e64 hcls;refine zc5 ?_;refine zG (fun (i : Nat) s => ∃ (tm : Nat → Value), s = ⟨tm, n, H1, nx1⟩ ∧ tm 1 = .int .i64 p ∧ tm 2 = .pointer (some ⟨nx, 0, none⟩) ∧ tm 5 = .int .i64 i ∧ i ≤ L.length ∧ z4H i (fun j => z9S m (L.getD j [])) = true) (fun i => L.length - i) 0 ?_ ?_
 ·exact ⟨_, rfl, stp, stp, stp, by omega, z1e⟩
 clear e1 e2;rintro i s ⟨tm, rfl, e1, e2, e5, hi, hall⟩
 repeat (first | (refine zc (by first | exact omv | exact ofa | exact old | exact z24) ?_) | (refine Trip.seq ?_) | (refine zd ?_) | (refine Trip.block ?_) | (refine zJ (fun _ => ?_) (fun _ => ?_)) | (refine Trip.skip ?_; (change Trip _ _ _ _ _)) | (refine OpsL.nil ?_; (change Trip _ _ _ _ _)))
 ·have hlt : i < L.length := by omega
  obtain ⟨q2, sb, sk, rfl, hc2, hrow2⟩ := L2At.atI (hrrow.ext x1 okG) (show (0 : Int) ≤ i by omega) (show (i : Int) < L.length by omega);simp only [Int.toNat_natCast] at hc2 hrow2;have hl3 := lr2 i;obtain ⟨R, hR⟩ : ∃ R, L.getD i [] = R := ⟨_, rfl⟩;rw [hR] at hc2 hrow2 hl3
  repeat fail
  refine Trip.mono (Q := fun e st => e = .normal ∧ ∃ (tm' : Nat → Value), st = ⟨tm', n, H1, nx1⟩ ∧ tm' 1 = .int .i64 p ∧ tm' 2 = .pointer (some ⟨nx, 0, none⟩) ∧ tm' 5 = .int .i64 i ∧ tm' 83 = .bool (!decide ((R.length : Int) = m.of.length))) ?_ ?_
  ·refine z04 [] (K := fun _ _ => True) zU krf krf [0, 1, 2, 3, 4, 5, 6, 7, 8, 9, 10, 11, 12] krf trivial ?_;refine zaD ?_;refine zg7 ?_;refine zem ?_;refine zbi ?_;refine zem ?_;refine zg1 ?_;cases hd : decide ((R.length : Int) = m.of.length)
   ·refine z08 ?_ (c := of_decide_eq_false hd);refine z6v ?_;exact ⟨rfl, _, rfl, stp, stp, stp, by simp [zb]⟩
   ·refine z02 ?_ (c := of_decide_eq_true hd);refine z6v ?_;exact ⟨rfl, _, rfl, stp, stp, stp, by simp [zb]⟩
  clear e1 e2 e5;rintro e st ⟨rfl, tm, rfl, e1, e2, e5, e83⟩
  (change Trip _ _ _ _ _)
  cases hd : decide ((R.length : Int) = m.of.length)
  ·rw [hd] at e83;replace e83 : tm 83 = .bool true := e83
   repeat fail
   refine z9U ?_;exact ⟨.inr rfl, _, zn, by rw [z1D hlt (show z9S m (L.getD i []) = false by unfold z9S; rw [hR, hd]; rfl)]; rfl, x0.trans x1⟩
  rw [hd] at e83;replace e83 : tm 83 = .bool false := e83;have hRl : (R.length : Int) = m.of.length := of_decide_eq_true hd;have hrow3 : z9S m (L.getD i []) = z4H R.length fun q => inF m (R.getD q 0) (m.of.getD q 0) := by unfold z9S; rw [hR, hd]; rfl
  repeat fail
  refine z2r ?_;refine zc5 ?_;refine zG (fun (j : Nat) s => ∃ (tm : Nat → Value), s = ⟨tm, n, H1, nx1⟩ ∧ tm 1 = .int .i64 p ∧ tm 2 = .pointer (some ⟨nx, 0, none⟩) ∧ tm 5 = .int .i64 i ∧ tm 6 = .int .i64 j ∧ j ≤ R.length ∧ z4H j (fun q => inF m (R.getD q 0) (m.of.getD q 0)) = true) (fun j => R.length - j) 0 ?_ ?_
  ·exact ⟨_, rfl, stp, stp, stp, stp, by omega, z1e⟩
  clear e1 e2 e5 e83 hd;rintro j s ⟨tm, rfl, e1, e2, e5, e6, hj, hallj⟩
  repeat (first | (refine zc (by first | exact omv | exact ofa | exact old | exact z1g | exact z24) ?_) | (refine Trip.seq ?_) | (refine zd ?_) | (refine Trip.block ?_) | (refine zJ (fun _ => ?_) (fun _ => ?_)) | (refine Trip.skip ?_; (change Trip _ _ _ _ _)) | (refine OpsL.nil ?_; (change Trip _ _ _ _ _)))
  ·have hltj : j < R.length := by omega
   have hltj2 : j < m.of.length := by omega
   obtain ⟨q3, rfl, hc3⟩ := IntsAt.atI hrow2 (show (0 : Int) ≤ j by omega) (show (j : Int) < R.length by omega);obtain ⟨q4, hq4, hc4⟩ := IntsAt.atI (oh.ext x1 okG) (show (0 : Int) ≤ j by omega) (show (j : Int) < m.of.length by omega);cases hq4;simp only [Int.toNat_natCast] at hc3 hc4;obtain ⟨x, hx⟩ : ∃ x, R.getD j 0 = x := ⟨_, rfl⟩;obtain ⟨kk, hkk⟩ : ∃ x, m.of.getD j 0 = x := ⟨_, rfl⟩;rw [hx] at hc3;rw [hkk] at hc4
   repeat (first | (refine zc (by first | exact omv | exact old | exact z1j | exact z09) ?_) | (refine Trip.seq ?_) | (refine OpsL.nil ?_; (change Trip _ _ _ _ _)))
   refine Trip.mono (Q := fun e st => e = .normal ∧ ∃ (tm' : Nat → Value), st = ⟨tm', n, H1, nx1⟩ ∧ tm' 1 = .int .i64 p ∧ tm' 2 = .pointer (some ⟨nx, 0, none⟩) ∧ tm' 5 = .int .i64 i ∧ tm' 6 = .int .i64 j ∧ tm' 123 = .bool (!inF m x kk)) ?_ ?_
   ·refine z04 [] (K := fun _ _ => True) zU krf krf [0, 1, 2, 3, 4, 5, 6, 7, 8, 9, 10, 11, 12, 13, 14, 15, 16, 17, 18, 19, 20, 21] krf trivial ?_;refine zg1 ?_;refine zek ?_;refine zg1 ?_;by_cases h0 : x < 0
    ·refine z0y ?_ (c := h0);have hF : inF m x kk = false := decide_eq_false fun q => by omega
     refine z0n ?_;refine z4G ?_;refine zg0 ?_;refine zdp ?_;refine zdm ?_;refine z7d ?_;refine zfB ?_;refine OpsR.nil ?_;exact ⟨rfl, _, rfl, stp, stp, stp, stp, stp⟩
    refine z0z ?_ (c := h0);refine z0n ?_;refine z4G ?_;refine z7c ?_;refine zg9 ?_;refine zgD ?_;refine z6u ?_;by_cases h1 : (m.of.length : Int) ≤ x
    ·refine z5f ?_ (c := h1);have hF : inF m x kk = false := decide_eq_false fun q => by omega
     refine z0n ?_;refine z9W ?_;refine zfB ?_;refine OpsR.nil ?_;exact ⟨rfl, _, rfl, stp, stp, stp, stp, stp⟩
    refine z5g ?_ (c := h1);refine z0n ?_;obtain ⟨q5, hq5, hc5⟩ := IntsAt.atI (oh.ext x1 okG) (show 0 ≤ x by omega) (show x < m.of.length by omega);cases hq5;refine z9W ?_;refine z9Z ?_;refine zg9 ?_;refine zg2 ?_;refine z6u ?_;by_cases h2 : m.of.getD x.toNat 0 = kk
    ·refine z02 ?_ (c := h2);have hF : inF m x kk = true := decide_eq_true ⟨⟨by omega, by omega⟩, h2⟩;clear h2;refine zdl ?_;exact ⟨rfl, _, rfl, stp, stp, stp, stp, stp⟩
    ·refine z08 ?_ (c := h2);have hF : inF m x kk = false := decide_eq_false fun q => h2 q.2;clear h2;refine zdl ?_;exact ⟨rfl, _, rfl, stp, stp, stp, stp, stp⟩
   clear e1 e2 e5 e6;rintro e st ⟨rfl, tm, rfl, e1, e2, e5, e6, e123⟩
   (change Trip _ _ _ _ _)
   cases hs : inF m x kk
   ·rw [hs] at e123;replace e123 : tm 123 = .bool true := e123
    repeat fail
    refine z9U ?_;exact ⟨.inr rfl, _, zn, by rw [z1D hlt (hrow3.trans (z1D hltj (by rw [hx, hkk]; exact hs)))]; rfl, x0.trans x1⟩
   ·rw [hs] at e123;replace e123 : tm 123 = .bool false := e123
    repeat fail
    refine zfH ?_;exact ⟨j + 1, ⟨_, rfl, stp, stp, stp, stp, by omega, z1N hallj (by rw [hx, hkk]; exact hs)⟩, by omega⟩
  ·repeat (first | (refine zc (by exact omv) ?_) | (refine zd ?_) | (refine Trip.exit ?_; ((repeat (first | refine zD ?_ | refine zH ?_)); change Trip _ _ _ _ _)))
   have hj2 : j = R.length := by omega
   subst hj2
   repeat (first | (refine zc (by first | exact z09 | exact z6e) ?_) | (refine OpsL.nil ?_; (dsimp only)))
   exact ⟨i + 1, ⟨_, rfl, stp, stp, stp, by omega, z1N hall (hrow3.trans hallj)⟩, by omega⟩
 ·repeat (first | (refine zc (by exact z09) ?_) | (refine Trip.seq ?_) | (refine zd ?_) | (refine Trip.exit ?_; ((repeat (refine zD ?_)); change Trip _ _ _ _ _)) | (refine Trip.ret ?_; (dsimp only)) | (refine OpsL.nil ?_; (change Trip _ _ _ _ _)))
  have hi2 : i = L.length := by omega
  subst hi2;exact ⟨.inr rfl, _, zn, by rw [hall]; rfl, x0.trans x1⟩
end Go.Proofs.Ytjgbcpagfghfnaa
