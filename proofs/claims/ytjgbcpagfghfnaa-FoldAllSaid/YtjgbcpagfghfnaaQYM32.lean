import Derived.Test.YtjgbcpagfghfnaaQYM31
import Derived.Test.YtjgbcpagfghfnaaQYM15
set_option linter.unusedVariables false
set_option linter.unusedSimpArgs false
set_option linter.unnecessarySimpa false
namespace Go.Proofs.Ytjgbcpagfghfnaa
open Go.Am Go.RowKit
attribute [local irreducible] aop OpsL Trip zt z1X z1E OpsR OpsQ
set_option maxRecDepth 20000 in
set_option maxHeartbeats 16000000 in
theorem zhH (W0 : World) {nx : Nat} {G : Heap} {m : Mo} {V0 : MoV} {cv lv : Value} {cls L : List Int} {tm : Nat → Value} {n : Nat} {σ : CH} {A i p N : Nat} {pl cl : Int} {D : Mo} {V : MoV} (hn0 : n = 100) (hn : MoLen m) (hmod : ModOk m) (hl : cls.length = m.of.length) (okG : ∀ id o, G id = some o → id < nx + 1) (hb : MoBox G nx m V0) (hG : MoIn G m V0) (hcG : IntsAt G cv cls) (hp : p < m.of.length) (hT : MT tm cv lv nx A i p N) (hL : OwnC z1L 3 .next σ lv L) (h : MgS ⟨nx + 1, fun _ => .old, G⟩ σ A (nx + 1) pl cl D V) (hLb : ∀ x ∈ L, 0 ≤ x ∧ x < (m.of.length : Int)) (hLl : L.length ≤ 1000) {ra : Option Addr} {rk : Nat} {R : List (List Int)} (hR : m.ret.getD p [] = R) (hrow : L2At G (.slice ra R.length rk) R) (t9 : tm 9 = .slice none 0 0) (t77 : tm 77 = .slice ra R.length rk) (t78 : tm 78 = .int .i64 R.length) (t79 : tm 79 = .int .i64 0)
  {Q : AExit → ASt → Prop} (hQ : ∀ tm' τ v, MT tm' cv lv nx A i p N → OwnC z1L 3 .next τ lv L → tm' 9 = v → RowP2 (.ret2 D.ret.length) (.ret1 D.ret.length) τ v (R.map fun row => zC cls (zC row L)) → MgS ⟨nx + 1, fun _ => .old, G⟩ τ A (nx + 1) pl cl D V → Q .normal ⟨tm', n, τ.H, τ.nx⟩) : Trip Try.prog W0 (z3t [1, 1, 1, 0, 1, 2, 2, 1, 1, 0, 2, 1, 1, 1, 1, 1, 1, 0, 1] (z0B Try.f23)) ⟨tm, n, σ.H, σ.nx⟩ Q := by
 have hst := hmod.st;have hrl := hn.ret1 p;rw [hR] at hrl;refine Trip.block ?_;refine zG (fun (j : Nat) s => ∃ tm σ v, s = ⟨tm, n, σ.H, σ.nx⟩ ∧ MT tm cv lv nx A i p N ∧ tm 9 = v ∧ tm 77 = .slice ra R.length rk ∧ tm 78 = .int .i64 R.length ∧ tm 79 = .int .i64 j ∧ j ≤ R.length ∧ OwnC z1L 3 .next σ lv L ∧ MgS ⟨nx + 1, fun _ => .old, G⟩ σ A (nx + 1) pl cl D V ∧ RowP2 (.ret2 D.ret.length) (.ret1 D.ret.length) σ v ((R.take j).map fun row => zC cls (zC row L))) (fun j => R.length - j) 0 ?_ ?_
 ·exact ⟨tm, σ, _, rfl, hT, t9, t77, t78, t79, Nat.zero_le _, hL, h, OwnLC.nil⟩
 clear h hL hT t9 t77 t78 t79;rintro j s ⟨tm, σ, v, rfl, ⟨t1, t2, t4, t5, t6, t8, t23, t24, t25⟩, t9, t77, t78, t79, hj, hL, h, hret⟩
 repeat (first | (refine zc (by exact z24) ?_) | (refine Trip.seq ?_) | (refine zd ?_) | (refine Trip.block ?_) | (refine zJ (fun _ => ?_) (fun _ => ?_)) | (refine Trip.skip ?_; (change Trip _ _ _ _ _)) | (refine OpsL.nil ?_; (change Trip _ _ _ _ _)))
 ·have hlt : j < R.length := by omega
  obtain ⟨q1, sb, sk, rfl, hc1, hrw⟩ := L2At.atI hrow (show (0 : Int) ≤ j by omega) (show (j : Int) < R.length by omega);rw [Int.toNat_natCast] at hc1 hrw;replace hc1 := zI h.old.ext okG hc1;have hz : m.of.getD p 0 ≠ 0 := fun e => by rw [← hR, hmod.ret0 _ hp e] at hlt; simp at hlt
  obtain ⟨k1, k2⟩ := (hmod.ret1 _ hp hz).2 j (by rw [hR]; exact hlt);rw [hR] at k1 k2
  have hsn : (R.take (j + 1)).map (fun row => zC cls (zC row L)) = (R.take j).map (fun row => zC cls (zC row L)) ++ [zC cls (zC (R.getD j []) L)] := by
   rw [List.take_succ_eq_append_getElem hlt, List.map_append, List.getD_eq_getElem?_getD, List.getElem?_eq_getElem hlt]; rfl
  have hml : ((R.take j).map fun row => zC cls (zC row L)).length = j := by simp; omega
  rw [← Nat.sub_zero j] at hml;generalize (R.take j).map (fun row => zC cls (zC row L)) = W at *;obtain ⟨r, hr⟩ : ∃ r, R.getD j [] = r := ⟨_, rfl⟩;rw [hr] at hc1 hrw k1 k2 hsn;clear hr;have hin1 : ∀ i, i < L.length → 0 ≤ L.getD i 0 ∧ L.getD i 0 < r.length := fun i hi => by rw [k1]; exact hLb _ (zM hi)
  have hin2 : ∀ i, i < (zC r L).length → 0 ≤ (zC r L).getD i 0 ∧ (zC r L).getD i 0 < cls.length := fun i hi => by
   rw [z0r] at hi;rw [show (zC r L).getD i 0 = r.getD (L.getD i 0).toNat 0 from zL _ _ hi _ 0, hl];have := hLb _ (zM hi);exact (k2 _ (by omega)).1
  have hpl := z0r r L;have hWl : W.length ≤ 100000 := by omega
  clear hml k1 k2
  repeat (first | (refine zc (by first | exact omv | exact z1j | exact old | exact z09) ?_) | (refine zd ?_) | (refine OpsL.nil ?_; (change Trip _ _ _ _ _)))
  refine OpsL.c2 (hf := z2S) (hc := (zbm W0 (hrw.ext h.old.ext okG) hL.ints (by omega) hin1)) (h := ?_);rintro v1 nx1 H1 ⟨hpk, hx⟩;obtain ⟨σ1, rfl, rfl, x1, hP1⟩ := hpk.plain hx (.ret2 D.ret.length W.length);replace hL := hL.keep x1 (by simp);replace h := h.loc x1 (by simp);replace hret := z01 x1 (by simp) (fun _ _ => by simp) hret;refine OpsL.c2 (hf := z2S) (hc := (zbm W0 (hcG.ext h.old.ext okG) hP1.ints (by rw [hpl]; omega) hin2)) (h := ?_);rintro v2 nx2 H2 ⟨hpk2, hx2⟩;obtain ⟨σ2, rfl, rfl, x2, hP2⟩ := hpk2.plain hx2 (.ret2 D.ret.length W.length);replace hL := hL.keep x2 (by simp);replace h := h.loc x2 (by simp);replace hret := z01 x2 (by simp) (fun _ _ => by simp) hret;clear hP1;obtain ⟨b, hv2, -⟩ := hP2.block;obtain ⟨z, hz2⟩ : ∃ z : SV, .slice (some ⟨b, 0, none⟩) (zC cls (zC r L)).length (zC cls (zC r L)).length = slV z := ⟨(some ⟨b, 0, none⟩, (zC cls (zC r L)).length, (zC cls (zC r L)).length), rfl⟩;rw [hz2] at hv2;subst hv2;clear hz2;refine z0i (σ := σ2) (enc := z8E) (a := slV z) (z := z) (el := 22) rfl evd krf sdc ?_;intro σ3 x3 hu;replace hL := hL.keep x3 (by simp);replace h := h.loc x3 (by simp);replace hret := z01 x3 (by simp) (fun _ _ => by simp) hret;replace hP2 := hP2.keep x3 (by simp);obtain ⟨vs, hvs, hall⟩ := hret;refine zT (bytes := 24) (z := [.slice none 0 0]) z0b z1n hvs hu xrf xrf xrf xrf xrf rfl (by have := hall.1; simp; omega) (by omega) evd evd sdc ?_;intro v3 σ4 hown x4;replace hL := hL.keep x4 (by simp);replace h := h.loc x4 (by simp [zft]);replace hall := hall.keep (fun i u x _ hr => hr.keep x4 (by simp));replace hP2 := hP2.keep x4 (by simp);refine zgX ?_;exact ⟨j + 1, ⟨_, σ4, v3, rfl, ⟨stp, stp, stp, stp, stp, stp, stp, stp, stp⟩, stp, stp, stp, stp, by omega, hL, h, by rw [hsn]; exact ⟨_, hown, hall.push hP2⟩⟩, by omega⟩
 ·repeat (first | (refine Trip.exit ?_; ((repeat (refine zD ?_)))))
  have hj2 : j = R.length := by omega
  subst hj2;rw [List.take_length] at hret;exact hQ _ σ v ⟨stp, stp, stp, stp, stp, stp, stp, stp, stp⟩ hL stp hret h
set_option maxRecDepth 20000 in
set_option maxHeartbeats 16000000 in
theorem zhG (W0 : World) {nx : Nat} {G : Heap} {m : Mo} {V0 : MoV} {cv lv : Value} {cls L : List Int} {tm : Nat → Value} {n : Nat} {σ : CH} {A i p N : Nat} {pl cl : Int} {D : Mo} {V : MoV} (hn0 : n = 100) (hn : MoLen m) (hmod : ModOk m) (hl : cls.length = m.of.length) (okG : ∀ id o, G id = some o → id < nx + 1) (hb : MoBox G nx m V0) (hG : MoIn G m V0) (hcG : IntsAt G cv cls) (hp : p < m.of.length) (hT : MT tm cv lv nx A i p N) (hL : OwnC z1L 3 .next σ lv L) (h : MgS ⟨nx + 1, fun _ => .old, G⟩ σ A (nx + 1) pl cl D V) {v : Value} {rows : List (List Int)} (t9 : tm 9 = v) (hret : RowP2 (.ret2 D.ret.length) (.ret1 D.ret.length) σ v rows) (hlen : D.ret.length ≤ 1000)
  {Q : AExit → ASt → Prop} (hQ : ∀ tm' τ V', MT tm' cv lv nx A i p N → OwnC z1L 3 .next τ lv L → MgS ⟨nx + 1, fun _ => .old, G⟩ τ A (nx + 1) pl cl { D with ret := D.ret ++ [rows] } V' → Q .normal ⟨tm', n, τ.H, τ.nx⟩) : Trip Try.prog W0 (z3t [1, 1, 1, 0, 1, 2, 2, 1, 1, 0, 2, 1, 1, 1, 1, 1, 1, 1] (z0B Try.f23)) ⟨tm, n, σ.H, σ.nx⟩ Q := by
 have hst := hmod.st;obtain ⟨t1, t2, t4, t5, t6, t8, t23, t24, t25⟩ := hT;have ga : zf σ.H ⟨A, 7, none⟩ V.r := h.a.cell rfl
 obtain ⟨z, hz⟩ : ∃ z : SV, v = slV z := by
  obtain ⟨vs, q1, q2⟩ := hret;obtain ⟨a, k, q3⟩ := OwnC.slice z0b q1;exact ⟨(a, vs.length, k), q3⟩
 subst hz
 repeat (first | (refine zc (by first | exact ofa | exact old | exact omv) ?_) | (refine zd ?_))
 clear ga;refine z0i (σ := σ) (enc := z8E) (a := slV z) (z := z) (el := 26) rfl evd krf sdc ?_;intro σ2 x2 hu;replace hL := hL.keep x2 (by simp);replace h := h.loc x2 (by simp);replace hret := z01 x2 (by simp) (fun _ _ => by simp) hret;obtain ⟨vs, hvs, hall⟩ := h.ret;refine zT (bytes := 24) (z := [.slice none 0 0]) z0b z1n hvs hu xrf xrf xrf xrf xrf rfl (by have := hall.1; simp; omega) (by omega) evd evd sdc ?_;intro v3 σ3 hown x3;replace hL := hL.keep x3 (by simp);have ha3 := h.a.keep x3 (by simp);replace hall := hall.keep (fun i u x _ hr => z01 x3 (by simp) (fun _ _ => by simp) hr);replace hret := z01 x3 (by simp) (fun _ _ => by simp) hret;obtain ⟨wa, wk, rfl⟩ := OwnC.slice z0b hown
 repeat (first | (refine zc (by exact ofa) ?_))
 refine zP (k := 7) (v := .slice wa (vs ++ [z]).length wk) (cs' := moC pl cl { V with r := .slice wa (vs ++ [z]).length wk }) ha3 (by simp [moC]) rfl xrf rfl rfl evr evd rfl ?_;intro τ hat xt _;replace hL := hL.keep xt (by simp);replace hown := hown.keep xt (by simp);replace hall := hall.keep (fun i u x _ hr => z01 xt (by simp) (fun _ _ => by simp) hr);replace hret := z01 xt (by simp) (fun _ _ => by simp) hret;refine z0n ?_;have hrw : RowP3 τ (.slice wa (vs ++ [z]).length wk) (D.ret ++ [rows]) := ⟨_, hown, hall.push hret⟩;have h9 := h.setRe (x3.trans2 xt (fun c hc => by simp at hc; simp [hc]) (fun c hc => by simp at hc; simp [hc])) hrw hat;exact hQ _ τ _ ⟨stp, stp, stp, stp, stp, stp, stp, stp, stp⟩ hL h9
end Go.Proofs.Ytjgbcpagfghfnaa
namespace Go.Proofs.Ytjgbcpagfghfnaa
open Go.Am Go.RowKit
attribute [local irreducible] aop OpsL Trip zt z1X z1E OpsR OpsQ
theorem z23 : Am.z1G Try.prog 23 := ⟨Try.f23, Try.func23, by kernel_rfl, by kernel_rfl⟩
set_option maxRecDepth 20000 in
set_option maxHeartbeats 16000000 in
theorem z5z (W0 : World) {nx : Nat} {H : Heap} {m : Mo} {V : MoV} {cv : Value} {cls : List Int} (hm : MoIn H m V) (hn : MoLen m) (hmod : ModOk m) (hcl : IntsAt H cv cls) (hl : cls.length = m.of.length) :
  ACalls Try.prog W0 23 [.agg (moV m V).toArray, cv] nx H fun v nx' H' => ∃ V' τ, v = .agg (moV (z06 m cls) V').toArray ∧ nx' = τ.nx ∧ H' = τ.H ∧ OldC ⟨nx, fun _ => .old, H⟩ τ ∧ MgO τ (z06 m cls) V' := by
 refine zg (fn := Try.f23) (c := _) Try.func23 rfl (fun tm n hn0 htm => ?_);have e0 : tm 0 = .agg (moV m V).toArray := htm 0;have e1 : tm 1 = cv := htm 1;clear htm;replace hn0 : n = 100 := hn0;refine Trip.ok fun hok => ?_;replace hok : ∀ id o, H id = some o → id < nx := hok;refine z2k ?_;refine zY hm hok ?_ evd sdc;intro G x0 okG hb hG;clear e0;have hcG := hcl.ext x0 hok;have hst := hmod.st;have hn60 := hmod.n.2;refine zo (σ := ⟨nx + 1, fun _ => .old, G⟩) .tmp (zV (l := moV z1O z2j) xrf) sdc ?_;intro σ hR x1;have hold := OldC.keep x1 (by simp) OldC.refl;refine z0n ?_
 (change Trip _ _ _ _ _)
 refine Trip.seq ?_;refine zf6 W0 hn0 hn hst hl okG hb hG hcG hold hR stp stp stp ?_;clear hold hR x1 e1;rintro e st ⟨rfl, tm, σ, A, ve, rfl, t1, t2, t4, t5, hold, hA, hR, hE⟩
 (change Trip _ _ _ _ _)
 have hll : cls.length ≤ 100000 := by omega
 refine zbV ?_;refine OpsL.c1 (hf := z9z) (hc := (zf8 W0 (hcG.ext hold.ext okG) hll)) (h := ?_);rintro lv nx1 H1 ⟨ob, hown, hob, hx⟩;obtain ⟨σ1, rfl, rfl, x1, hL⟩ := hown.hue hob hx .next;clear hown hob hx hll
 have hM : MgS ⟨nx + 1, fun _ => .old, G⟩ σ1 A (nx + 1) m.plains m.closings (mgD m cls (zA cls) 0) ⟨.slice none 0 0, ve, .slice none 0 0, .slice none 0 0, .slice none 0 0, .slice none 0 0⟩ :=
  ⟨hold.keep x1 (by simp), hA.keep x1 (by simp), ⟨_, rfl, hR.keep x1 (by simp)⟩, OwnC.nil, hE.keep x1 (by simp), OwnC.nil, OwnLC.nil, OwnLC.nil, OwnLC.nil⟩
 clear hold hA hR hE x1
 have hLb : ∀ x ∈ zA cls, 0 ≤ x ∧ x < (m.of.length : Int) := fun x hx => by
  obtain ⟨i, hi, rfl⟩ := List.getElem_of_mem hx;have := (z2Y cls cls.length (Nat.le_refl _) i hi).1;change 0 ≤ (zA cls).getD i 0 ∧ (zA cls).getD i 0 < _ at this;rw [List.getD_eq_getElem?_getD, List.getElem?_eq_getElem hi] at this;rw [hl] at this;exact this
 have hall := zcD m cls;have hLl : (zA cls).length ≤ 1000 := by have := z2Q cls cls.length; unfold zA; omega
 change OwnC z1L 3 .next σ1 lv (zA cls) at hL;generalize zA cls = L at *;obtain ⟨la, lk, rfl⟩ := OwnC.slice zR hL;refine zfG ?_;refine zG (fun (i : Nat) s => ∃ tm σ V, s = ⟨tm, n, σ.H, σ.nx⟩ ∧ tm 1 = cv ∧ tm 2 = .pointer (some ⟨nx, 0, none⟩) ∧ tm 4 = .pointer (some ⟨nx + 1, 0, none⟩) ∧ tm 5 = .pointer (some ⟨A, 0, none⟩) ∧ tm 6 = .slice la L.length lk ∧ tm 23 = .slice la L.length lk ∧ tm 24 = .int .i64 L.length ∧ tm 25 = .int .i64 i ∧ i ≤ L.length ∧ OwnC z1L 3 .next σ (.slice la L.length lk) L ∧ MgS ⟨nx + 1, fun _ => .old, G⟩ σ A (nx + 1) m.plains m.closings (mgD m cls L i) V) (fun i => L.length - i) 0 ?_ ?_
 ·exact ⟨_, σ1, _, rfl, stp, stp, stp, stp, stp, stp, stp, stp, Nat.zero_le _, hL, hM⟩
 clear hM hL t1 t2 t4 t5;rintro i s ⟨tm, σ, V1, rfl, t1, t2, t4, t5, t6, t23, t24, t25, hi, hL, h⟩
 repeat (first | (refine zc (by exact z24) ?_) | (refine Trip.seq ?_) | (refine zd ?_) | (refine Trip.block ?_) | (refine zJ (fun _ => ?_) (fun _ => ?_)) | (refine Trip.skip ?_; (change Trip _ _ _ _ _)) | (refine OpsL.nil ?_; (change Trip _ _ _ _ _)))
 ·have hlt : i < L.length := by omega
  have hpr := hLb _ (zM hlt);obtain ⟨P, hP⟩ : ∃ P : Nat, L.getD i 0 = (P : Int) := ⟨(L.getD i 0).toNat, by omega⟩;rw [hP] at hpr;have hPn : P < m.of.length := by omega
  obtain ⟨q, rfl, hc⟩ := hL.ints.atI (show (0 : Int) ≤ i by omega) (show (i : Int) < L.length by omega);rw [Int.toNat_natCast, hP] at hc;obtain ⟨l1, l2, l3, l4, l5⟩ := zcC m cls L hi;have hsn := zb2 m cls L hlt hP;clear hP
  repeat (first | (refine zc (by first | exact z1j | exact old | exact z09) ?_) | (refine Trip.seq ?_) | (refine OpsL.nil ?_; (change Trip _ _ _ _ _)))
  clear hc;refine mA6 W0 (N := L.length) (i := i) (p := P) hn0 hn hmod hl okG hb hG hcG hPn ⟨stp, stp, stp, stp, stp, stp, stp, stp, stp⟩ hL h (by omega) ?_;clear h hL t1 t2 t4 t5 t6 t23 t24 t25;intro tm σ V1 hT hL h
  (change Trip _ _ _ _ _)
  refine Trip.seq ?_;refine mA7 W0 hn0 hn hmod hl okG hb hG hcG hPn hT hL h (by show (mgD m cls L i).final.length ≤ 1000; omega) ?_;clear h hL hT;intro tm σ V1 hT hL h
  (change Trip _ _ _ _ _)
  refine Trip.seq ?_;refine mA8 W0 hn0 hn hmod hl okG hb hG hcG hPn hT hL h (by show (mgD m cls L i).inn.length ≤ 1000; omega) ?_;clear h hL hT;intro tm σ V1 hT hL h
  (change Trip _ _ _ _ _)
  refine Trip.seq ?_;refine mA9 W0 hn0 hn hmod hl okG hb hG hcG hPn hT hL h (by show (mgD m cls L i).low.length ≤ 1000; omega) ?_;clear h hL hT;intro tm σ V1 hT hL h
  (change Trip _ _ _ _ _)
  obtain ⟨t1, t2, t4, t5, t6, t8, t23, t24, t25⟩ := hT;obtain ⟨oa, oc, ov⟩ := hG.ret.slice;have oh := hG.ret;have gk := (hb.ext h.old.ext okG).c7;rw [ov] at oh gk;have hPr := Nat.lt_of_lt_of_eq hPn hmod.rl.symm;obtain ⟨q1, rb, rk, rfl, hc1, hrow⟩ := L3At.atI oh (show (0 : Int) ≤ P by omega) (show (P : Int) < m.ret.length by omega);rw [Int.toNat_natCast] at hc1 hrow;replace hc1 := zI h.old.ext okG hc1;refine z2k ?_
  (first | (refine zc (by exact z09) ?_))
  refine z0n ?_
  (change Trip _ _ _ _ _)
  refine Trip.seq (Trip.seq ?_);refine zd ?_
  (first | (refine zc (by exact ofa) ?_))
  (first | (refine zc (by exact old) ?_))
  (first | (refine zc (by exact omv) ?_))
  (first | (refine zc (by exact z1j) ?_))
  (first | (refine zc (by exact old) ?_))
  (first | (refine zc (by exact z1g) ?_))
  (first | (refine zc (by exact omv) ?_))
  refine z0n ?_
  (change Trip _ _ _ _ _)
  clear gk hc1;refine zhH W0 (N := L.length) (i := i) (p := P) hn0 hn hmod hl okG hb hG hcG hPn ⟨stp, stp, stp, stp, stp, stp, stp, stp, stp⟩ hL h hLb hLl rfl hrow stp stp stp stp ?_;clear h hL t1 t2 t4 t5 t6 t8 t23 t24 t25;intro tm σ v hT hL t9 hret h
  (change Trip _ _ _ _ _)
  refine zhG W0 hn0 hn hmod hl okG hb hG hcG hPn hT hL h t9 hret (by show (mgD m cls L i).ret.length ≤ 1000; omega) ?_;clear h hL hT hret t9;rintro tm σ V1 ⟨t1, t2, t4, t5, t6, t8, t23, t24, t25⟩ hL h;refine zen ?_;exact ⟨i + 1, ⟨_, σ, V1, rfl, stp, stp, stp, stp, stp, stp, stp, stp, by omega, hL, by rw [hsn]; exact h⟩, by omega⟩
 ·have hi2 : i = L.length := by omega
  subst hi2;rw [hall] at h;obtain ⟨cs, hcs, h4⟩ := h.r;have hga : z1f σ.H ⟨A, 0, none⟩ 8 = some (moC m.plains m.closings V1) := z0d h.a.2.2 rfl;refine zeG ?_;refine zw sdc (zy (k := 8) evd xrf rfl xrf hga) ?_;refine zO (vs := moC m.plains m.closings V1) h4 xrf rfl (by rw [hcs]; rfl) h.one evd evd ?_;intro τ ho hx;refine z0n ?_
  (change Trip _ _ _ _ _)
  refine Trip.ret ?_;have hold := h.old.keep hx (by simp);refine ⟨.inr rfl, _, z50 stp (z2n xrf rfl xrf (z0d ho.2.2 rfl)), V1, τ, rfl, rfl, rfl, ⟨Nat.le_trans (Nat.le_succ _) hold.1, fun i hi => ⟨(hold.2 i (Nat.lt_succ_of_lt hi)).1, ((hold.2 i (Nat.lt_succ_of_lt hi)).2).trans (x0.2 i hi)⟩⟩, ?_⟩;exact ⟨h.of.keep hx (by simp), h.en.keep hx (by simp), h.fi.keep hx (by simp), z01 hx (by simp) (fun _ _ => by simp) h.inn, z01 hx (by simp) (fun _ _ => by simp) h.low, z1U hx (by simp) (fun _ _ => by simp) (fun _ _ _ => by simp) h.ret⟩
end Go.Proofs.Ytjgbcpagfghfnaa
namespace Go.Am
open Go.RowKit
def i8 (l : List Int) : List Value := l.map (.int .i8 ·)
def i8V (l : List Int) : Value := .agg (i8 l).toArray
def zaG : List (List Int) → Nat → List (Value × Value)
 | [], _ => []
 | k :: K, j => (i8V k, .int .i8 j) :: zaG K (j + 1)
theorem zcv (a : Int) (h : -128 ≤ a ∧ a ≤ 127) : IntKind.i8.wrap a = a := by
 have e : IntKind.i8.wrap a = (a + 128) % 256 - 128 := by
  unfold IntKind.wrap IntKind.bits IntKind.signed;simp;omega
 rw [e];omega
theorem zaP : ∀ (K : List (List Int)) (j : Nat), (zaG K j).length = K.length
 | [], _ => rfl
 | _ :: K, j => by simp [zaG, zaP K]
theorem z8U (k : List Int) : ∀ (K : List (List Int)) (j : Nat), zaG (K ++ [k]) j = zaG K j ++ [(i8V k, .int .i8 ((j + K.length : Nat) : Int))]
 | [], j => rfl
 | a :: K, j => by
  rw [List.cons_append, zaG, z8U k K (j + 1), zaG, List.cons_append, List.length_cons];rw [show j + 1 + K.length = j + (K.length + 1) by omega]
section
variable {P : Program} {W0 : World} {H : Heap} {nx n : Nat} {ev : Operand → Option Value} {dst : Option Tmp} {type : TypeId} {pos : String} {after : Array Edge} {guard : Option (Nat × Bool)}
theorem z9C {t : TypeId} {x i : Operand} {ok : Bool} {v k r : Value} (hx : ev x = some v) (hi : ev i = some k) (h : z5E P H t v k ok = some r) : aop P H nx ev ⟨dst, .lookup t x i ok, type, pos, after, guard⟩ = some (r, .none) := by simp [aop, hx, hi, h]
theorem z76 {t : TypeId} {m k x : Operand} {a b c : Value} {e : Eff} (hm : ev m = some a) (hk : ev k = some b) (hx : ev x = some c) (h : z0k P H t a b c = some e) : aop P H nx ev ⟨dst, .mapUpdate t m k x, type, pos, after, guard⟩ = some (undef, e) := by simp [aop, hm, hk, hx, h]
theorem z5q {t : TypeId} : aop P H nx ev ⟨dst, .makeMap t none, type, pos, after, guard⟩ = some (.map (some nx), .new (.map [] [] 0)) := by simp [aop, z3Y, z6q]
theorem zbL {t kt et : TypeId} {x : Operand} {m : Nat} {es : List (Value × Value)} {bs : List Nat} {clk : Nat} (hx : ev x = some (.map (some m))) (hu : P.underlying t = some (.map kt et)) (hm : H m = some (.map es bs clk)) :
  aop P H nx ev ⟨dst, .call ⟨.builtin .len, #[x], #[t]⟩, type, pos, after, guard⟩ = some (.int .i64 es.length, .none) := by simp [aop, hx, z1k, z1o, zfL, hu, hm]
end
theorem zdc {P : Program} {H : Heap} {t el : TypeId} {len sz : Nat} {xs ys : Array Value} (d : Nat) (hu : P.underlying t = some (.array len el)) (hs : z1W P el = some sz) : aEq P H (d + 1) t (.agg xs) (.agg ys) = z3g P (aEq P H d) el sz xs.toList ys.toList (List.range len) := by
 simp only [aEq, hu, hs]
section
variable {P : Program} {el : TypeId} (hel : P.underlying el = some (.int .i8))
theorem za9 (hel : P.underlying el = some (.int .i8)) (k : List Int) (i : Nat) (h : i < k.length) : z2H P el (i8 k) (i * 1) = some (.int .i8 k[i]) := by
 unfold z2H;rw [hel];simp [z5O, i8, h]
theorem ze1 (hel : P.underlying el = some (.int .i8)) (H : Heap) (d : Nat) (k k2 : List Int) : ∀ (is : List Nat), (∀ i ∈ is, i < k.length ∧ i < k2.length) → z3g P (aEq P H (d + 1)) el 1 (i8 k) (i8 k2) is = some (decide (∀ i ∈ is, k[i]? = k2[i]?)) := by
 intro is
 induction is with
 | nil => intro _; simp [z3g]
 | cons i is ih =>
  intro h;obtain ⟨h1, h2⟩ := h i List.mem_cons_self;have := ih fun j hj => h j (List.mem_cons_of_mem _ hj);have he : aEq P H (d + 1) el (.int .i8 k[i]) (.int .i8 k2[i]) = some (k[i] == k2[i]) := by simp only [aEq, hel, if_true]
  simp only [z3g, za9 hel k i h1, za9 hel k2 i h2, he];by_cases hk : k[i] = k2[i]
  ·rw [hk, beq_self_eq_true];simp only [this];congr 1;rw [Bool.eq_iff_iff];simp only [decide_eq_true_eq, List.mem_cons, forall_eq_or_imp, List.getElem?_eq_getElem h1, List.getElem?_eq_getElem h2, hk, true_and]
  ·rw [show (k[i] == k2[i]) = false by simpa using hk];simp only;congr 1;symm;rw [decide_eq_false_iff_not];intro hh;have := hh i List.mem_cons_self;rw [List.getElem?_eq_getElem h1, List.getElem?_eq_getElem h2] at this;exact hk (Option.some.inj this)
theorem zfZ {t : TypeId} {len : Nat} (hel : P.underlying el = some (.int .i8)) (hsz : z1W P el = some 1) (hu : P.underlying t = some (.array len el)) (H : Heap) (d : Nat) {k k2 : List Int} (h1 : k.length = len) (h2 : k2.length = len) : aEq P H (d + 2) t (i8V k) (i8V k2) = some (decide (k = k2)) := by
 unfold i8V;rw [zdc (d + 1) hu hsz];show z3g P (aEq P H (d + 1)) el 1 (i8 k) (i8 k2) (List.range len) = _;rw [ze1 hel H d k k2 (List.range len) fun i hi => by rw [List.mem_range] at hi; omega];congr 1;rw [Bool.eq_iff_iff, decide_eq_true_eq, decide_eq_true_eq];constructor
 ·intro h;refine List.ext_getElem? fun i => ?_;by_cases hi : i < len
  ·exact h i (List.mem_range.2 hi)
  ·rw [List.getElem?_eq_none (by omega), List.getElem?_eq_none (by omega)]
 ·intro h; subst h; exact fun _ _ => rfl
end
theorem ze0 (k : List Int) (H : Heap) : za3 H (i8V k) = true := by
 have : z2t (i8V k) = true := by
  unfold i8V z2t i8;simp only [List.all_map];rw [List.all_eq_true];intro x _;rfl
 unfold za3;rw [this];rfl
end Go.Am
namespace Go.Proofs.Ytjgbcpagfghfnaa
open Go.Am Go.RowKit
theorem zge (H : Heap) {k k2 : List Int} (h1 : k.length = 61) (h2 : k2.length = 61) : aEq Try.prog H 60 87 (i8V k) (i8V k2) = some (decide (k = k2)) :=
 zfZ (el := 70) Try.underlying70 xrf Try.underlying87 H 58 h1 h2
theorem zcw {k : List Int} (h1 : k.length = 61) : z1m Try.prog 60 87 (i8V k) = true := by
 unfold i8V;have h59 : ∀ a : Int, z1m Try.prog 59 70 (.int .i8 a) = true := fun a => by kernel_rfl
 unfold z1m;rw [Try.underlying87];simp only [show z1W Try.prog 70 = some 1 from rfl];rw [List.all_eq_true];intro i hi;rw [List.mem_range] at hi;rw [za9 (P := Try.prog) Try.underlying70 k i (by omega)];exact h59 _
theorem z6E (H : Heap) {k : List Int} (hk : k.length = 61) : ∀ (K : List (List Int)) (j i : Nat), (∀ e ∈ K, e.length = 61) → z3X Try.prog H 87 (i8V k) (zaG K j) i = some (if k ∈ K then some (i + K.idxOf k, .int .i8 ((j + K.idxOf k : Nat) : Int)) else none)
 | [], _, _, _ => by simp [zaG, z3X]
 | a :: K, j, i, h => by
  have ih := z6E H hk K (j + 1) (i + 1) fun e he => h e (List.mem_cons_of_mem _ he);simp only [zaG, z3X, zge H hk (h a List.mem_cons_self)];by_cases e : k = a
  ·subst e;simp
  ·have e2 : (a == k) = false := by simpa using fun q => e q.symm
   rw [decide_eq_false e];simp only [ih, List.mem_cons, e, false_or, List.idxOf_cons, e2, cond_false];rw [show i + 1 + K.idxOf k = i + (K.idxOf k + 1) by omega, show j + 1 + K.idxOf k = j + (K.idxOf k + 1) by omega]
def TabAt (H : Heap) (mt : Nat) (K : List (List Int)) : Prop := (∀ e ∈ K, e.length = 61) ∧ ∃ bs clk, H mt = some (.map (zaG K 0) bs clk)
theorem TabAt.told {H : Heap} {mt : Nat} {K : List (List Int)} {k : List Int} (h : TabAt H mt K) (hk : k.length = 61) :
  z5E Try.prog H 85 (.map (some mt)) (i8V k) true = some (if k ∈ K then .tuple #[.int .i8 (K.idxOf k), .bool true] else .tuple #[.int .i8 0, .bool false]) := by
 obtain ⟨h1, bs, clk, hm⟩ := h;have hf := z6E H hk K 0 0 h1;unfold z5E;simp only [Try.underlying85, zeQ, hm, show zce Try.prog 70 = some (.int .i8 0) from rfl, zcw hk, show (Try.prog.underlying 87).isSome = true from rfl, and_self, if_true, hf];by_cases e : k ∈ K
 ·simp only [if_pos e, Nat.zero_add]
 ·simp only [if_neg e]
theorem TabAt.put {H : Heap} {mt : Nat} {K : List (List Int)} {k : List Int} {v : Int} (h1 : ∀ e ∈ K, e.length = 61) {bs : List Nat} {clk : Nat} (hm : H mt = some (.map (zaG K 0) bs clk)) (hk : k.length = 61) (hn : k ∉ K) (hv : v = (K.length : Int)) :
  z0k Try.prog H 85 (.map (some mt)) (i8V k) (.int .i8 v) = some (.upd mt (.map (zaG (K ++ [k]) 0) (bs ++ [clk]) (clk + 1))) := by
 have hf := z6E H hk K 0 0 h1;subst hv;unfold z0k;simp only [Try.underlying85, hm, zcw hk, ze0, show (Try.prog.underlying 87).isSome = true from rfl, and_self, if_true, hf, if_neg hn, z8U, Nat.zero_add]
attribute [local irreducible] aop OpsL Trip zt z1X z1E OpsR OpsQ
theorem z4T : Am.z1G Try.prog 54 := ⟨Try.f54, Try.func54, by kernel_rfl, by kernel_rfl⟩
set_option maxRecDepth 20000 in
set_option maxHeartbeats 16000000 in
theorem zci (W0 : World) {nx : Nat} {H : Heap} {mt : Nat} {K : List (List Int)} {k : List Int} (hK : TabAt H mt K) (hmt : mt < nx) (hk : k.length = 61) (hl : K.length ≤ 100) :
  ACalls Try.prog W0 54 [.map (some mt), i8V k] nx H fun v nx' H' => v = .int .i8 (K.idxOf k) ∧ nx ≤ nx' ∧ (∀ i, i < nx → i ≠ mt → H' i = H i) ∧ TabAt H' mt (if k ∈ K then K else K ++ [k]) := by
 refine zg (fn := Try.f54) (c := _) Try.func54 rfl (fun tm n hn0 htm => ?_);have e0 : tm 0 = .map (some mt) := htm 0;have e1 : tm 1 = i8V k := htm 1;clear htm;replace hn0 : n = 22 := hn0;refine Trip.ok fun hok => ?_;replace hok : ∀ id o, H id = some o → id < nx := hok;refine z2k ?_;refine OpsL.new sdc (z5C (v := .agg (i8 k).toArray) evr) ?_;obtain ⟨G, hG⟩ : ∃ G, (H.put nx (.cells (i8 k) 0 none false (some 87))) = G := ⟨_, rfl⟩;have hb : G nx = some (.cells (i8 k) 0 none false (some 87)) := by rw [← hG]; exact zu
 have x0 : Ext nx H (nx + 1) G := by rw [← hG]; exact z0p
 have hall : z1f G ⟨nx, 0, none⟩ 61 = some (i8 k) := z0d hb (by simp [i8, hk]);change OpsL _ _ _ _ ⟨_, _, H.put nx (.cells (i8 k) 0 none false (some 87)), _⟩ _;rw [hG];clear hG
 have hKG : TabAt G mt K := by
  obtain ⟨h1, bs, clk, hm⟩ := hK;exact ⟨h1, bs, clk, by rw [x0.2 mt hmt]; exact hm⟩
 clear hb hK;refine zfp ?_;refine zw sdc (zy (k := 61) evd xrf rfl xrf hall) ?_;refine zw sdc (z9C evd evr (hKG.told hk)) ?_;by_cases e : k ∈ K
 ·rw [if_pos e, if_pos e];refine z9V ?_;refine zw sdc (z0V (a := #[.int .i8 (K.idxOf k), .bool true]) (v := .int .i8 (K.idxOf k)) evd rfl) ?_;refine zw sdc (z0V (a := #[.int .i8 (K.idxOf k), .bool true]) (v := .bool true) evd rfl) ?_
  repeat (first | (refine zc (by first | exact omv | exact z09 | exact z4W) ?_) | (refine Trip.seq ?_) | (refine zd ?_) | (refine OpsL.nil ?_; (change Trip _ _ _ _ _)))
  refine zfV ?_;exact ⟨.inr rfl, _, zn, by simp [zb], x0.1, fun i hi _ => x0.2 i hi, hKG⟩
 ·rw [if_neg e, if_neg e];have hidx := List.idxOf_eq_length e;obtain ⟨h1, bs, clk, hm⟩ := hKG;have hw : IntKind.i8.wrap ((zaG K 0).length : Int) = (K.length : Int) := by rw [zaP]; exact zcv _ ⟨by omega, by omega⟩
  have hput := TabAt.put h1 hm hk e rfl;refine z9V ?_;refine zw sdc (z0V (a := #[.int .i8 0, .bool false]) (v := .int .i8 0) evd rfl) ?_;refine zw sdc (z0V (a := #[.int .i8 0, .bool false]) (v := .bool false) evd rfl) ?_
  repeat (first | (refine zc (by first | exact omv | exact z09 | exact z4W) ?_) | (refine Trip.seq ?_) | (refine zd ?_) | (refine OpsL.nil ?_; (change Trip _ _ _ _ _)))
  refine z07 ?_;refine zbV ?_;refine zw sdc (zbL evd Try.underlying85 hm) ?_;refine zw sdc (z89 evr xrf xrf) ?_;rw [hw];clear hw
  repeat (first | (refine zc (by first | exact omv | exact z09) ?_) | (refine zd ?_) | (refine OpsL.nil ?_; (change Trip _ _ _ _ _)))
  refine zw sdc (zy (k := 61) evd xrf rfl xrf hall) ?_;refine z9V ?_;refine OpsL.upd (z76 evd evr evd hput) ?_
  repeat (first | (refine zc (by first | exact omv | exact z09) ?_) | (refine Trip.seq ?_) | (refine zd ?_) | (refine Trip.ret ?_; (dsimp only)) | (refine OpsL.nil ?_; (change Trip _ _ _ _ _)))
  refine ⟨.inr rfl, _, zn, by simp [zb, hidx], x0.1, fun i hi hne => by rw [zj hne]; exact x0.2 i hi, fun q hq => ?_, bs ++ [clk], clk + 1, zu⟩;rcases List.mem_append.1 hq with hq | hq
  ·exact h1 q hq
  ·rw [List.mem_singleton.1 hq]; exact hk
end Go.Proofs.Ytjgbcpagfghfnaa
