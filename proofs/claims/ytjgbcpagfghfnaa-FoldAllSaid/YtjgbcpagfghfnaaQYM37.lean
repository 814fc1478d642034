import Derived.Test.YtjgbcpagfghfnaaQYM36
import Derived.Test.YtjgbcpagfghfnaaQYM15
set_option linter.unusedVariables false
set_option linter.unusedSimpArgs false
set_option linter.unnecessarySimpa false
namespace Go.Proofs.Ytjgbcpagfghfnaa
open Go.Am Go.RowKit
attribute [local irreducible] aop OpsL Trip zt z1X z1E OpsR OpsQ
theorem z4o : Am.z1G Try.prog 26 := ⟨Try.f26, Try.func26, by kernel_rfl, by kernel_rfl⟩
set_option maxRecDepth 20000 in
set_option maxHeartbeats 16000000 in
theorem z7K (W0 : World) {nx : Nat} {H : Heap} {m : Mo} {V : MoV} (hm : MoIn H m V) (hmod : ModOk m) :
  ACalls Try.prog W0 26 [.agg (moV m V).toArray] nx H fun v nx' H' => NewP 3 nx nx' H' v ((zF m).map (.int .i64 ·)) ∧ Ext nx H nx' H' := by
 refine zg (fn := Try.f26) (c := _) Try.func26 rfl (fun tm n hn0 htm => ?_);have e0 : tm 0 = .agg (moV m V).toArray := htm 0;clear htm;replace hn0 : n = 9 := hn0;refine Trip.ok fun hok => ?_;replace hok : ∀ id o, H id = some o → id < nx := hok;refine z2k ?_;refine zY hm hok ?_ evd sdc;intro G x0 okG hb hG;clear e0;have hn60 := hmod.n.2;obtain ⟨oa, oc, ov⟩ := hG.of.slice;have g2 := hb.c2;rw [ov] at g2;have hga := hb.all;obtain ⟨k1, k2, -⟩ := z19 hmod
 have hcb : ∀ x ∈ zF m, 0 ≤ x ∧ x ≤ 100 := fun x hx => by
  obtain ⟨i, hi, rfl⟩ := List.getElem_of_mem hx;have := zab k1 hi;rw [List.getD_eq_getElem?_getD, List.getElem?_eq_getElem hi] at this;have := za6 (zF m);simp only [Option.getD_some] at *;omega
 have hc60 : (zF m).length ≤ 60 := by omega
 refine zfC ?_;have hK : ∀ l : List Nat, ∀ k ∈ l, z1f G ⟨nx, 0, none⟩ 8 = some (moV m V) ∧ zf G ⟨nx, 2, none⟩ (.slice oa m.of.length oc) := fun _ _ _ => ⟨hga, g2⟩;have h0 := hK [0] 0 (by simp);refine OpsQ.drawn [1, 5, 6] (K := fun _ _ H => z1f H ⟨nx, 0, none⟩ 8 = some (moV m V) ∧ zf H ⟨nx, 2, none⟩ (.slice oa m.of.length oc)) zU krf krf [0, 2, 3, 4, 1, 5, 6] krf (hK _) ?_;refine z00 1 (v := .agg (moV m V).toArray) rfl krf sdc h0 (fun H2 nx2 hK => zy (k := 8) evd xrf rfl xrf hK.1) ?_;refine z5s ?_;refine z00 5 (v := .slice oa m.of.length oc) rfl krf sdc h0 (fun H2 nx2 hK => z0a evr xrf rfl hK.2) ?_;refine z00 5 (v := .int .i64 m.of.length) rfl krf sdc h0 (fun H2 nx2 hK => zcI evr xrf) ?_;clear h0 hK;refine z1K ?_;refine OpsL.c1 (hf := z8j) (hc := (zdI W0 hG hmod)) (h := ?_);rintro v1 nx1 H1 ⟨rfl, y1⟩;refine OpsL.nil ⟨fun _ _ => ⟨z2v y1 okG hga, zI y1 okG g2⟩, ?_⟩;refine z1K ?_;have hnum := zdQ W0 (nx := nx1) (H := H1) hc60 hcb;rw [k2] at hnum;refine OpsL.c2 (hf := z74) (hc := hnum) (h := ?_);rintro v2 nx2 H2 ⟨hv, y2⟩;refine OpsL.nil ⟨fun _ _ => ⟨z2v (y1.trans y2) okG hga, zI (y1.trans y2) okG g2⟩, ?_⟩;refine z1K ?_
 (first | (refine zc (by exact z09) ?_))
 refine OpsL.nil ⟨fun _ h => by simp at h, ?_⟩;refine OpsQ.nil ?_
 (change Trip _ _ _ _ _)
 refine zdq ?_;obtain ⟨b, b1, b2, b3, b4⟩ := hv;have := x0.1; have := y1.1;exact ⟨.inr rfl, _, zn, ⟨b, by omega, b2, by simp [zb, b3], b4⟩, (x0.trans y1).trans y2⟩
theorem z4L : Am.z1G Try.prog 10 := ⟨Try.f10, Try.func10, by kernel_rfl, by kernel_rfl⟩
set_option maxRecDepth 20000 in
set_option maxHeartbeats 16000000 in
theorem z98 (W0 : World) {nx : Nat} {H : Heap} {m : Mo} {V : MoV} (hm : MoIn H m V) (hn : MoLen m) (hmod : ModOk m) :
  ACalls Try.prog W0 10 [.agg (moV m V).toArray] nx H fun v nx' H' => NewP 4 nx nx' H' v ((z0 m).map .bool) ∧ Ext nx H nx' H' := by
 refine zg (fn := Try.f10) (c := _) Try.func10 rfl (fun tm n hn0 htm => ?_);have e0 : tm 0 = .agg (moV m V).toArray := htm 0;clear htm;replace hn0 : n = 8 := hn0;refine Trip.ok fun hok => ?_;replace hok : ∀ id o, H id = some o → id < nx := hok;refine z2k ?_;refine zY hm hok ?_ evd sdc;intro G x0 okG hb hG;clear e0;refine zaF ?_;refine zS hb ?_ evd sdc;refine OpsL.c1 (hf := z35) (hc := (z8M W0 hG hn)) (h := ?_);rintro v1 nx1 H1 ⟨rfl, y1⟩;rw [z2u.2 hmod];refine z9Q ?_;refine zeO ?_;refine zS (hb.ext y1 okG) ?_ evd sdc;refine OpsL.c1 (hf := z2O) (hc := (z6j W0 (hG.ext y1 okG) hn hmod)) (h := ?_);rintro v2 nx2 H2 ⟨hv, y2⟩;refine zeP ?_;obtain ⟨b, b1, b2, b3, b4⟩ := hv;have := x0.1; have := y1.1;exact ⟨.inr rfl, _, zn, ⟨b, by omega, b2, by simp [zb, b3], b4⟩, (x0.trans y1).trans y2⟩
theorem NewP.bools {nx : Nat} {nx' : Nat} {H' : Heap} {v : Value} {l : List Bool} (h : NewP 4 nx nx' H' v (l.map .bool)) : BoolsAt H' v l := by
 obtain ⟨b, _, _, rfl, hH⟩ := h;refine .inr ⟨⟨b, 0, none⟩, l.length, by rw [List.length_map], fun i hi => ⟨_, ?_, rfl⟩⟩;rw [Nat.zero_add];exact z0c hH (by rw [List.getElem?_map, List.getElem?_eq_getElem hi]; rfl)
theorem z4M : Am.z1G Try.prog 14 := ⟨Try.f14, Try.func14, by kernel_rfl, by kernel_rfl⟩
set_option maxRecDepth 20000 in
set_option maxHeartbeats 16000000 in
theorem z99 (W0 : World) {nx : Nat} {H : Heap} {m : Mo} {V : MoV} (hm : MoIn H m V) (hn : MoLen m) (hmod : ModOk m) :
  ACalls Try.prog W0 14 [.agg (moV m V).toArray] nx H fun v nx' H' => NewP 3 nx nx' H' v ((zx m).map (.int .i64 ·)) ∧ Ext nx H nx' H' := by
 refine zg (fn := Try.f14) (c := _) Try.func14 rfl (fun tm n hn0 htm => ?_);have e0 : tm 0 = .agg (moV m V).toArray := htm 0;clear htm;replace hn0 : n = 35 := hn0;refine Trip.ok fun hok => ?_;replace hok : ∀ id o, H id = some o → id < nx := hok;refine z2k ?_;refine zY hm hok ?_ evd sdc;intro G x0 okG hb hG;clear e0;have hn60 := hmod.n.2;have hrl := z0j hmod.st;have hrl1 : (z0 m).length ≤ 100000 := by omega
 have hro := z7P hmod;have hlen : (zZ (z0 m)).length ≤ 100 := by have := hro.len; omega
 refine zaF ?_;refine zS hb ?_ evd sdc;refine OpsL.c1 (hf := z35) (hc := (z8M W0 hG hn)) (h := ?_);rintro v1 nx1 H1 ⟨rfl, y1⟩;rw [z2u.2 hmod];refine z9Q ?_;refine zeO ?_;refine zS (hb.ext y1 okG) ?_ evd sdc;refine OpsL.c1 (hf := z2O) (hc := (z6j W0 (hG.ext y1 okG) hn hmod)) (h := ?_);rintro v2 nx2 H2 ⟨hv2, y2⟩;refine OpsL.c1 (hf := z3H) (hc := (zaJ W0 (NewP.bools hv2) hrl1)) (h := ?_);rintro v3 nx3 H3 ⟨hv3, y3⟩;have z3 := (y1.trans y2).trans y3;obtain ⟨b, b1, b2, rfl, b4⟩ := hv3
 have hints : ∀ {H' : Heap}, H' b = H3 b → IntsAt H' (.slice (some ⟨b, 0, none⟩) (zZ (z0 m)).length (zZ (z0 m)).length) (zZ (z0 m)) := fun {H'} h => by
  refine .inr ⟨⟨b, 0, none⟩, (zZ (z0 m)).length, rfl, fun i hi => ?_⟩;rw [Nat.zero_add];exact z0c (by rw [h]; exact b4) (by rw [List.getElem?_map, List.getElem?_eq_getElem hi]; rfl)
 rw [List.length_map] at *;refine zaF ?_;refine zS (hb.ext z3 okG) ?_ evd sdc;refine z9V ?_;refine OpsL.c2 (hf := z23) (hc := (z5z W0 (hG.ext z3 okG) hn hmod (hints rfl) hro.len)) (h := ?_);rintro v4 nx4 H4 ⟨Vb, τ, rfl, rfl, rfl, ho4, hM⟩;have hbare := z3x hmod;change MgO τ (zX m) Vb at hM;change OpsL _ _ _ _ ⟨zb _ _ (.agg (moV (zX m) Vb).toArray), _, _, _⟩ _;refine OpsL.c1 (hf := z4o) (hc := (z7K W0 hM.in hbare)) (h := ?_);rintro v5 nx5 H5 ⟨hv5, y5⟩;obtain ⟨d, d1, d2, rfl, d4⟩ := hv5;have y4 : Ext nx3 H3 τ.nx τ.H := ho4.ext;have c4 : H5 b = some (.cells ((zZ (z0 m)).map (.int .i64 ·)) 1 none false (some 3)) := by rw [y5.2 b (Nat.lt_of_lt_of_le b2 y4.1), y4.2 b b2]; exact b4
 have hbd : b ≠ d := by have := y4.1; omega
 have hcl : (zF (zX m)).length = (zA (zZ (z0 m))).length := by rw [(z19 hbare).2.1]; simp [zX, z06]
 have z5 : Ext (nx + 1) G nx5 H5 := (z3.trans y4).trans y5
 have hrange : ∀ i, i < (zZ (z0 m)).length → (zZ (z0 m)).getD i 0 ≠ -1 → 0 ≤ (zZ (z0 m)).getD i 0 ∧ (zZ (z0 m)).getD i 0 < ((zF (zX m)).length : Int) := fun i hi h1 => by
  have hi2 : i < (z0 m).length := by simpa [zZ] using hi
  have h2 : 0 ≤ (zZ (z0 m)).getD i 0 := by
   rw [z0G hi2] at h1 ⊢;split
   ·omega
   ·rename_i e; rw [if_neg e] at h1; exact absurd rfl h1
  exact ⟨h2, by rw [hcl]; exact hro.num i (by omega) h2⟩
 have hfin : zx m = (zZ (z0 m)).map fun x => if x = -1 then x else (zF (zX m)).getD x.toNat 0 := rfl
 have hlow : ∀ i, i < (zZ (z0 m)).length → -1 ≤ (zZ (z0 m)).getD i 0 := fun i hi => by
  by_cases e : (zZ (z0 m)).getD i 0 = -1
  ·omega
  ·have := hrange i hi e; omega
 have hb1 : nx + 1 ≤ b := by have := y1.1; have := y2.1; omega
 have hb2 : b < nx5 := by have := y4.1; have := y5.1; omega
 clear hints hv2 b4 hM ho4 hb hG y1 y2 y3 y4 y5 z3 hro hrl1 hrl;rw [List.length_map];generalize zZ (z0 m) = L at *;generalize zF (zX m) = D at *;refine zgR ?_;refine zG (fun (i : Nat) s => ∃ (tm : Nat → Value) (F : Heap), s = ⟨tm, n, F, nx5⟩ ∧ Ext (nx + 1) G nx5 F ∧ F b = some (.cells (((L.take i).map (fun x => if x = -1 then x else D.getD x.toNat 0) ++ L.drop i).map (.int .i64 ·)) 1 none false (some 3)) ∧ F d = some (.cells (D.map (.int .i64 ·)) 1 none false (some 3)) ∧ tm 3 = .slice (some ⟨b, 0, none⟩) L.length L.length ∧ tm 4 = .slice (some ⟨d, 0, none⟩) D.length D.length ∧ tm 17 = .slice (some ⟨b, 0, none⟩) L.length L.length ∧ tm 18 = .int .i64 L.length ∧ tm 19 = .int .i64 i ∧ i ≤ L.length) (fun i => L.length - i) 0 ?_ ?_
 ·exact ⟨_, H5, rfl, z5, by simpa using c4, d4, stp, stp, stp, stp, stp, by omega⟩
 clear c4 d4 z5;rintro i s ⟨tm, F, rfl, hx, hF, hD, t3, t4, t17, t18, t19, hi⟩
 repeat (first | (refine zc (by first | exact omv | exact z24) ?_) | (refine Trip.seq ?_) | (refine zd ?_) | (refine Trip.block ?_) | (refine zJ (fun _ => ?_) (fun _ => ?_)) | (refine Trip.skip ?_; (change Trip _ _ _ _ _)) | (refine OpsL.nil ?_; (change Trip _ _ _ _ _)))
 ·have hlt : i < L.length := by omega
  have hml : ((L.take i).map fun x => if x = -1 then x else D.getD x.toNat 0).length = i := by simp; omega
  have hdr : L.drop i = L.getD i 0 :: L.drop (i + 1) := by rw [List.drop_eq_getElem_cons hlt, List.getD_eq_getElem?_getD, List.getElem?_eq_getElem hlt]; rfl
  have hsn : (L.take (i + 1)).map (fun x => if x = -1 then x else D.getD x.toNat 0) = (L.take i).map (fun x => if x = -1 then x else D.getD x.toNat 0) ++ [if L.getD i 0 = -1 then L.getD i 0 else D.getD (L.getD i 0).toNat 0] := by
   rw [List.take_succ_eq_append_getElem hlt, List.map_append, List.getD_eq_getElem?_getD, List.getElem?_eq_getElem hlt]; rfl
  have hr := hrange i hlt;have hlo := hlow i hlt;rw [hdr] at hF;obtain ⟨x, hxx⟩ : ∃ x, L.getD i 0 = x := ⟨_, rfl⟩;rw [hxx] at hF hsn hr hlo;generalize hMM : (L.take i).map (fun x => if x = -1 then x else D.getD x.toNat 0) = M at *
  have ci : zf F ⟨b, 0 + i * 1, none⟩ (.int .i64 x) := by
   rw [Nat.zero_add, Nat.mul_one];refine z0c hF ?_;rw [List.map_append, List.getElem?_append_right (by rw [List.length_map]; omega), List.length_map, hml, Nat.sub_self];rfl
  replace hml : PLift (M.length = i) := ⟨hml⟩;clear hMM hdr;refine zfq ?_;by_cases e : x = -1
  ·refine zw sdc (z87 evr (by rfl) e) ?_;rw [if_pos e] at hsn;clear e ci;refine z68 ?_;refine zc6 ?_;refine ⟨i + 1, ⟨_, F, rfl, hx, ?_, hD, stp, stp, stp, stp, stp, by omega⟩, by omega⟩;rw [hsn, List.append_assoc];exact hF
  ·refine zw sdc (zbb evr (by rfl) e) ?_;obtain ⟨r1, r2⟩ := hr e;rw [if_neg e] at hsn;clear e hr
   have cd : zf F ⟨d, 0 + x.toNat * 1, none⟩ (.int .i64 (D.getD x.toNat 0)) := by
    rw [Nat.zero_add, Nat.mul_one];refine z0c hD ?_;rw [List.getElem?_map, List.getElem?_eq_getElem (by omega), List.getD_eq_getElem?_getD, List.getElem?_eq_getElem (by omega)];rfl
   have hset : ((M ++ x :: L.drop (i + 1)).map (Value.int .i64 ·)).set i (.int .i64 (D.getD x.toNat 0)) = ((M ++ [D.getD x.toNat 0]) ++ L.drop (i + 1)).map (.int .i64 ·) := by
    rw [z3A, List.set_append_right _ _ (by rw [hml.down]; exact Nat.le_refl _), hml.down, Nat.sub_self, List.append_assoc];rfl
   have hcl2 : i < ((M ++ x :: L.drop (i + 1)).map (Value.int .i64 ·)).length := by have := hml.down; simp; omega
   rw [← hsn] at hset;refine z9O ?_;refine zeL ?_;refine OpsL.storeAt (a := ⟨b, 0 + (i : Int).toNat * 1, none⟩) (v := .int .i64 (D.getD x.toNat 0)) (cs' := ((L.take (i + 1)).map (fun x => if x = -1 then x else D.getD x.toNat 0) ++ L.drop (i + 1)).map (.int .i64 ·)) i evr evd xrf rfl rfl hF (by simp) hcl2 hset ?_;clear ci cd;refine zeo ?_;exact ⟨i + 1, ⟨_, _, rfl, ⟨hx.1, fun j hj => by rw [zj (by omega)]; exact hx.2 j hj⟩, zu, by rw [zj hbd.symm]; exact hD, stp, stp, stp, stp, stp, by omega⟩, by omega⟩
 ·have hi2 : i = L.length := by omega
  subst hi2;refine zdu ?_;rw [List.take_length, List.drop_length, List.append_nil, ← hfin] at hF;have hfl : (zx m).length = L.length := by rw [hfin, List.length_map]
  exact ⟨.inr rfl, _, zn, ⟨b, by omega, by omega, by rw [List.length_map, hfl]; simp [zb, *], hF⟩, x0.trans hx⟩
end Go.Proofs.Ytjgbcpagfghfnaa
namespace Go.Proofs.Ytjgbcpagfghfnaa
open Go.Am Go.RowKit
attribute [local irreducible] aop OpsL Trip zt z1X z1E OpsR OpsQ
def rdO (m : Mo) (V : MoV) (a : Int) (lv : Value) : AObj := .cells (moV m V ++ [.int .i64 a, lv]) 0 none false (some 62)
structure RdS (σ0 σ : CH) (rb : Nat) (m : Mo) (V : MoV) (s : Int × List Int) : Prop where
 old : OldC σ0 σ
 r : ∃ lv, ObC .self σ rb (rdO m V s.1 lv) ∧ OwnC z1L 3 .next σ lv s.2
theorem RdS.keep {S : List Co} {σ0 σ τ : CH} {rb : Nat} {m : Mo} {V : MoV} {s : Int × List Int} (hc : Chg S σ τ) (h1 : Co.old ∉ S) (h2 : Co.self ∉ S) (h3 : Co.next ∉ S) (h : RdS σ0 σ rb m V s) : RdS σ0 τ rb m V s := by
 obtain ⟨ho, lv, q1, q2⟩ := h;exact ⟨ho.keep hc h1, lv, q1.keep hc h2, q2.keep hc h3⟩
def zaN (σ0 : CH) (rb : Nat) (m : Mo) (V : MoV) (o : Option (Int × List Int)) (v : Value) (nx' : Nat) (H' : Heap) : Prop :=
 (o = none ∧ v = .bool false ∧ ∃ τ : CH, nx' = τ.nx ∧ H' = τ.H ∧ OldC σ0 τ) ∨ ∃ t, o = some t ∧ v = .bool true ∧ ∃ τ : CH, nx' = τ.nx ∧ H' = τ.H ∧ RdS σ0 τ rb m V t
theorem z9y : Am.z1G Try.prog 44 := ⟨Try.f44, Try.func44, by kernel_rfl, by kernel_rfl⟩
set_option maxRecDepth 20000 in
set_option maxHeartbeats 16000000 in
theorem zh7 (W0 : World) {σ0 σ : CH} {rb : Nat} {m : Mo} {V : MoV} {s : Int × List Int} {i : Int} (h : RdS σ0 σ rb m V s) (hm0 : MoIn σ0.H m V) (ok0 : ∀ id o, σ0.H id = some o → id < σ0.nx) (hmod : ModOk m) (hg : RGood m (fun _ => True) s) (hs2 : s.2.length ≤ 100000) :
  ACalls Try.prog W0 44 [.pointer (some ⟨rb, 0, none⟩), .int .i64 i] σ.nx σ.H fun v nx' H' => zaN σ0 rb m V (z25 m s (1, i)) v nx' H' := by
 refine zg (fn := Try.f44) (c := _) Try.func44 rfl (fun tm n hn0 htm => ?_);have e0 : tm 0 = .pointer (some ⟨rb, 0, none⟩) := htm 0;have e1 : tm 1 = .int .i64 i := htm 1;clear htm;replace hn0 : n = 40 := hn0;obtain ⟨⟨a0, a1⟩, -, ab⟩ := hg.at;obtain ⟨ho, lv, hr, hL⟩ := h;obtain ⟨la, lk, rfl⟩ := OwnC.slice zR hL;obtain ⟨sa, sl⟩ := s;simp only at a0 a1 ab hL hr hs2;obtain ⟨P, rfl⟩ : ∃ P : Nat, sa = (P : Int) := ⟨sa.toNat, by omega⟩;rw [Int.toNat_natCast] at ab;have hP : P < m.of.length := by omega
 have g3 : zf σ.H ⟨rb, 3, none⟩ V.e := hr.cell rfl;have g8 : zf σ.H ⟨rb, 8, none⟩ (.int .i64 P) := hr.cell rfl;have g9 : zf σ.H ⟨rb, 9, none⟩ (.slice la sl.length lk) := hr.cell rfl;obtain ⟨ea, ec, ev⟩ := hm0.entry.slice;have eh := hm0.entry;rw [ev] at g3 eh;have hk := hmod.k
 repeat (first | (refine zc (by first | exact omv | exact z09 | exact z0q evr | exact ofa | exact old | exact z1g | exact zc9) ?_) | (refine Trip.seq ?_) | (refine zd ?_) | (refine OpsL.nil ?_; (change Trip _ _ _ _ _)))
 refine OpsL.c3 (hf := z1s) (hc := (z3w W0 _ _ _)) (h := ?_);rintro v1 nx1 H1 ⟨d, rfl, hd, rfl, rfl⟩
 have hst : z25 m ((P : Int), sl) (1, i) = if 0 ≤ i ∧ i ≤ (m.entry.length : Int) - 2 then some (m.entry.getD (i + 1).toNat 0, sl ++ [(P : Int)]) else none := by
  unfold z25; rw [if_pos rfl]
 cases d
 ·have hn : ¬ (0 ≤ i ∧ i ≤ (m.entry.length : Int) - 2) := fun q => by have := hd.2 q; cases this
  rw [if_neg hn] at hst;refine z9Q ?_;refine zaE ?_;exact ⟨.inr rfl, _, zn, .inl ⟨hst, by simp [zb], σ, rfl, rfl, ho⟩⟩
 ·obtain ⟨h0, h1⟩ := hd.1 rfl;rw [if_pos ⟨h0, h1⟩] at hst;clear hd;refine z9Q ?_;refine zdo ?_;refine Trip.mono (Q := fun e st => e = .normal ∧ ∃ tm' τ, st = ⟨tm', n, τ.H, τ.nx⟩ ∧ tm' 0 = .pointer (some ⟨rb, 0, none⟩) ∧ tm' 1 = .int .i64 i ∧ OldC σ0 τ ∧ ∃ lv, ObC .self τ rb (rdO m V P lv) ∧ OwnC z1L 3 .next τ lv (sl ++ [(P : Int)])) ?_ ?_
  ·refine OpsQ.drawn [9, 10, 13] (K := fun j _ H => j = 10 → zf H ⟨rb, 9, none⟩ (.slice la sl.length lk)) zU krf krf [0, 1, 2, 3, 4, 5, 6, 7, 8, 9, 10, 11, 12, 13] krf (fun _ _ _ => g9) ?_;refine zfT ?_;refine z00 10 (v := .slice la sl.length lk) rfl krf sdc (fun _ => g9) (fun H2 nx2 hK => z0a evr xrf rfl (hK rfl)) ?_;refine zg3 ?_;refine zbW ?_;refine zeF ?_;refine z1K ?_;refine z0i (σ := σ) (enc := z1L) (z := (P : Int)) (el := 3) rfl evd krf sdc ?_;intro σ2 x2 hu;replace hL := hL.keep x2 (by simp);replace hr := hr.keep x2 (by simp);replace ho := ho.keep x2 (by simp);refine OpsL.nil ⟨fun _ _ _ => hr.cell rfl, ?_⟩;refine z1K ?_;refine zT (bytes := 8) (z := [.int .i64 0]) zR z0I hL hu xrf xrf xrf xrf xrf rfl (by simp; omega) (by omega) evd evd sdc ?_;intro v3 σ3 hown x3;replace hr := hr.keep x3 (by simp);replace ho := ho.keep x3 (by simp);obtain ⟨wa, wk, rfl⟩ := OwnC.slice zR hown;refine OpsL.nil ⟨fun k hk e => by simp at hk; omega, ?_⟩;refine zg8 ?_;refine zbW ?_;refine z67 ?_;refine zP (k := 9) (v := .slice wa (sl ++ [(P : Int)]).length wk) (cs' := moV m V ++ [.int .i64 P, .slice wa (sl ++ [(P : Int)]).length wk]) hr (by show 9 < 10; omega) rfl xrf rfl rfl evr evd rfl ?_;intro τ hat xt _;replace hown := hown.keep xt (by simp);replace ho := ho.keep xt (by simp);refine OpsL.nil ⟨fun k hk => absurd hk (by simp), ?_⟩;refine OpsQ.nil ?_;exact ⟨rfl, _, τ, rfl, stp, stp, ho, _, hat, hown⟩
  clear hr hL ho g3 g8 g9 e0 e1;rintro e st ⟨rfl, tm, σ, rfl, e0, e1, ho, lv, hr, hL⟩;have g3 : zf σ.H ⟨rb, 3, none⟩ V.e := hr.cell rfl;rw [ev] at g3;obtain ⟨q, rfl, hc⟩ := (eh.ext ho.ext ok0).atI (show (0 : Int) ≤ i + 1 by omega) (show (i + 1 : Int) < m.entry.length by omega)
  (change Trip _ _ _ _ _)
  repeat (first | (refine zc (by first | exact omv | exact z0q evr | exact ofa | exact old | exact z6e | exact z1j) ?_) | (refine Trip.seq ?_) | (refine zd ?_))
  refine zP (k := 8) (v := .int .i64 (m.entry.getD (i + 1).toNat 0)) (cs' := moV m V ++ [.int .i64 (m.entry.getD (i + 1).toNat 0), lv]) hr (by show 8 < 10; omega) rfl xrf rfl rfl evr evd rfl ?_;intro τ hat xt _;refine z0n ?_
  (change Trip _ _ _ _ _)
  refine zc7 ?_;exact ⟨.inr rfl, _, zn, .inr ⟨_, hst, by simp [zb], τ, rfl, rfl, ho.keep xt (by simp), lv, hat, hL.keep xt (by simp)⟩⟩
theorem z8k : Am.z1G Try.prog 46 := ⟨Try.f46, Try.func46, by kernel_rfl, by kernel_rfl⟩
set_option maxRecDepth 20000 in
set_option maxHeartbeats 16000000 in
theorem z7z (W0 : World) {σ0 σ : CH} {rb : Nat} {m : Mo} {V : MoV} {s : Int × List Int} {i : Int} (h : RdS σ0 σ rb m V s) (hm0 : MoIn σ0.H m V) (ok0 : ∀ id o, σ0.H id = some o → id < σ0.nx) (hmod : ModOk m) (hg : RGood m (fun _ => True) s) (hs2 : s.2.length ≤ 100000) :
  ACalls Try.prog W0 46 [.pointer (some ⟨rb, 0, none⟩), .int .i64 i] σ.nx σ.H fun v nx' H' => zaN σ0 rb m V (z25 m s (3, i)) v nx' H' := by
 refine zg (fn := Try.f46) (c := _) Try.func46 rfl (fun tm n hn0 htm => ?_);have e0 : tm 0 = .pointer (some ⟨rb, 0, none⟩) := htm 0;have e1 : tm 1 = .int .i64 i := htm 1;clear htm;replace hn0 : n = 31 := hn0;obtain ⟨⟨a0, a1⟩, -, ab⟩ := hg.at;obtain ⟨ho, lv, hr, hL⟩ := h;obtain ⟨la, lk, rfl⟩ := OwnC.slice zR hL;obtain ⟨sa, sl⟩ := s;simp only at a0 a1 ab hL hr hs2;obtain ⟨P, rfl⟩ : ∃ P : Nat, sa = (P : Int) := ⟨sa.toNat, by omega⟩;rw [Int.toNat_natCast] at ab;have hP : P < m.of.length := by omega
 have g0 : zf σ.H ⟨rb, 0, none⟩ (.int .i64 m.plains) := hr.cell rfl;have g5 : zf σ.H ⟨rb, 5, none⟩ V.i := hr.cell rfl;have g8 : zf σ.H ⟨rb, 8, none⟩ (.int .i64 P) := hr.cell rfl;obtain ⟨ia, ic, iv⟩ := hm0.inn.slice;have ih := hm0.inn;rw [iv] at g5 ih;have hk := hmod.pl;have hrl := (hmod.inn P hP).1;have hil := Nat.lt_of_lt_of_eq hP hmod.il.symm;obtain ⟨q1, rb1, rk1, rfl, hc1, hrow⟩ := L2At.atI ih (show (0 : Int) ≤ P by omega) (show (P : Int) < m.inn.length by omega);rw [Int.toNat_natCast] at hc1 hrow;replace hc1 := zI ho.ext ok0 hc1;refine zhr ?_;refine OpsL.c3 (hf := z1s) (hc := (z3w W0 _ _ _)) (h := ?_);rintro v1 nx1 H1 ⟨d, rfl, hd, rfl, rfl⟩
 have hst : z25 m ((P : Int), sl) (3, i) = if 0 ≤ i ∧ i ≤ m.plains - 1 then some ((m.inn.getD P []).getD i.toNat 0, sl) else none := by
  unfold z25; rw [if_neg (show ¬ (3 : Int) = 1 by omega), if_neg (show ¬ (3 : Int) = 2 by omega), if_pos rfl]; rfl
 cases d
 ·have hn : ¬ (0 ≤ i ∧ i ≤ m.plains - 1) := fun q => by have := hd.2 q; cases this
  rw [if_neg hn] at hst;refine z9Q ?_;refine zaE ?_;exact ⟨.inr rfl, _, zn, .inl ⟨hst, by simp [zb], σ, rfl, rfl, ho⟩⟩
 ·obtain ⟨h0, h1⟩ := hd.1 rfl;rw [if_pos ⟨h0, h1⟩] at hst;clear hd;obtain ⟨R, hR⟩ : ∃ R, m.inn.getD P [] = R := ⟨_, rfl⟩;rw [hR] at hc1 hrow hrl hst;clear hR;obtain ⟨q2, rfl, hc2⟩ := hrow.atI h0 (show i < R.length by omega);replace hc2 := zI ho.ext ok0 hc2;refine z9Q ?_;refine zdo ?_;refine OpsQ.drawn [17] (K := fun _ _ _ => True) zU krf krf [0, 1, 2, 3, 4, 5, 6, 7, 8, 9, 10, 11, 12, 13, 14, 15, 16, 17] krf (fun _ _ => trivial) ?_;refine zeM ?_;refine zc2 ?_;refine zg8 ?_;refine zbW ?_;refine z67 ?_;refine zP (k := 8) (v := .int .i64 (R.getD i.toNat 0)) (cs' := moV m V ++ [.int .i64 (R.getD i.toNat 0), .slice la sl.length lk]) hr (by show 8 < 10; omega) rfl xrf rfl rfl evr evd rfl ?_;intro τ hat xt _;refine OpsL.nil ⟨fun k hk => absurd hk (by simp), ?_⟩;refine OpsQ.nil ?_
  (change Trip _ _ _ _ _)
  refine zc7 ?_;exact ⟨.inr rfl, _, zn, .inr ⟨_, hst, by simp [zb], τ, rfl, rfl, ho.keep xt (by simp), _, hat, hL.keep xt (by simp)⟩⟩
end Go.Proofs.Ytjgbcpagfghfnaa
