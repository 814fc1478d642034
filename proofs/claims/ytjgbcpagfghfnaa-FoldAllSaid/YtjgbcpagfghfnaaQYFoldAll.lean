/-
 The law FoldAll of chapter 13 holds for all numbers: what is reached, the classes, the small machine, the words taken: the program's are the reference's.
 Conditions: none beyond the row's own.
-/
import Derived.Test.YtjgbcpagfghfnaaRows
import Derived.Test.YtjgbcpagfghfnaaQYM15
import Derived.Test.YtjgbcpagfghfnaaQYM39
import Derived.Test.YtjgbcpagfghfnaaQYM40
import Derived.Test.YtjgbcpagfghfnaaQYM41
import Derived.Test.YtjgbcpagfghfnaaQYM44
import Derived.Test.YtjgbcpagfghfnaaQYM47
import Derived.Test.YtjgbcpagfghfnaaQYM48
import Derived.Test.YtjgbcpagfghfnaaQYM53
import Derived.Test.YtjgbcpagfghfnaaQYM54
set_option linter.unusedVariables false
set_option linter.unusedSimpArgs false
namespace Go.Am
theorem zbK {P : Program} {H : Heap} {nx : Nat} {pos : String} {type : TypeId} {after : Array Edge} {ev : Operand → Option Value} {dst : Option Tmp} {guard : Option (Nat × Bool)} {t u : TypeId} {x y : Operand} {a : Bool} (hx : ev x = some (.bool a)) (hy : ev y = some (.bool a)) (hu : P.underlying t = some .bool) :
  aop P H nx ev ⟨dst, .binOp .neq t x y u, type, pos, after, guard⟩ = some (.bool false, .none) := by
 have : aEq P H 60 t (.bool a) (.bool a) = some true := by simp [aEq, hu]
 simp [aop, hx, hy, z7a, zer, this]
end Go.Am
namespace Go.Proofs.Ytjgbcpagfghfnaa.foldAll
open Go.Am Go.RowKit Go.ChangeShapes Go.WideShapes Go.ChangeAt
attribute [local irreducible] aop OpsL Trip zt z1X z1E OpsR OpsQ
theorem zb1 {el : TypeId} {nx nx' : Nat} {H' : Heap} {v : Value} {l : List Bool} (h : NewP el nx nx' H' v (l.map .bool)) : ∃ b, nx ≤ b ∧ b < nx' ∧ v = .slice (some ⟨b, 0, none⟩) l.length l.length ∧ H' b = some (.cells (l.map .bool) 1 none false (some el)) := by
 obtain ⟨b, h1, h2, h3, h4⟩ := h;rw [List.length_map] at h3;exact ⟨b, h1, h2, h3, h4⟩
theorem zht {el : TypeId} {nx nx' : Nat} {H' : Heap} {v : Value} {l : List Int} (h : NewP el nx nx' H' v (l.map (.int .i64 ·))) : ∃ b, b < nx' ∧ v = .slice (some ⟨b, 0, none⟩) l.length l.length ∧ H' b = some (.cells (l.map (.int .i64 ·)) 1 none false (some el)) := by
 obtain ⟨b, h1, h2, h3, h4⟩ := h;rw [List.length_map] at h3;exact ⟨b, h2, h3, h4⟩
theorem zb8 {H : Heap} {b : Nat} {el : TypeId} {l : List Bool} {i : Nat} (h : H b = some (.cells (l.map .bool) 1 none false (some el))) (hi : i < l.length) : zf H ⟨b, 0 + i * 1, none⟩ (.bool (l.getD i false)) := by
 rw [Nat.zero_add, Nat.mul_one];exact z0c h (by rw [List.getElem?_map, List.getElem?_eq_getElem hi, List.getD_eq_getElem?_getD, List.getElem?_eq_getElem hi]; rfl)
set_option maxRecDepth 20000 in
set_option maxHeartbeats 16000000 in
theorem law (W0 : World) {nx : Nat} {H : Heap} {size : Int} {nv wv rv : Value} {ns ws : List Int} {raw : List (Int × Int)} (hn : IntsAt H nv ns) (hws : IntsAt H wv ws) (hr : RowsAt z1A 2 H rv raw) (hs : -9223372036854775808 ≤ size ∧ size ≤ 9223372036854775807) (hok0 : ∀ id o, H id = some o → id < nx) :
  ACalls Try.prog W0 3 [.int .i64 size, nv, wv, rv] nx H fun v _ _ => v = .bool true := by
 refine zg (fn := Try.f3) (c := _) Try.func3 rfl (fun tm n hn0 htm => ?_);have e0 : tm 0 = .int .i64 size := htm 0;have e1 : tm 1 = nv := htm 1;have e2 : tm 2 = wv := htm 2;have e3 : tm 3 = rv := htm 3;clear htm;replace hn0 : n = 109 := hn0;refine zaF ?_;refine OpsL.c0 (hf := z8l) (hc := (zgp W0)) (h := ?_);rintro v0 nx0 H0 ⟨rfl, hx0⟩;dsimp only;replace hn := hn.ext hx0 hok0;replace hws := hws.ext hx0 hok0;replace hr := hr.ext hx0 hok0;obtain ⟨ra, rc, rfl⟩ := hr.slice;clear hx0;refine z9Q ?_;refine z2r ?_
 repeat (first | (refine zc (by first | exact omv | exact z1g) ?_) | (refine Trip.seq ?_) | (refine zd ?_) | (refine Trip.skip ?_; (change Trip _ _ _ _ _)))
 by_cases hlong : 50 < raw.length
 ·refine z4e ?_;refine z0n ?_
  (change Trip _ _ _ _ _)
  refine zaE ?_;exact ⟨.inr rfl, _, zn, by simp [zb]⟩
 refine z4f ?_;refine z0n ?_
 (change Trip _ _ _ _ _)
 refine z2r ?_;clear hok0;refine Trip.ok fun hok0 => ?_;replace hok0 : ∀ id o, H0 id = some o → id < nx0 := hok0
 repeat (first | (refine zc (by exact omv) ?_) | (refine Trip.seq ?_) | (refine zd ?_) | (refine Trip.skip ?_; (change Trip _ _ _ _ _)))
 refine OpsL.c2 (hf := zbG) (hc := (zhb W0 hn hok0 hs).ok) (h := ?_);rintro vm nx1 H1 ⟨⟨V, σ, rfl, rfl, rfl, hold, hm⟩, hok1⟩;replace hws := hws.ext hold.ext hok0;replace hr := hr.ext hold.ext hok0;have hmI : MoIn σ.H (z8F size ns) V := hm.in;have hgood : z65 (z8F size ns) = true := zdS (zck size);clear hn hok0 hold hm hs;generalize z8F size ns = m at *;have hmod := z2u.1 hgood;have hst := hmod.st;have hrl := z0j hst;have hcl := z4l hmod;have hn60 := hmod.n.2;clear hgood hst;have hK : OldC ⟨σ.nx, fun _ => .old, σ.H⟩ ⟨σ.nx, fun _ => .old, σ.H⟩ := OldC.refl;obtain ⟨σ0, hσ0⟩ : ∃ σ0 : CH, (⟨σ.nx, fun _ => .old, σ.H⟩ : CH) = σ0 := ⟨_, rfl⟩;have hσ1 : σ0.nx = σ.nx := by rw [← hσ0]
 have hσ2 : σ0.H = σ.H := by rw [← hσ0]
 rw [hσ0] at hK;rw [← hσ1, ← hσ2] at hok1;rw [← hσ2] at hmI hws hr;rw [← hσ1, ← hσ2];clear hσ0 hσ1 hσ2;refine zo .self (zV (l := moV z1O z2j) xrf) sdc ?_;intro σ3 ha x3;obtain ⟨A, hA⟩ : ∃ A, σ0.nx = A := ⟨_, rfl⟩;rw [hA] at ha;change OpsL _ _ _ _ ⟨zb _ _ (.pointer (some ⟨σ0.nx, 0, none⟩)), _, _, _⟩ _;rw [hA];replace hK := hK.keep x3 (by simp);refine zO (vs := moV m V) ha xrf rfl rfl (MoIn.one hmI) evd evd ?_;intro σ4 ha4 x4;replace hK := (hK.keep x4 (by simp)).ext;replace hmI := hmI.ext hK hok1;replace hws := hws.ext hK hok1;replace hr := hr.ext hK hok1;have hbA : MoBox σ4.H A m V := MoBox.of ha4.2.2;clear ha ha4 x3 x4 hK hok1 hA e0 e1;refine z0n ?_
 (change Trip _ _ _ _ _)
 refine Trip.ok fun hok => ?_;replace hok : ∀ id o, σ4.H id = some o → id < σ4.nx := hok;have FA : ∀ {N : Nat} {H' : Heap}, Ext σ4.nx σ4.H N H' → (MoBox H' A m V ∧ MoIn H' m V) ∧ IntsAt H' wv ws ∧ RowsAt z1A 2 H' (.slice ra raw.length rc) raw := fun h => ⟨⟨hbA.ext h hok, hmI.ext h hok⟩, hws.ext h hok, hr.ext h hok⟩;clear hbA hmI hws hr hok
 -- small
 refine z2k ?_;refine zS (FA Ext.refl).1.1 ?_ evd sdc;refine OpsL.c1 (hf := z4k) (hc := (zaa W0 (FA Ext.refl).1.2 hmod.lens hmod)) (h := ?_);rintro v1 N1 H1 ⟨VS, ρ1, rfl, rfl, rfl, hy, hM⟩
 (first | (refine zc (by exact omv) ?_))
 (first | (refine zc (by exact z0V evr xrf) ?_))
 (first | (refine zc (by exact z0V evr xrf) ?_))
 refine zo .self (zV (l := moV z1O z2j) xrf) sdc ?_;intro ρ2 hT x2;obtain ⟨T, hTn⟩ : ∃ T, ρ1.nx = T := ⟨_, rfl⟩;rw [hTn] at hT ⊢;replace hy := hy.keep x2 (by simp);replace hM := hM.keep x2 (by simp);refine zO (vs := moV (z0L m) VS) hT xrf rfl rfl (MoIn.one hM.in) evd evr ?_;intro ρ3 hT3 x3;replace hy := (hy.keep x3 (by simp)).ext;replace hM := (hM.keep x3 (by simp)).in;have hbT : MoBox ρ3.H T (z0L m) VS := MoBox.of hT3.2.2;clear hT hT3 x2 x3 hTn
 (first | (refine zc (by exact z09) ?_))
 refine z0n ?_
 (change Trip _ _ _ _ _)
 refine Trip.ok fun hok => ?_;replace hok : ∀ id o, ρ3.H id = some o → id < ρ3.nx := hok
 -- the reference's
 refine z2k ?_;refine zS (FA hy).1.1 ?_ evd sdc;refine OpsL.c1 (hf := z7k) (hc := (zcO W0 (FA hy).1.2 hmod).ok) (h := ?_);rintro v1 N1 H1 ⟨⟨VU, rfl, hz, hU⟩, hok4⟩;have hoks := zdG hmod;generalize z0L m = k2 at *;obtain ⟨ρ4, rfl, rfl, x4, -⟩ := z0N .tmp hz;have hK : OldC ⟨ρ4.nx, fun _ => .old, ρ4.H⟩ ⟨ρ4.nx, fun _ => .old, ρ4.H⟩ := OldC.refl;obtain ⟨ρ5, hρ⟩ : ∃ ρ5 : CH, (⟨ρ4.nx, fun _ => .old, ρ4.H⟩ : CH) = ρ5 := ⟨_, rfl⟩;have hr1 : ρ5.nx = ρ4.nx := by rw [← hρ]
 have hr2 : ρ5.H = ρ4.H := by rw [← hρ]
 rw [hρ] at hK;rw [← hr2] at hU hz;rw [← hr1] at hz;rw [← hr1, ← hr2] at hok4;rw [← hr1, ← hr2];clear hρ hr1 hr2 x4
 (first | (refine zc (by exact omv) ?_))
 (first | (refine zc (by exact z0V evr xrf) ?_))
 (first | (refine zc (by exact z0V evr xrf) ?_))
 refine zo .self (zV (l := moV z1O z2j) xrf) sdc ?_;intro ρ6 hT x2;obtain ⟨U, hUn⟩ : ∃ U, ρ5.nx = U := ⟨_, rfl⟩;rw [hUn] at hT;change OpsL _ _ _ _ ⟨zb _ _ (.pointer (some ⟨ρ5.nx, 0, none⟩)), _, _, _⟩ _;rw [hUn];replace hK := hK.keep x2 (by simp);refine zO (vs := moV k2 VU) hT xrf rfl rfl (MoIn.one hU) evd evr ?_;intro ρ7 hT7 x3;replace hK := (hK.keep x3 (by simp)).ext;have hbU : MoBox ρ7.H U k2 VU := MoBox.of hT7.2.2;replace hU := hU.ext hK hok4;clear hT hT7 x2 x3 hUn
 (first | (refine zc (by exact z09) ?_))
 refine z0n ?_
 (change Trip _ _ _ _ _)
 refine Trip.ok fun hok7 => ?_;replace hok7 : ∀ id o, ρ7.H id = some o → id < ρ7.nx := hok7;have zz := hz.trans hK;replace FA : ∀ {N : Nat} {H' : Heap}, Ext ρ7.nx ρ7.H N H' → ((MoBox H' A m V ∧ MoIn H' m V) ∧ IntsAt H' wv ws ∧ RowsAt z1A 2 H' (.slice ra raw.length rc) raw) ∧ (MoBox H' T k2 VS ∧ MoIn H' k2 VS) ∧ MoBox H' U k2 VU ∧ MoIn H' k2 VU := fun h => ⟨FA ((hy.trans zz).trans h), ⟨hbT.ext (zz.trans h) hok, hM.ext (zz.trans h) hok⟩, hbU.ext h hok7, hU.ext h hok7⟩;clear hbT hM hok hbU hU hok7 hok4 hz hK hy zz;obtain ⟨wl, wk, rfl⟩ := (FA Ext.refl).1.2.1.slice
 -- what is reached
 refine Trip.seq ?_;refine Trip.mono (Q := fun e st => e = .normal ∧ ∃ tm' N H', st = ⟨tm', n, H', N⟩ ∧ Ext ρ7.nx ρ7.H N H' ∧ tm' 2 = .slice wl ws.length wk ∧ tm' 3 = .slice ra raw.length rc ∧ tm' 9 = .pointer (some ⟨A, 0, none⟩) ∧ tm' 10 = .pointer (some ⟨T, 0, none⟩) ∧ tm' 11 = .int .i64 0 ∧ tm' 12 = .pointer (some ⟨U, 0, none⟩) ∧ tm' 13 = .int .i64 0 ∧ ∃ ba bb, tm' 14 = .slice (some ⟨ba, 0, none⟩) (z0 m).length (z0 m).length ∧ tm' 15 = .slice (some ⟨bb, 0, none⟩) (z0 m).length (z0 m).length ∧ H' ba = some (.cells ((z0 m).map .bool) 1 none false (some 4)) ∧ H' bb = some (.cells ((z0 m).map .bool) 1 none false (some 4))) ?_ ?_
 ·refine OpsQ.drawn [1, 3, 4, 5] (K := fun _ nn HH => Ext ρ7.nx ρ7.H nn HH) zU krf krf [0, 2, 1, 3, 4, 5] krf (fun _ _ => Ext.refl) ?_;refine z00 1 (v := .agg (moV m V).toArray) rfl krf sdc Ext.refl (fun H2 nx2 hK => zy (k := 8) evd xrf rfl xrf (FA hK).1.1.1.all) ?_;refine z00 3 (v := .agg (moV m V).toArray) rfl krf sdc Ext.refl (fun H2 nx2 hK => zy (k := 8) evd xrf rfl xrf (FA hK).1.1.1.all) ?_;refine z1K ?_;refine OpsL.c1 (hf := z4L) (hc := (z98 W0 (FA Ext.refl).1.1.2 hmod.lens hmod)) (h := ?_);rintro v1 nx1 H1 ⟨hv, hx⟩;obtain ⟨ba, q1, q2, rfl, q3⟩ := zb1 hv;refine OpsL.nil ⟨fun _ _ => hx, ?_⟩;refine z1K ?_;refine OpsL.c1 (hf := z3R) (hc := (z6U W0 (FA hx).1.1.2 hmod)) (h := ?_);rintro v1 nx2 H2 ⟨hv, hx2⟩;obtain ⟨bb, p1, p2, rfl, p3⟩ := zb1 hv;have q4 : H2 ba = _ := (hx2.2 _ q2).trans q3;replace hx := hx.trans hx2;clear q1 q2 q3 p1 p2 hx2 hv;refine OpsL.nil ⟨fun _ _ => hx, ?_⟩;refine z1K ?_
  (first | (refine zc (by exact z09) ?_))
  refine OpsL.nil ⟨fun _ _ => hx, ?_⟩;refine z1K ?_
  (first | (refine zc (by exact z09) ?_))
  refine OpsL.nil ⟨fun _ _ => hx, ?_⟩;refine OpsQ.nil ?_;exact ⟨rfl, _, nx2, H2, rfl, hx, stp, stp, stp, stp, stp, stp, stp, ba, bb, stp, stp, q4, p3⟩
 clear e2 e3;rintro e st ⟨rfl, tm, N8, H8, rfl, hx, t2, t3, t9, t10, t11, t12, t13, ba, bb, t14, t15, ga, gb⟩;have hrk : (z0 m).length ≤ 60 := by omega
 (change Trip _ _ _ _ _)
 refine zgC ?_;refine z02 ?_;refine z0n ?_
 (change Trip _ _ _ _ _)
 refine z2r ?_;refine zc5 ?_;generalize z0 m = rr at *;refine Trip.mono (Q := fun e st => e = .exit 0 ∧ ∃ tm', st = ⟨tm', n, H8, N8⟩ ∧ tm' 2 = .slice wl ws.length wk ∧ tm' 3 = .slice ra raw.length rc ∧ tm' 9 = .pointer (some ⟨A, 0, none⟩) ∧ tm' 10 = .pointer (some ⟨T, 0, none⟩) ∧ tm' 11 = .int .i64 0 ∧ tm' 12 = .pointer (some ⟨U, 0, none⟩) ∧ tm' 13 = .int .i64 0) ?_ ?_
 ·refine zG (fun (i : Nat) st => ∃ tm, st = ⟨tm, n, H8, N8⟩ ∧ tm 2 = .slice wl ws.length wk ∧ tm 3 = .slice ra raw.length rc ∧ tm 9 = .pointer (some ⟨A, 0, none⟩) ∧ tm 10 = .pointer (some ⟨T, 0, none⟩) ∧ tm 11 = .int .i64 0 ∧ tm 12 = .pointer (some ⟨U, 0, none⟩) ∧ tm 13 = .int .i64 0 ∧ tm 14 = .slice (some ⟨ba, 0, none⟩) rr.length rr.length ∧ tm 15 = .slice (some ⟨bb, 0, none⟩) rr.length rr.length ∧ tm 16 = .int .i64 i ∧ i ≤ rr.length) (fun i => rr.length - i) 0 ?_ ?_
  ·exact ⟨_, rfl, stp, stp, stp, stp, stp, stp, stp, stp, stp, stp, by omega⟩
  clear t2 t3 t9 t10 t11 t12 t13 t14 t15;rintro i st ⟨tm, rfl, t2, t3, t9, t10, t11, t12, t13, t14, t15, t16, hi⟩
  repeat (first | (refine zc (by first | exact omv | exact z1g | exact z24) ?_) | (refine Trip.seq ?_) | (refine zd ?_) | (refine Trip.block ?_) | (refine zJ (fun _ => ?_) (fun _ => ?_)) | (refine Trip.skip ?_; (change Trip _ _ _ _ _)) | (refine OpsL.nil ?_; (change Trip _ _ _ _ _)))
  ·have hlt : i < rr.length := by omega
   have c1 := zb8 ga hlt;have c2 := zb8 gb hlt;refine OpsQ.drawn [] (K := fun _ _ _ => True) zU krf krf [0, 1, 2, 3, 4, 5, 6, 7, 8] krf (fun _ _ => trivial) ?_;refine zg8 ?_;refine zek ?_;refine zc2 ?_;refine zg3 ?_;refine z9X ?_;refine z5t ?_;refine zg8 ?_;refine zw sdc (zbK evr evd rfl) ?_;refine z0n ?_;refine OpsQ.nil ?_
   (change Trip _ _ _ _ _)
   refine z2r ?_;refine z9R ?_;exact ⟨i + 1, ⟨_, rfl, stp, stp, stp, stp, stp, stp, stp, stp, stp, stp, by omega⟩, by omega⟩
  ·repeat (first | (refine Trip.exit ?_; (dsimp only)))
   exact ⟨rfl, _, rfl, stp, stp, stp, stp, stp, stp, stp⟩
 clear t2 t3 t9 t10 t11 t12 t13 t14 t15 ga gb;rintro e st ⟨rfl, tm, rfl, t2, t3, t9, t10, t11, t12, t13⟩
 ((repeat (refine zD ?_)); change Trip _ _ _ _ _)
 -- the word
 refine z2k ?_;refine zS (FA hx).1.1.1 ?_ evd sdc;refine z9V ?_;refine OpsL.c3 (hf := zao) (hc := (zgn W0 (FA hx).1.1.2 hmod (FA hx).1.2.1 (most := 20) (by omega))) (h := ?_);rintro wv' N9 H9 ⟨w, ob, hwl, how, hob, z9⟩;have FB : ∀ {N : Nat} {H' : Heap}, Ext N8 H8 N H' → _ := fun h => FA (hx.trans h);have W9 : WSt z1A 2 47 N8 H8 ob wv' w N9 H9 := ⟨z9, how, hob⟩;clear FA hx how hob z9
 (first | (refine zc (by exact z09) ?_))
 refine z0n ?_
 (change Trip _ _ _ _ _)
 refine Trip.seq ?_;refine Trip.mono (Q := fun e st => e = .normal ∧ ∃ (tm' : Nat → Value) (nx' : Nat) (H' : Heap), st = ⟨tm', n, H', nx'⟩ ∧ tm' 8 = .bool true) ?_ ?_
 ·refine OpsQ.drawn [1, 3, 4, 13, 18, 21, 27, 30, 37, 38, 42, 43] (K := fun _ nn HH => Ext N8 H8 nn HH) zU krf krf [0, 2, 1, 3, 4, 5, 6, 7, 8, 9, 10, 11, 12, 13, 14, 15, 16, 17, 19, 20, 18, 21, 22, 23, 24, 25, 26, 28, 29, 27, 30, 31, 32, 33, 34, 35, 36, 39, 40, 41, 37, 38, 42, 43, 44, 45, 46] krf (fun _ _ => W9.ext) ?_;refine z00 1 (v := .agg (moV m V).toArray) rfl krf sdc W9.ext (fun H2 nx2 hK => zy (k := 8) evd xrf rfl xrf ((FB hK).1.1.1.all)) ?_;refine z00 3 (v := .agg (moV m V).toArray) rfl krf sdc W9.ext (fun H2 nx2 hK => zy (k := 8) evd xrf rfl xrf ((FB hK).1.1.1.all)) ?_;refine z1K ?_;refine OpsL.c1 (hf := z4M) (hc := (z99 W0 (FB W9.ext).1.1.2 hmod.lens hmod)) (h := ?_);rintro v1 nx1 H1 ⟨hv, z⟩;obtain ⟨ca, p1, rfl, p2⟩ := zht hv;clear hv;replace W9 := W9.go z;clear z;refine OpsL.nil ⟨fun _ _ => W9.ext, ?_⟩;refine z1K ?_;refine OpsL.c1 (hf := z3S) (hc := (z6V W0 (FB W9.ext).1.1.2 hmod)) (h := ?_);rintro v2 nx2 H2 ⟨hv, z⟩;obtain ⟨cb, q1, rfl, q2⟩ := zht hv;have p3 : H2 ca = _ := (z.2 _ p1).trans p2;clear hv p1 p2;replace W9 := W9.go z;clear z;refine OpsL.nil ⟨fun _ _ => W9.ext, ?_⟩;refine z1K ?_;refine OpsL.c2 (hf := z2N) (hc := (z6i W0 (z43 p3 rfl) (z43 q2 rfl) (by omega))) (h := ?_);rintro v3 nx3 H3 ⟨d, rfl, hd, rfl, rfl⟩;obtain rfl := hd.2 rfl;clear hd p3 q1 q2;refine OpsL.nil ⟨fun _ _ => W9.ext, ?_⟩;refine zg8 ?_;refine zek ?_;refine z7b ?_;refine z7b ?_;refine zg8 ?_;refine zB ?_;refine z0H ?_ (c := rfl);refine z0n ?_;refine zg8 ?_;refine zc3 ?_;refine zg3 ?_;refine zB ?_;refine zw sdc (zy (k := 8) evd xrf rfl xrf ((FB W9.ext).2.1.1.all)) ?_;refine z0n ?_;refine zg8 ?_;refine zB ?_;refine zw sdc (zy (k := 8) evd xrf rfl xrf ((FB W9.ext).2.2.1.all)) ?_;refine z0n ?_;refine z1K ?_;refine zB ?_;refine OpsL.c2 (hf := z5n) (hc := (zaW W0 (FB W9.ext).2.1.2 (FB W9.ext).2.2.2 hoks.lens)) (h := ?_);rintro v4 nx4 H4 ⟨d, rfl, hd, z⟩;obtain rfl := hd.2 rfl;clear hd;replace W9 := W9.go z;clear z;refine OpsL.nil ⟨fun _ _ => W9.ext, ?_⟩;refine zg8 ?_;refine zc3 ?_;refine zg3 ?_;refine zB ?_;refine zw sdc (zy (k := 8) evd xrf rfl xrf ((FB W9.ext).1.1.1.all)) ?_;refine z0n ?_;refine z7b ?_;refine z6t 21 (v := .agg (moV m V).toArray) rfl krf sdc xrf stp W9.ext (fun H2 nx2 hK => zy (k := 8) evd xrf rfl xrf ((FB hK).1.1.1.all)) ?_;refine z7b ?_;refine z1K ?_;refine zB ?_;refine OpsL.c2 (hf := z2F) (hc := (z6D W0 (FB W9.ext).1.1.2 hmod.lens hmod (OwnOf.at z4c W9.own) (by omega))) (h := ?_);rintro v5 nx5 H5 ⟨rfl, z⟩;replace W9 := W9.go z;clear z;refine OpsL.nil ⟨fun _ _ => W9.ext, ?_⟩;refine z1K ?_;refine zB ?_;refine OpsL.c2 (hf := z2I) (hc := (z6G W0 (FB W9.ext).1.1.2 hmod (OwnOf.at z4c W9.own) (by omega))) (h := ?_);rintro v6 nx6 H6 ⟨rfl, z⟩;replace W9 := W9.go z;clear z;refine OpsL.nil ⟨fun _ _ => W9.ext, ?_⟩;refine zg8 ?_;refine zB ?_;refine zw sdc (z88 (a := z28 m w) (b := z28 m w) evd evd xrf) ?_;refine z0n ?_;rw [beq_self_eq_true];refine zg8 ?_;refine zc3 ?_;refine zg3 ?_;refine zB ?_;refine zw sdc (zy (k := 8) evd xrf rfl xrf ((FB W9.ext).1.1.1.all)) ?_
  refine z0n ?_;refine z7b ?_;refine z6t 30 (v := .agg (moV m V).toArray) rfl krf sdc xrf stp W9.ext (fun H2 nx2 hK => zy (k := 8) evd xrf rfl xrf ((FB hK).1.1.1.all)) ?_;refine z7b ?_;refine z1K ?_;refine zB ?_;refine OpsL.c2 (hf := z2F) (hc := (z6D W0 (FB W9.ext).1.1.2 hmod.lens hmod (FB W9.ext).1.2.2 (by omega))) (h := ?_);rintro v7 nx7 H7 ⟨rfl, z⟩;replace W9 := W9.go z;clear z;refine OpsL.nil ⟨fun _ _ => W9.ext, ?_⟩;refine z1K ?_;refine zB ?_;refine OpsL.c2 (hf := z2I) (hc := (z6G W0 (FB W9.ext).1.1.2 hmod (FB W9.ext).1.2.2 (by omega))) (h := ?_);rintro v8 nx8 J8 ⟨rfl, z⟩;replace W9 := W9.go z;clear z;refine OpsL.nil ⟨fun _ _ => W9.ext, ?_⟩;refine zg8 ?_;refine zB ?_;refine zw sdc (z88 (a := z28 m raw) (b := z28 m raw) evd evd xrf) ?_;refine z0n ?_;rw [beq_self_eq_true];refine zg8 ?_;refine zc3 ?_;refine zg8 ?_;refine z9X ?_;refine z6t 38 (v := .agg (moV m V).toArray) rfl krf sdc xrf stp W9.ext (fun H2 nx2 hK => zy (k := 8) evd xrf rfl xrf ((FB hK).1.1.1.all)) ?_;refine z7b ?_;refine z7b ?_;refine z6t 43 (v := .agg (moV m V).toArray) rfl krf sdc xrf stp W9.ext (fun H2 nx2 hK => zy (k := 8) evd xrf rfl xrf ((FB hK).1.1.1.all)) ?_;refine z7b ?_;refine z7b ?_;refine z9j (enc := z1A) (sz := 2) (bytes := 16) (el := 47) z4c z6N (by omega) krf rfl krf (by simp [z18, zb, *]) sdc evd evd W9.own (FB W9.ext).1.2.2 xrf xrf xrf xrf xrf rfl (by omega) (by omega) W9.ext W9.blk ?_;intro u1 n1 G1 z hn1 how hrow;replace W9 : WSt z1A 2 47 N8 H8 ob wv' w n1 G1 := ⟨z, how, fun b t e => ⟨(W9.blk b t e).1, by have := (W9.blk b t e).2; omega⟩⟩;clear z how hn1;refine ⟨fun _ _ => W9.ext, ?_⟩;refine z1K ?_;refine zB ?_;refine OpsL.c2 (hf := z2F) (hc := (z6D W0 (FB W9.ext).1.1.2 hmod.lens hmod hrow (by rw [List.length_append]; omega))) (h := ?_);rintro v9 nx9 J9 ⟨rfl, z⟩;clear hrow;replace W9 := W9.go z;clear z;refine OpsL.nil ⟨fun _ _ => W9.ext, ?_⟩;refine z9j (enc := z1A) (sz := 2) (bytes := 16) (el := 47) z4c z6N (by omega) krf rfl krf (by simp [z18, zb, *]) sdc evd evd W9.own (FB W9.ext).1.2.2 xrf xrf xrf xrf xrf rfl (by omega) (by omega) W9.ext W9.blk ?_;intro u2 n2 G2 z hn2 how hrow;replace W9 : WSt z1A 2 47 N8 H8 ob wv' w n2 G2 := ⟨z, how, fun b t e => ⟨(W9.blk b t e).1, by have := (W9.blk b t e).2; omega⟩⟩;clear z how hn2;refine ⟨fun _ _ => W9.ext, ?_⟩;refine z1K ?_;refine zB ?_;refine OpsL.c2 (hf := z2I) (hc := (z6G W0 (FB W9.ext).1.1.2 hmod hrow (by rw [List.length_append]; omega))) (h := ?_);rintro v10 nx10 J10 ⟨rfl, z⟩;clear hrow;replace W9 := W9.go z;clear z;refine OpsL.nil ⟨fun _ _ => W9.ext, ?_⟩;refine zg8 ?_;refine zB ?_;refine zw sdc (z88 (a := z28 m (w ++ raw)) (b := z28 m (w ++ raw)) evd evd xrf) ?_;refine z0n ?_;rw [beq_self_eq_true];refine zg8 ?_;refine zc3 ?_;refine zg8 ?_
  repeat (first | (refine zc (by exact z09) ?_) | (refine OpsL.nil ?_; (skip)))
  exact OpsQ.nil ⟨rfl, _, nx10, J10, rfl, by simp [zb]⟩
 rintro e st ⟨rfl, tm, nx', H', rfl, t8⟩
 (change Trip _ _ _ _ _)
 repeat (first | (refine Trip.ret ?_; (skip)))
 exact ⟨.inr rfl, _, zn, stp⟩
theorem zhI (W0 : World) (nx : Nat) (H : Heap) (a0 : Int) (w0 : (Lit.int .i64 a0).wf = true) (x1 : List Int) (x2 : List Int) (raw : List (Int × Int)) (us : List Value) (u : Value)
  (hat : All2 (Arg.at H) [.plain (.int .i64 a0), .ints .i64 x1, .ints .i64 x2] us) (hr : RowsAt z9Y 2 H u raw) (hok : ∀ id o, H id = some o → id < nx) : ACalls Try.prog W0 3 (us ++ [u]) nx H fun v _ _ => v = .bool true := by
 obtain ⟨u0, us, rfl, h0, hat⟩ := hat.cons;obtain ⟨u1, us, rfl, h1, hat⟩ := hat.cons;obtain ⟨u2, us, rfl, h2, hat⟩ := hat.cons;obtain rfl := hat.nil;obtain rfl : u0 = _ := h0;exact law W0 h1.1 h2.1 hr (zhw w0) hok
theorem own : ownKnob Try.prog.godebug = none := by kernel_rfl
theorem zf9 : laidOutB Try.prog = true := by kernel_rfl
theorem z4D : Try.prog.cellsOf 3 = 1 := by kernel_rfl
theorem zbI : Try.prog.cellsOf 47 = 2 := by kernel_rfl
set_option maxRecDepth 100000 in
theorem zgo (os : Os) (started : os.Started) (H : Type) (enc : TypeId × Value → H) :
  ReturnsInHanded {} Try.checked os 3 .any (Rows.foldAllSpec.pre6 enc Try.prog Try.f3 Rows.foldAllRow.domain false) (Rows.foldAllSpec.post enc Try.prog Try.f3 false true false false) := by
 refine returnsInHanded_of_change (C := Try.checked) own started krf Try.func3
  (ChangeSpec.witness6 (enc := enc) (C := Try.checked) false ⟨#[], #[.int .i64 0, .slice none 0 0, .slice none 0 0, .slice none 0 0], []⟩ 8 krf krf krf krf) ?_
 intro W base args ds gs before hval0 hW _ _;have hval : ∀ (j : Nat) t v, Try.f3.params[j]? = some t → args[j]? = some v → Value.okWide Try.prog W .any base t v := hval0;have hW' := hW;obtain ⟨p, q, hA0, hV, rfl, _, _⟩ := hW;have hA : DataW.TrodAll enc Try.prog W 0 (fun _ => true) true Try.f3.params.toList args.toList ds p := hA0;rw [Try.params3] at hA hval;obtain ⟨v0, vs0, d0, ds0, p0, q0, hargs, rfl, rfl, h0, r0⟩ := trodAll_cons hA;obtain ⟨v1, vs1, d1, ds1, p1, q1, rfl, rfl, rfl, h1, r1⟩ := trodAll_cons r0;obtain ⟨v2, vs2, d2, ds2, p2, q2, rfl, rfl, rfl, h2, r2⟩ := trodAll_cons r1;obtain ⟨v3, vs3, d3, ds3, p3, q3, rfl, rfl, rfl, h3, r3⟩ := trodAll_cons r2;obtain ⟨rfl, rfl, rfl⟩ := trodAll_nil r3;obtain rfl : args = #[v0, v1, v2, v3] := by cases args; simp_all
 obtain ⟨rfl, rfl⟩ := trodVars_none hV;obtain ⟨a0, rfl, rfl, rfl, w0⟩ := open_int Try.underlying3 (hval 0 3 v0 rfl rfl) h0;obtain ⟨x1, c1, _⟩ := z9d Try.underlying22 Try.underlying3 z4D (hval 1 22 v1 rfl rfl) h1;obtain ⟨x2, c2, _⟩ := z9d Try.underlying22 Try.underlying3 z4D (hval 2 22 v2 rfl rfl) h2;obtain ⟨x3, c3⟩ := zbJ Try.underlying23 Try.underlying47 zbI rfl rfl z4D z4D Try.underlying3 Try.underlying3 (hval 3 23 v3 rfl rfl) h3;clear hA0 hval0;refine (zbz (ars := [.plain (.int .i64 a0), .ints .i64 x1, .ints .i64 x2]) (vs := [_, _, _]) (v := v3) ⟨⟨rfl, rfl⟩, c1, c2, trivial⟩ c3 (fun nx H us u hat hr hok => zhI W nx H a0 w0 x1 x2 x3 us u hat hr hok)).mono fun e W' ⟨he, hg⟩ => ?_;subst he;exact ⟨_, rfl, zdW zf9 krf rfl Try.underlying4 rfl hW' rfl hg⟩
theorem zhz : Rows.foldAllRow.holds Try.pinned (OpenSpec.ofChange Rows.foldAllSpec) :=
 OpenClaim.holds_of_wide 3 Try.f3 rfl rfl rfl rfl rfl rfl rfl ⟨rfl, rfl, rfl, rfl, rfl⟩ rfl rfl rfl rfl rfl krf Try.func3 krf
  (of_decide_eq_true krf) (by unfold Func.isWrapper; first | (rw [if_pos (by decide +kernel)]; kernel_rfl) | (rw [if_neg (by decide +kernel)]; exact ⟨rfl, rfl⟩))
  (fun os started H enc _ => zgo os started H enc)
theorem proved : Rows.FoldAllSaid := zhz
end Go.Proofs.Ytjgbcpagfghfnaa.foldAll
