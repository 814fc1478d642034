import Derived.Shelf.SlSortCmp.WholeK
import Derived.Shelf.SlSortCmp.Whole1
import Derived.Shelf.Lay
import Derived.Ground.SlsfProg
import Derived.Shelf.SlSortCmp.NoneTotal
import Derived.Test.YteplpegfcpmflaaGreatQKM8
set_option linter.unusedSimpArgs false
set_option linter.unusedVariables false
set_option maxRecDepth 100000
set_option maxHeartbeats 32000000
namespace Go.Proofs.YteplpegfcpmflaaGreat
open Go.RowKit Go.Am
open Go.Sort hiding Below
attribute [local irreducible] aop OpsL Trip zI z2w OpsK OpsR
theorem zbx : Am.z0U Tryz.prog 70 := ⟨Tryz.f70, Tryz.func70, by kernel_rfl, by kernel_rfl⟩
theorem zbk {xs : List Int} : ∀ i, i ≤ xs.length → (∀ j (h : j < xs.length), j < i → xs[j] = 0) → orF xs = orF (xs.drop i) := by
 induction xs with
 | nil => intro i _ _; simp
 | cons x xs ih =>
  intro i hi h;cases i with
  | zero => rfl
  | succ i =>
   have h0 : x = 0 := h 0 (by simp) (Nat.succ_pos _);rw [List.drop_succ_cons, ← ih i (by simpa using hi) (fun j hj hji => h (j + 1) (by simpa using hj) zom)];simp [orF, h0]
theorem orC (W0 : World) {nx : Nat} {H : Heap} {v : Value} {xs : List Int} (hr : IntsAt H v xs) (hm : xs.length ≤ 1000) :
  ACalls Tryz.prog W0 70 [v] nx H fun v nx' H' => v = .int .i64 (orF xs) ∧ nx' = nx ∧ H' = H := by
 obtain ⟨va, vc, rfl⟩ := hr.slice;refine zl (fn := Tryz.f70) (c := _) Tryz.func70 rfl (fun tm n hn0 htm => ?_);have e0 : tm 0 = .slice va xs.length vc := htm 0;clear htm;replace hn0 : n = 18 := hn0;refine z9I ?_;refine zD (fun (i : Nat) st => ∃ (tm : Nat → Value), st = ⟨tm, n, H, nx⟩ ∧ tm 3 = .int .i64 0 ∧ tm 6 = .slice va xs.length vc ∧ tm 7 = .int .i64 xs.length ∧ tm 8 = .int .i64 i ∧ i ≤ xs.length ∧ ∀ j (h : j < xs.length), j < i → xs[j] = 0) (fun i => xs.length - i) 0 ?_ ?_
 ·exact ⟨_, rfl, stp, stp, stp, stp, zom, fun j _ h => by omega⟩
 ·clear e0;rintro i st ⟨tm, rfl, e3, e6, e7, e8, hi, hz⟩;by_cases hlt : i < xs.length
  ·obtain ⟨p, rfl, g⟩ := z17 hr hlt;refine zft ?_;by_cases hx : xs[i] = 0
   ·refine z0A ?_ (c := hx);refine z9K ?_;refine zcN ?_;refine ⟨i + 1, ⟨_, rfl, stp, stp, stp, stp, zom, fun j hj hji => ?_⟩, zom⟩;by_cases e : j = i
    ·subst e; exact hx
    ·exact hz j hj zom
   ·refine z0z ?_ (c := hx);refine z7z ?_
    repeat (first | (refine zd (by first | exact omv | exact z0E) ?_) | refine Trip.seq ?_ | refine zm ?_ | (refine Trip.ret ?_; ((repeat (refine z0s ?_)); dsimp only)) | (refine OpsL.nil ?_; (change Trip _ _ _ _ _)))
    refine ⟨.inr rfl, _, zx, ?_, rfl, rfl⟩;rw [zbk i hi hz, List.drop_eq_getElem_cons hlt];simp [zk, orF, hx]
  ·have hin : i = xs.length := by omega
   subst hin;refine zaV ?_;refine z9P ?_;refine ⟨.inr rfl, _, zx, ?_, rfl, rfl⟩;rw [zbk xs.length (Nat.le_refl _) hz];simp [zk, orF, *]
theorem zd5 {A : Prop} (h : A := by
 refine zl (fn := zp0) (c := _) zp1 rfl (fun tm n hn0 htm => ?_);have e0 : tm 0 = .agg (zP x).toArray := htm 0;have e1 : tm 1 = .agg (zP y).toArray := htm 1;clear htm;replace hn0 : n = 27 := hn0;refine Trip.ok fun hok => ?_;replace hok : ∀ id o, H id = some o → id < nx := hok;refine z5L ?_;refine OpsL.new zsd (z0f evr) ?_;refine OpsL.new zsd (z0f evr) ?_;obtain ⟨G, hG⟩ : ∃ G, G = (H.put nx (.cells (Value.agg (zP x).toArray).cells.toList 0 none false (some zp2))).put (nx + 1) (.cells (Value.agg (zP y).toArray).cells.toList 0 none false (some zp2)) := ⟨_, rfl⟩;have hx0 : Ext nx H (nx + 1 + 1) G := by rw [hG]; exact zh.trans zh
 have hokG : ∀ id o, G id = some o → id < nx + 1 + 1 := by rw [hG]; exact zF (zF hok)
 have gx : G nx = some (.cells (zP x) 0 none false (some zp2)) := by rw [hG, za zom, zb]; rfl
 have gy : G (nx + 1) = some (.cells (zP y) 0 none false (some zp2)) := by rw [hG, zb]; rfl
 rw [← hG];clear hG;have cx0 : zj G ⟨nx, 0 + 0, none⟩ (.int .i64 x.1) := by rw [Nat.zero_add]; exact ze gx rfl
 have cy0 : zj G ⟨nx + 1, 0 + 0, none⟩ (.int .i64 y.1) := by rw [Nat.zero_add]; exact ze gy rfl
 have cx1 : zj G ⟨nx, 0 + 1, none⟩ (.int .i64 x.2.1) := by rw [Nat.zero_add]; exact ze gx rfl
 have cy1 : zj G ⟨nx + 1, 0 + 1, none⟩ (.int .i64 y.2.1) := by rw [Nat.zero_add]; exact ze gy rfl
 have cx2 : zj G ⟨nx, 0 + 2, none⟩ (.int .i64 x.2.2.1) := by rw [Nat.zero_add]; exact ze gx rfl
 have cy2 : zj G ⟨nx + 1, 0 + 2, none⟩ (.int .i64 y.2.2.1) := by rw [Nat.zero_add]; exact ze gy rfl
 have cx3 : zj G ⟨nx, 0 + 3, none⟩ (.int .i64 x.2.2.2) := by rw [Nat.zero_add]; exact ze gx rfl
 have cy3 : zj G ⟨nx + 1, 0 + 3, none⟩ (.int .i64 y.2.2.2) := by rw [Nat.zero_add]; exact ze gy rfl
 clear gx gy;refine zgS ?_;refine OpsR.drawn [4, 9, 14, 19, 20, 21] (K := fun nx1 H1 => Ext (nx + 1 + 1) G nx1 H1) z0u krf krf [0, 1, 2, 3, 5, 6, 7, 8, 10, 11, 12, 13, 15, 16, 17, 18, 4, 9, 14, 19, 20, 21, 22] krf Ext.refl ?_;refine zg4 ?_;refine zA (v := .int .i64 x.1) rfl krf zsd Ext.refl (fun H2 nx2 hK => zp evr zxr rfl (z09 hK hokG cx0)) ?_;refine zg4 ?_;refine zA (v := .int .i64 y.1) rfl krf zsd Ext.refl (fun H2 nx2 hK => zp evr zxr rfl (z09 hK hokG cy0)) ?_;refine zg4 ?_;refine zA (v := .int .i64 x.2.1) rfl krf zsd Ext.refl (fun H2 nx2 hK => zp evr zxr rfl (z09 hK hokG cx1)) ?_;refine zg4 ?_;refine zA (v := .int .i64 y.2.1) rfl krf zsd Ext.refl (fun H2 nx2 hK => zp evr zxr rfl (z09 hK hokG cy1)) ?_;refine zg4 ?_;refine zA (v := .int .i64 x.2.2.1) rfl krf zsd Ext.refl (fun H2 nx2 hK => zp evr zxr rfl (z09 hK hokG cx2)) ?_;refine zg4 ?_;refine zA (v := .int .i64 y.2.2.1) rfl krf zsd Ext.refl (fun H2 nx2 hK => zp evr zxr rfl (z09 hK hokG cy2)) ?_;refine zg4 ?_;refine zA (v := .int .i64 x.2.2.2) rfl krf zsd Ext.refl (fun H2 nx2 hK => zp evr zxr rfl (z09 hK hokG cx3)) ?_;refine zg4 ?_;refine zA (v := .int .i64 y.2.2.2) rfl krf zsd Ext.refl (fun H2 nx2 hK => zp evr zxr rfl (z09 hK hokG cy3)) ?_;refine z05 krf (zW rfl rfl zsd zxr evd evd z1G (z9Y W0 x.1 y.1) ?_);rintro v3 nx3 H3 ⟨rfl, rfl, hG3⟩;have hG3' := hG3.symm;subst hG3';refine ⟨Ext.refl, ?_⟩;refine z05 krf (zW rfl rfl zsd zxr evd evd z1G (z9Y W0 x.2.1 y.2.1) ?_);rintro v4 nx4 H4 ⟨rfl, rfl, hG4⟩;have hG4' := hG4.symm;subst hG4';refine ⟨Ext.refl, ?_⟩;refine z05 krf (zW rfl rfl zsd zxr evd evd z1G (z9Y W0 x.2.2.1 y.2.2.1) ?_);rintro v5 nx5 H5 ⟨rfl, rfl, hG5⟩;have hG5' := hG5.symm;subst hG5';refine ⟨Ext.refl, ?_⟩;refine z05 krf (zW rfl rfl zsd zxr evd evd z1G (z9Y W0 x.2.2.2 y.2.2.2) ?_);rintro v6 nx6 H6 ⟨rfl, rfl, hG6⟩;have hG6' := hG6.symm;subst hG6';refine ⟨Ext.refl, ?_⟩;refine zg5 ?_;refine OpsL.new zsd (zq (l := [(0, .int .i64 (Lib.compareInt x.1 y.1)), (1, .int .i64 (Lib.compareInt x.2.1 y.2.1)), (2, .int .i64 (Lib.compareInt x.2.2.1 y.2.2.1)), (3, .int .i64 (Lib.compareInt x.2.2.2 y.2.2.2))]) (r := (.slice (some ⟨nx + 1 + 1, 0, none⟩) 4 4, .new (.cells [.int .i64 (Lib.compareInt x.1 y.1), .int .i64 (Lib.compareInt x.2.1 y.2.1), .int .i64 (Lib.compareInt x.2.2.1 y.2.2.1), .int .i64 (Lib.compareInt x.2.2.2 y.2.2.2)] 1 none false (some 3)))) zeq krf) ?_
 have hone : IntsAt (G.put (nx + 1 + 1) (.cells [.int .i64 (Lib.compareInt x.1 y.1), .int .i64 (Lib.compareInt x.2.1 y.2.1), .int .i64 (Lib.compareInt x.2.2.1 y.2.2.1), .int .i64 (Lib.compareInt x.2.2.2 y.2.2.2)] 1 none false (some 3))) (.slice (some ⟨nx + 1 + 1, 0, none⟩) 4 4) [Lib.compareInt x.1 y.1, Lib.compareInt x.2.1 y.2.1, Lib.compareInt x.2.2.1 y.2.2.1, Lib.compareInt x.2.2.2 y.2.2.2] := by
  have hcell : (G.put (nx + 1 + 1) (.cells [.int .i64 (Lib.compareInt x.1 y.1), .int .i64 (Lib.compareInt x.2.1 y.2.1), .int .i64 (Lib.compareInt x.2.2.1 y.2.2.1), .int .i64 (Lib.compareInt x.2.2.2 y.2.2.2)] 1 none false (some 3))) (nx + 1 + 1) = some (.cells (([Lib.compareInt x.1 y.1, Lib.compareInt x.2.1 y.2.1, Lib.compareInt x.2.2.1 y.2.2.1, Lib.compareInt x.2.2.2 y.2.2.2] : List Int).map (.int .i64 ·)) 1 none false (some 3)) := zb;refine .inr ⟨⟨nx + 1 + 1, 0, none⟩, 4, rfl, fun j hj => ?_⟩;have := ze hcell (k := j) (v := .int .i64 (([Lib.compareInt x.1 y.1, Lib.compareInt x.2.1 y.2.1, Lib.compareInt x.2.2.1 y.2.2.1, Lib.compareInt x.2.2.2 y.2.2.2] : List Int)[j])) (by rw [List.getElem?_map, List.getElem?_eq_getElem hj]; rfl);simpa using this
 have hx2 : Ext (nx + 1 + 1) G (nx + 1 + 1 + 1) (G.put (nx + 1 + 1) (.cells [.int .i64 (Lib.compareInt x.1 y.1), .int .i64 (Lib.compareInt x.2.1 y.2.1), .int .i64 (Lib.compareInt x.2.2.1 y.2.2.1), .int .i64 (Lib.compareInt x.2.2.2 y.2.2.2)] 1 none false (some 3))) := zh;generalize G.put (nx + 1 + 1) (.cells [.int .i64 (Lib.compareInt x.1 y.1), .int .i64 (Lib.compareInt x.2.1 y.2.1), .int .i64 (Lib.compareInt x.2.2.1 y.2.2.1), .int .i64 (Lib.compareInt x.2.2.2 y.2.2.2)] 1 none false (some 3)) = G2 at *;refine OpsL.nil ⟨hx2, ?_⟩;refine z05 krf (z0v rfl rfl zsd zxr evd zbx (orC W0 hone (by simp)) ?_);rintro v9 nx9 H9 ⟨rfl, rfl, h9⟩;have h9' := h9.symm;subst h9';refine ⟨hx2, ?_⟩;refine z6T ?_
 (change Trip _ _ _ _ _)
 refine z9T ?_;exact ⟨.inr rfl, _, zx, by simp [zk, zcP], hx0.trans hx2⟩) : A := h
namespace zd5a
noncomputable section
abbrev zp0 := @Tryz.f47
abbrev zp1 := @Tryz.func47
abbrev zp2 := 43
end
end zd5a
open zd5a in
theorem zgz (W0 : World) {nx : Nat} {H : Heap} (x y : R4) :
  ACalls Tryz.prog W0 47 [.agg (zP x).toArray, .agg (zP y).toArray] nx H fun v nx' H' => v = .int .i64 (zcP x y) ∧ Ext nx H nx' H' := zd5
theorem z9q (x y : R4) (W : World) : Calls Tryz.prog 47 #[.agg (zP x).toArray, .agg (zP y).toArray] W fun e w' => e = .returned (.int .i64 (zcP x y)) ∧ ∃ q os', w' = grow (W.drewN q) os' :=
 z30 (args := [.agg (zP x).toArray, .agg (zP y).toArray]) rfl rfl (fun w nx H => ACalls.weaken (zgz w x y) fun _ _ _ h => h.1) W
namespace zd5b
noncomputable section
abbrev zp0 := @Tryz.f49
abbrev zp1 := @Tryz.func49
abbrev zp2 := 45
end
end zd5b
open zd5b in
theorem zf7 (W0 : World) {nx : Nat} {H : Heap} (x y : R4) :
  ACalls Tryz.prog W0 49 [.agg (zP x).toArray, .agg (zP y).toArray] nx H fun v nx' H' => v = .int .i64 (zcP x y) ∧ Ext nx H nx' H' := zd5
theorem z8f (x y : R4) (W : World) : Calls Tryz.prog 49 #[.agg (zP x).toArray, .agg (zP y).toArray] W fun e w' => e = .returned (.int .i64 (zcP x y)) ∧ ∃ q os', w' = grow (W.drewN q) os' :=
 z30 (args := [.agg (zP x).toArray, .agg (zP y).toArray]) rfl rfl (fun w nx H => ACalls.weaken (zf7 w x y) fun _ _ _ h => h.1) W
theorem zf6 (W0 : World) {nx : Nat} {H : Heap} (x y : R3) :
  ACalls Tryz.prog W0 51 [.agg (z19 x).toArray, .agg (z19 y).toArray] nx H fun v nx' H' => v = .int .i64 (zfw x y) ∧ Ext nx H nx' H' := by
 refine zl (fn := Tryz.f51) (c := _) Tryz.func51 rfl (fun tm n hn0 htm => ?_);have e0 : tm 0 = .agg (z19 x).toArray := htm 0;have e1 : tm 1 = .agg (z19 y).toArray := htm 1;clear htm;replace hn0 : n = 22 := hn0;refine Trip.ok fun hok => ?_;replace hok : ∀ id o, H id = some o → id < nx := hok;refine z5L ?_;refine OpsL.new zsd (z0f evr) ?_;refine OpsL.new zsd (z0f evr) ?_;obtain ⟨G, hG⟩ : ∃ G, G = (H.put nx (.cells (Value.agg (z19 x).toArray).cells.toList 0 none false (some 51))).put (nx + 1) (.cells (Value.agg (z19 y).toArray).cells.toList 0 none false (some 51)) := ⟨_, rfl⟩;have hx0 : Ext nx H (nx + 1 + 1) G := by rw [hG]; exact zh.trans zh
 have hokG : ∀ id o, G id = some o → id < nx + 1 + 1 := by rw [hG]; exact zF (zF hok)
 have gx : G nx = some (.cells (z19 x) 0 none false (some 51)) := by rw [hG, za zom, zb]; rfl
 have gy : G (nx + 1) = some (.cells (z19 y) 0 none false (some 51)) := by rw [hG, zb]; rfl
 rw [← hG];clear hG;have cx0 : zj G ⟨nx, 0 + 0, none⟩ (.int .i64 x.1) := by rw [Nat.zero_add]; exact ze gx rfl
 have cy0 : zj G ⟨nx + 1, 0 + 0, none⟩ (.int .i64 y.1) := by rw [Nat.zero_add]; exact ze gy rfl
 have cx1 : zj G ⟨nx, 0 + 1, none⟩ (.int .i64 x.2.1) := by rw [Nat.zero_add]; exact ze gx rfl
 have cy1 : zj G ⟨nx + 1, 0 + 1, none⟩ (.int .i64 y.2.1) := by rw [Nat.zero_add]; exact ze gy rfl
 have cx2 : zj G ⟨nx, 0 + 2, none⟩ (.int .i64 x.2.2) := by rw [Nat.zero_add]; exact ze gx rfl
 have cy2 : zj G ⟨nx + 1, 0 + 2, none⟩ (.int .i64 y.2.2) := by rw [Nat.zero_add]; exact ze gy rfl
 clear gx gy;refine zgS ?_;refine OpsR.drawn [4, 9, 14, 15, 16] (K := fun nx1 H1 => Ext (nx + 1 + 1) G nx1 H1) z0u krf krf [0, 1, 2, 3, 5, 6, 7, 8, 10, 11, 12, 13, 4, 9, 14, 15, 16, 17] krf Ext.refl ?_;refine zg4 ?_;refine zA (v := .int .i64 x.1) rfl krf zsd Ext.refl (fun H2 nx2 hK => zp evr zxr rfl (z09 hK hokG cx0)) ?_;refine zg4 ?_;refine zA (v := .int .i64 y.1) rfl krf zsd Ext.refl (fun H2 nx2 hK => zp evr zxr rfl (z09 hK hokG cy0)) ?_;refine zg4 ?_;refine zA (v := .int .i64 x.2.1) rfl krf zsd Ext.refl (fun H2 nx2 hK => zp evr zxr rfl (z09 hK hokG cx1)) ?_;refine zg4 ?_;refine zA (v := .int .i64 y.2.1) rfl krf zsd Ext.refl (fun H2 nx2 hK => zp evr zxr rfl (z09 hK hokG cy1)) ?_;refine zg4 ?_;refine zA (v := .int .i64 x.2.2) rfl krf zsd Ext.refl (fun H2 nx2 hK => zp evr zxr rfl (z09 hK hokG cx2)) ?_;refine zg4 ?_;refine zA (v := .int .i64 y.2.2) rfl krf zsd Ext.refl (fun H2 nx2 hK => zp evr zxr rfl (z09 hK hokG cy2)) ?_;refine z05 krf (zW rfl rfl zsd zxr evd evd z1G (z9Y W0 x.1 y.1) ?_);rintro v3 nx3 H3 ⟨rfl, rfl, hG3⟩;have hG3' := hG3.symm;subst hG3';refine ⟨Ext.refl, ?_⟩;refine z05 krf (zW rfl rfl zsd zxr evd evd z1G (z9Y W0 x.2.1 y.2.1) ?_);rintro v4 nx4 H4 ⟨rfl, rfl, hG4⟩;have hG4' := hG4.symm;subst hG4';refine ⟨Ext.refl, ?_⟩;refine z05 krf (zW rfl rfl zsd zxr evd evd z1G (z9Y W0 x.2.2 y.2.2) ?_);rintro v5 nx5 H5 ⟨rfl, rfl, hG5⟩;have hG5' := hG5.symm;subst hG5';refine ⟨Ext.refl, ?_⟩;refine zg5 ?_;refine OpsL.new zsd (zq (l := [(0, .int .i64 (Lib.compareInt x.1 y.1)), (1, .int .i64 (Lib.compareInt x.2.1 y.2.1)), (2, .int .i64 (Lib.compareInt x.2.2 y.2.2))]) (r := (.slice (some ⟨nx + 1 + 1, 0, none⟩) 3 3, .new (.cells [.int .i64 (Lib.compareInt x.1 y.1), .int .i64 (Lib.compareInt x.2.1 y.2.1), .int .i64 (Lib.compareInt x.2.2 y.2.2)] 1 none false (some 3)))) zeq krf) ?_
 have hone : IntsAt (G.put (nx + 1 + 1) (.cells [.int .i64 (Lib.compareInt x.1 y.1), .int .i64 (Lib.compareInt x.2.1 y.2.1), .int .i64 (Lib.compareInt x.2.2 y.2.2)] 1 none false (some 3))) (.slice (some ⟨nx + 1 + 1, 0, none⟩) 3 3) [Lib.compareInt x.1 y.1, Lib.compareInt x.2.1 y.2.1, Lib.compareInt x.2.2 y.2.2] := by
  have hcell : (G.put (nx + 1 + 1) (.cells [.int .i64 (Lib.compareInt x.1 y.1), .int .i64 (Lib.compareInt x.2.1 y.2.1), .int .i64 (Lib.compareInt x.2.2 y.2.2)] 1 none false (some 3))) (nx + 1 + 1) = some (.cells (([Lib.compareInt x.1 y.1, Lib.compareInt x.2.1 y.2.1, Lib.compareInt x.2.2 y.2.2] : List Int).map (.int .i64 ·)) 1 none false (some 3)) := zb;refine .inr ⟨⟨nx + 1 + 1, 0, none⟩, 3, rfl, fun j hj => ?_⟩;have := ze hcell (k := j) (v := .int .i64 (([Lib.compareInt x.1 y.1, Lib.compareInt x.2.1 y.2.1, Lib.compareInt x.2.2 y.2.2] : List Int)[j])) (by rw [List.getElem?_map, List.getElem?_eq_getElem hj]; rfl);simpa using this
 have hx2 : Ext (nx + 1 + 1) G (nx + 1 + 1 + 1) (G.put (nx + 1 + 1) (.cells [.int .i64 (Lib.compareInt x.1 y.1), .int .i64 (Lib.compareInt x.2.1 y.2.1), .int .i64 (Lib.compareInt x.2.2 y.2.2)] 1 none false (some 3))) := zh;generalize G.put (nx + 1 + 1) (.cells [.int .i64 (Lib.compareInt x.1 y.1), .int .i64 (Lib.compareInt x.2.1 y.2.1), .int .i64 (Lib.compareInt x.2.2 y.2.2)] 1 none false (some 3)) = G2 at *;refine OpsL.nil ⟨hx2, ?_⟩;refine z05 krf (z0v rfl rfl zsd zxr evd zbx (orC W0 hone (by simp)) ?_);rintro v9 nx9 H9 ⟨rfl, rfl, h9⟩;have h9' := h9.symm;subst h9';refine ⟨hx2, ?_⟩;refine z6T ?_
 (change Trip _ _ _ _ _)
 refine z9T ?_;exact ⟨.inr rfl, _, zx, by simp [zk, zfw], hx0.trans hx2⟩
theorem z8e (x y : R3) (W : World) : Calls Tryz.prog 51 #[.agg (z19 x).toArray, .agg (z19 y).toArray] W fun e w' => e = .returned (.int .i64 (zfw x y)) ∧ ∃ q os', w' = grow (W.drewN q) os' :=
 z30 (args := [.agg (z19 x).toArray, .agg (z19 y).toArray]) rfl rfl (fun w nx H => ACalls.weaken (zf6 w x y) fun _ _ _ h => h.1) W
end Go.Proofs.YteplpegfcpmflaaGreat
namespace Go.Am
open Go.RowKit Go.Proofs
open Go.Sort hiding Below
section
variable {P : Program} {W0 : World} {C : Corr} {nx : Nat} {H : Heap} {w : World}
def IntV (v : Value) : Prop := ∃ k n, v = .int k n
theorem IntV.refl {v : Value} (h : IntV v) : VR nx H C v v := by obtain ⟨k, n, rfl⟩ := h; exact .int k n
theorem IntV.eq {v v' : Value} (h : IntV v) (hv : VR nx H C v v') : v' = v := by obtain ⟨k, n, rfl⟩ := h; cases hv; rfl
theorem z6m (hR : Rel W0 C nx H w) {b e : Nat} {t : Option Nat} {q : Option TypeId} {cs rest : List Value} (ho : H b = some (.cells (cs ++ rest) e t false q)) (hi : ∀ v ∈ cs, IntV v) : Holds id w (C.loc b).1 (C.loc b).2 cs.toArray := by
 obtain ⟨Cc, el, fr, h1, h2, h3, h4, h5⟩ := hR.obj _ _ ho;intro j hj;have hj' : j < cs.length := by simpa using hj
 have hlt : (C.loc b).2 + j < Cc.size := by simp at h3; omega
 have hv := h4 j (by simp; omega) hlt;rw [List.getElem_append_left hj'] at hv;have he := (hi _ (List.getElem_mem hj')).eq hv;constructor
 ·simp only [World.cell?, h1];rw [Array.getElem?_eq_getElem hlt, he];simp [hj']
 ·have := h5.1 rfl ((C.loc b).2 + j) hlt;simp only [World.frozen?, h1];simp only [Bool.and_eq_false_iff, decide_eq_false_iff_not];omega
theorem zdo (C : Corr) (b : Nat) : C.put b (C.loc b) (C.siz b) = C := by
 unfold Corr.put;cases C with
 | mk l s => congr 1 <;> (funext i; simp; intro h; rw [h])
theorem za1 (hR : Rel W0 C nx H w) {b e : Nat} {t : Option Nat} {q : Option TypeId} {cs cs' rest : List Value} (ho : H b = some (.cells (cs ++ rest) e t false q)) (hl : cs'.length = cs.length) (hi : ∀ v ∈ cs', IntV v) (m : Nat) (os : Array Obj) :
  Rel W0 C nx (H.put b (.cells (cs' ++ rest) e t false q)) (grow (putRow id (Sort.ahead w m) (C.loc b).1 (C.loc b).2 cs'.toArray) os) ∧ Stp nx H C nx (H.put b (.cells (cs' ++ rest) e t false q)) C := by
 obtain ⟨Cc, el, fr, h1, h2, h3, h4, h5⟩ := hR.obj _ _ ho;have hblk := (hR.obj _ _ ho).blk;have hown := hR.own _ _ ho rfl;have hsz : (putRow id (Sort.ahead w m) (C.loc b).1 (C.loc b).2 cs'.toArray).heap.size = w.heap.size := by simp [putRow, mapBlock, Sort.ahead]
 have hold : ∀ k, k < w.heap.size → (grow (putRow id (Sort.ahead w m) (C.loc b).1 (C.loc b).2 cs'.toArray) os).heap[k]? = (w.heap.modify (C.loc b).1 (onCells (putCells id (C.loc b).2 cs'.toArray)))[k]? := fun k hk => by
  rw [heap_grow_old _ _ (by rw [hsz]; exact hk)];rfl
 have hother : ∀ k, k < w.heap.size → k ≠ (C.loc b).1 → (grow (putRow id (Sort.ahead w m) (C.loc b).1 (C.loc b).2 cs'.toArray) os).heap[k]? = w.heap[k]? := fun k hk hne => by
  rw [hold k hk, Array.getElem?_modify];simp [Ne.symm hne]
 have hthis : (grow (putRow id (Sort.ahead w m) (C.loc b).1 (C.loc b).2 cs'.toArray) os).heap[(C.loc b).1]? = some (.cells (putCells id (C.loc b).2 cs'.toArray Cc) el fr) := by
  rw [hold _ hblk, Array.getElem?_modify];simp [h1, onCells]
 have hbel : BelD W0.heap.size W0 (grow (putRow id (Sort.ahead w m) (C.loc b).1 (C.loc b).2 cs'.toArray) os) := hR.below.trans ⟨rfl, rfl, rfl, by simp [grow, putRow, mapBlock, Sort.ahead], fun k hk => hother k (by have := hR.below.size; omega) zom, by simp [grow, putRow, mapBlock, Sort.ahead]⟩;have key := hR.set (w' := grow (putRow id (Sort.ahead w m) (C.loc b).1 (C.loc b).2 cs'.toArray) os) b _ (.cells (cs' ++ rest) e t false q) (C.loc b) (C.siz b) ho rfl (Nat.le_refl _) (.inl ⟨rfl, rfl, rfl, rfl⟩) (.inl rfl) (fun _ => rfl) hbel hother ?_
 ·rw [zdo] at key;exact key
 ·rintro C' rfl hst;rw [zdo] at hst ⊢;have hsz2 : (putCells id (C.loc b).2 cs'.toArray Cc).size = Cc.size := by simp [putCells]
  refine ⟨_, el, fr, hthis, by rw [hsz2, h2], ?_, ?_, ⟨fun _ => (by rw [hsz2]; exact h5.1 rfl), h5.2.1, fun _ ht => (by
   obtain ⟨q1, q2⟩ := h5.2.2.1 rfl ht;refine ⟨q1, ?_⟩;rw [hsz2, q2]; simp; omega), h5.2.2.2⟩⟩
  ·rw [hsz2]; simp at h3 ⊢; omega
  ·intro i hi1 hi2;have hi3 : (C.loc b).2 + i < Cc.size := by rw [hsz2] at hi2; exact hi2
   have hget : (putCells id (C.loc b).2 cs'.toArray Cc)[(C.loc b).2 + i] = if i < cs'.length then cs'.toArray[i]! else Cc[(C.loc b).2 + i] := by
    simp only [putCells, Array.getElem_mapIdx, id];by_cases hc : i < cs'.length
    ·rw [if_pos (by simp; omega), if_pos hc]; congr 1; omega
    ·rw [if_neg (by simp; omega), if_neg hc]
   rw [hget];by_cases hc : i < cs'.length
   ·rw [if_pos hc, List.getElem_append_left hc];have e1 : cs'.toArray[i]! = cs'[i] := by simp [hc]
    rw [e1];exact (hi _ (List.getElem_mem hc)).refl
   ·rw [if_neg hc, List.getElem_append_right zom];have := (h4 i (by simp at hi1 ⊢; omega) hi3).mono hst;rw [List.getElem_append_right zom] at this;have e2 : rest[i - cs'.length]'(by simp at hi1; omega) = rest[i - cs.length]'(by simp at hi1; omega) := by congr 1; omega
    rw [e2];exact this
theorem z7o {α : Type} [Inhabited α] (enc : α → List Value) (k : Nat) (hk : ∀ x, (enc x).length = k) (l : List α) : (flatK enc k l.toArray).toList = l.flatMap enc := by
 apply List.ext_getElem?;intro i
 have hlen : (l.flatMap enc).length = l.length * k := by
  induction l with
  | nil => simp
  | cons x l ih => simp only [List.flatMap_cons, List.length_append, hk, ih, List.length_cons, Nat.add_mul]; omega
 by_cases hi : i < l.length * k
 ·have hk0 : 0 < k := by
   rcases Nat.eq_zero_or_pos k with h | h
   ·subst h; simp at hi
   ·exact h
  have hq : i / k < l.length := by rw [Nat.div_lt_iff_lt_mul hk0]; exact hi
  have e1 : (flatK enc k l.toArray).toList[i]? = some ((enc l[i / k])[i % k]!) := by
   rw [Array.getElem?_toList, Array.getElem?_eq_getElem (by simpa using hi)];simp [flatK, hq]
  rw [e1]
  have gen : ∀ (l : List α) (i : Nat), i < l.length * k → (h : i / k < l.length) → (l.flatMap enc)[i]? = some ((enc l[i / k])[i % k]!) := by
   intro l
   induction l with
   | nil => intro i hi; simp at hi
   | cons x l ih =>
    intro i hi h;rw [List.flatMap_cons];by_cases hik : i < k
    ·rw [List.getElem?_append_left (by rw [hk]; exact hik)];have e0 : i / k = 0 := Nat.div_eq_of_lt hik;have e2 : i % k = i := Nat.mod_eq_of_lt hik;simp only [e0, e2, List.getElem_cons_zero];rw [List.getElem?_eq_getElem (by rw [hk]; exact hik)];simp [hk, hik]
    ·rw [List.getElem?_append_right (by rw [hk]; omega), hk];have hi' : i - k < l.length * k := by simp only [List.length_cons, Nat.add_mul] at hi; omega
     have ed : i / k = (i - k) / k + 1 := by
      rw [Nat.div_eq_sub_div hk0 zom]
     have em : i % k = (i - k) % k := Nat.mod_eq_sub_mod zom;have hq' : (i - k) / k < l.length := by rw [Nat.div_lt_iff_lt_mul hk0]; exact hi'
     rw [ih (i - k) hi' hq'];simp only [ed, em, List.getElem_cons_succ]
  exact (gen l i hi hq).symm
 ·rw [List.getElem?_eq_none (by simp; omega), List.getElem?_eq_none (by rw [hlen]; omega)]
theorem z91 {α : Type} [Inhabited α] {l l' : List α} (h : PermIn 0 l.length l.toArray l'.toArray) : l'.Perm l := by
 obtain ⟨h1, _, h2⟩ := h;have e : l'.length = l.length := by simpa using h1
 have e1 : l'.toArray.extract 0 l.length = l'.toArray := by rw [← e]; simp
 have e2 : l.toArray.extract 0 l.length = l.toArray := by simp
 rw [e1, e2] at h2;simpa using h2
theorem z6t {α : Type} [Inhabited α] {cf : α → α → Int} {l : List α} (h : SortedIn (ltOf cf) 0 l.length l.toArray) : l.Pairwise (fun x y => ¬ cf y x < 0) := by
 rw [List.pairwise_iff_getElem];intro i j hi hj hij;have := h i j (Nat.zero_le _) hij hj;simp [hi, hj, ltOf] at this;omega
theorem z4y {α : Type} [Inhabited α] {enc : α → List Value} {k : Nat} (hk : ∀ x, (enc x).length = k) (hi : ∀ x, ∀ v ∈ enc x, IntV v) {cf : α → α → Int} {f g : FuncId}
  (hs : ∀ (blk off cap : Nat) (d : Array α) (w : World), HoldsK enc k w blk off d → blk < w.heap.size → d.size < 4611686018427387904 → Calls P f #[.slice (some ⟨blk, off, none⟩) d.size cap, .func (.func g) #[] #[]] w fun e w' => e = .returned (.tuple #[]) ∧ ∃ d' n os, PermIn 0 d.size d d' ∧ SortedIn (ltOf cf) 0 d.size d' ∧ w' = sortWorldK enc k w blk off n d' os)
  {b t e : Nat} {q : Option TypeId} {l : List α} {rest : List Value} {c : Nat} (ho : H b = some (.cells (l.flatMap enc ++ rest) e (some t) false q)) (hl : l.length < 4611686018427387904) :
  ACalls P W0 f [.slice (some ⟨b, 0, some t⟩) l.length c, .func (.func g) #[] #[]] nx H fun v nx' H' => v = .tuple #[] ∧ nx' = nx ∧ ∃ l' : List α, l'.Perm l ∧ l'.Pairwise (fun x y => ¬ cf y x < 0) ∧ H' = H.put b (.cells (l'.flatMap enc ++ rest) e (some t) false q) := by
 intro C w args' hR ha
 have hI : ∀ l : List α, ∀ v ∈ l.flatMap enc, IntV v := fun l v hv => by
  obtain ⟨x, _, hx⟩ := List.mem_flatMap.1 hv;exact hi x v hx
 have hlen : ∀ l : List α, (l.flatMap enc).length = l.length * k := fun l => by
  induction l with
  | nil => simp
  | cons x l ih => simp only [List.flatMap_cons, List.length_append, hk, ih, List.length_cons, Nat.add_mul]; omega
 obtain ⟨h1, h2⟩ := ha
 obtain ⟨v1, v2, rfl⟩ : ∃ v1 v2, args' = [v1, v2] := by
  match args', h1 with
  | [v1, v2], _ => exact ⟨v1, v2, rfl⟩
 have hv1 := h2 0 (by simp) (by simp);have hv2 := h2 1 (by simp) (by simp);simp only [List.getElem_cons_zero, List.getElem_cons_succ] at hv1 hv2
 obtain ⟨cap', rfl⟩ : ∃ cap', v1 = .slice (some ⟨(C.loc b).1, (C.loc b).2, none⟩) l.length cap' := by
  cases hv1 with
  | slc _ _ _ b' cap' k1 k2 =>
   obtain ⟨e1, _⟩ := k2 _ ho rfl;exact ⟨cap', by rw [e1]; simp [Corr.at]⟩
 obtain rfl : v2 = .func (.func g) #[] #[] := by
  cases hv2 with
  | func _ _ a' _ b' ha hb _ _ =>
   have : a' = #[] := by apply Array.eq_empty_of_size_eq_zero; simpa using ha.symm
   have : b' = #[] := by apply Array.eq_empty_of_size_eq_zero; simpa using hb.symm
   subst_vars; rfl
 have hH : HoldsK enc k w (C.loc b).1 (C.loc b).2 l.toArray := by
  unfold HoldsK;have := z6m hR ho (hI l)
  rwa [← z7o enc k hk l, Array.toArray_toList] at this
 refine (hs (C.loc b).1 (C.loc b).2 cap' l.toArray w hH (hR.obj _ _ ho).blk (by simpa using hl)).mono ?_;rintro e' w' ⟨rfl, d', n, os, hp, hso, rfl⟩;obtain ⟨l', rfl⟩ : ∃ l' : List α, d' = l'.toArray := ⟨d'.toList, by simp⟩;have hsize : l'.length = l.length := by have := hp.1; simpa using this
 have hput := za1 hR ho (cs' := l'.flatMap enc) (by rw [hlen, hlen, hsize]) (hI l') n os
 have hw : sortWorldK enc k w (C.loc b).1 (C.loc b).2 n l'.toArray os = grow (putRow id (Sort.ahead w n) (C.loc b).1 (C.loc b).2 (l'.flatMap enc).toArray) os := by
  unfold sortWorldK putRowK;rw [← z7o enc k hk l', Array.toArray_toList]
 rw [hw];exact ⟨_, _, C, nx, _, rfl, ⟨rfl, rfl, l', z91 (by simpa using hp), z6t (by rw [hsize]; simpa using hso), rfl⟩, hput.1, .tuple _ _ rfl (fun i h => absurd h (by simp)), hput.2⟩
theorem z97 {α : Type} [Inhabited α] {enc : α → Value} {blk off : Nat} {l : List α} (h : Holds id w blk off (l.map enc).toArray) : Holds enc w blk off l.toArray := by
 intro j hj;have hj' : j < l.length := by simpa using hj
 have := h j (by simpa using hj);simpa [hj'] using this
theorem z7j {α : Type} [Inhabited α] (enc : α → Value) (w : World) (blk off : Nat) (l : List α) : putRow enc w blk off l.toArray = putRow id w blk off (l.map enc).toArray := by
 unfold putRow;congr 1;funext c;unfold putCells;congr 1;funext k x;by_cases h : off ≤ k ∧ k < off + l.length
 ·rw [if_pos (by simpa using h), if_pos (by simpa using h)];have : k - off < l.length := by omega
  simp [this]
 ·rw [if_neg (by simpa using h), if_neg (by simpa using h)]
theorem zac {α : Type} [Inhabited α] {enc : α → Value} (hi : ∀ x, IntV (enc x)) {cf : α → α → Int} {f g : FuncId}
  (hs : ∀ (blk off cap : Nat) (d : Array α) (w : World), Holds enc w blk off d → blk < w.heap.size → d.size < 4611686018427387904 → Calls P f #[.slice (some ⟨blk, off, none⟩) d.size cap, .func (.func g) #[] #[]] w fun e w' => e = .returned (.tuple #[]) ∧ ∃ d' n os, PermIn 0 d.size d d' ∧ SortedIn (ltOf cf) 0 d.size d' ∧ w' = sortWorld enc w blk off n d' os)
  {b t e : Nat} {q : Option TypeId} {l : List α} {rest : List Value} {c : Nat} (ho : H b = some (.cells (l.map enc ++ rest) e (some t) false q)) (hl : l.length < 4611686018427387904) :
  ACalls P W0 f [.slice (some ⟨b, 0, some t⟩) l.length c, .func (.func g) #[] #[]] nx H fun v nx' H' => v = .tuple #[] ∧ nx' = nx ∧ ∃ l' : List α, l'.Perm l ∧ l'.Pairwise (fun x y => ¬ cf y x < 0) ∧ H' = H.put b (.cells (l'.map enc ++ rest) e (some t) false q) := by
 intro C w args' hR ha
 have hI : ∀ l : List α, ∀ v ∈ l.map enc, IntV v := fun l v hv => by
  obtain ⟨x, _, rfl⟩ := List.mem_map.1 hv;exact hi x
 obtain ⟨h1, h2⟩ := ha
 obtain ⟨v1, v2, rfl⟩ : ∃ v1 v2, args' = [v1, v2] := by
  match args', h1 with
  | [v1, v2], _ => exact ⟨v1, v2, rfl⟩
 have hv1 := h2 0 (by simp) (by simp);have hv2 := h2 1 (by simp) (by simp);simp only [List.getElem_cons_zero, List.getElem_cons_succ] at hv1 hv2
 obtain ⟨cap', rfl⟩ : ∃ cap', v1 = .slice (some ⟨(C.loc b).1, (C.loc b).2, none⟩) l.length cap' := by
  cases hv1 with
  | slc _ _ _ b' cap' k1 k2 =>
   obtain ⟨e1, _⟩ := k2 _ ho rfl;exact ⟨cap', by rw [e1]; simp [Corr.at]⟩
 obtain rfl : v2 = .func (.func g) #[] #[] := by
  cases hv2 with
  | func _ _ a' _ b' ha hb _ _ =>
   have : a' = #[] := by apply Array.eq_empty_of_size_eq_zero; simpa using ha.symm
   have : b' = #[] := by apply Array.eq_empty_of_size_eq_zero; simpa using hb.symm
   subst_vars; rfl
 have hH := z97 (z6m hR ho (hI l));refine (hs (C.loc b).1 (C.loc b).2 cap' l.toArray w hH (hR.obj _ _ ho).blk (by simpa using hl)).mono ?_;rintro e' w' ⟨rfl, d', n, os, hp, hso, rfl⟩;obtain ⟨l', rfl⟩ : ∃ l' : List α, d' = l'.toArray := ⟨d'.toList, by simp⟩;have hsize : l'.length = l.length := by have := hp.1; simpa using this
 have hput := za1 hR ho (cs' := l'.map enc) (by simp [hsize]) (hI l') n os
 have hw : sortWorld enc w (C.loc b).1 (C.loc b).2 n l'.toArray os = grow (putRow id (Sort.ahead w n) (C.loc b).1 (C.loc b).2 (l'.map enc).toArray) os := by
  unfold sortWorld;rw [z7j]
 rw [hw];exact ⟨_, _, C, nx, _, rfl, ⟨rfl, rfl, l', z91 (by simpa using hp), z6t (by rw [hsize]; simpa using hso), rfl⟩, hput.1, .tuple _ _ rfl (fun i h => absurd h (by simp)), hput.2⟩
end
end Go.Am
namespace Go.Proofs.YteplpegfcpmflaaGreat
open Go.Shelf Go.RowKit Go.Lib Go.Am
open Go.Sort hiding Below
shelf_lay_g SlLaysF0.n6 Slsf 6 at Tryz 68 as sortOL
shelf_lay_g SlLaysF0.n6 Slsf 6 at Tryz 72 as sortCL
shelf_lay_g SlLaysF0.n6 Slsf 6 at Tryz 75 as sortNL
shelf_lay_g SlLaysF.n6 Slsf 6 at Tryz 64 as sortIL
theorem zhG (w : World) : (isAgg 43).run Tryz.prog w = .ok true w := z1Z Tryz.underlying43 w
theorem zgm (w : World) : (Go.sizeOf 43).run Tryz.prog w = .ok 4 w := zT rfl w
theorem zhI (w : World) : (isAgg 45).run Tryz.prog w = .ok true w := z1Z Tryz.underlying45 w
theorem zgo (w : World) : (Go.sizeOf 45).run Tryz.prog w = .ok 4 w := zT rfl w
theorem zhH (w : World) : (isAgg 51).run Tryz.prog w = .ok true w := z1Z Tryz.underlying51 w
theorem zgn (w : World) : (Go.sizeOf 51).run Tryz.prog w = .ok 3 w := zT rfl w
theorem ziH : Sort.SWO (ltOf zcP) where
 irrefl x := by unfold ltOf; simp only [decide_eq_false_iff_not]; rw [z6f]; exact z7a.irr x
 trans x y z h1 h2 := by unfold ltOf at *; simp only [decide_eq_true_eq, z6f] at *; exact z7a.tr h1 h2
 ntrans x y z h1 h2 := by unfold ltOf at *; simp only [decide_eq_false_iff_not, z6f] at *; unfold lt4 at *; omega
theorem ziP : Sort.SWO (ltOf zfw) where
 irrefl x := by unfold ltOf; simp only [decide_eq_false_iff_not]; rw [z7J]; exact zel.irr x
 trans x y z h1 h2 := by unfold ltOf at *; simp only [decide_eq_true_eq, z7J] at *; exact zel.tr h1 h2
 ntrans x y z h1 h2 := by unfold ltOf at *; simp only [decide_eq_false_iff_not, z7J] at *; unfold lt3 at *; omega
theorem ziQ : Sort.SWO (ltOf Lib.compareInt) where
 irrefl x := by unfold ltOf; simp only [decide_eq_false_iff_not]; rw [z7K]; exact z9L.irr x
 trans x y z h1 h2 := by unfold ltOf at *; simp only [decide_eq_true_eq, z7K] at *; exact z9L.tr h1 h2
 ntrans x y z h1 h2 := by unfold ltOf at *; simp only [decide_eq_false_iff_not, z7K] at *; unfold lt1 at *; omega
theorem zik (x : R4) : ∀ v ∈ zP x, ∃ k n, v = .int k n := fun v hv => by simp [zP, e4] at hv; rcases hv with rfl | rfl | rfl | rfl <;> exact ⟨_, _, rfl⟩
theorem ziJ (x : R3) : ∀ v ∈ z19 x, ∃ k n, v = .int k n := fun v hv => by simp [z19, e3] at hv; rcases hv with rfl | rfl | rfl <;> exact ⟨_, _, rfl⟩
theorem ziI (x : R4) : ∀ v ∈ zP x, v.oneCell' = true := fun v hv => by obtain ⟨k, n, rfl⟩ := zik x v hv; rfl
theorem ziT (x : R3) : ∀ v ∈ z19 x, v.oneCell' = true := fun v hv => by obtain ⟨k, n, rfl⟩ := ziJ x v hv; rfl
theorem zaq : Am.z0U Tryz.prog 68 := ⟨Tryz.f68, Tryz.func68, by kernel_rfl, by kernel_rfl⟩
theorem zhv (W0 : World) {nx b t e c : Nat} {H : Heap} {q : Option TypeId} {l : List R4} {rest : List Value} (ho : H b = some (.cells (l.flatMap zP ++ rest) e (some t) false q)) (hl : l.length < 1000000000000) :
  ACalls Tryz.prog W0 68 [.slice (some ⟨b, 0, some t⟩) l.length c, .func (.func 47) #[] #[]] nx H fun v nx' H' => v = .tuple #[] ∧ nx' = nx ∧ ∃ l' : List R4, l'.Perm l ∧ z1w lt4 l' ∧ H' = H.put b (.cells (l'.flatMap zP ++ rest) e (some t) false q) := by
 have eg : ∀ args w, (callFunc 47 args).run Tryz.prog w = .ok (.enter 47 args) w := enters_of Tryz.func47 krf rfl
 have := z4y (P := Tryz.prog) (W0 := W0) (nx := nx) (H := H) (enc := zP) (k := 4) (cf := zcP) (f := 68) (g := 47) (fun _ => rfl) zik
  (fun blk off cap d w hH hb hsz => AnyQ.slices_SortFunc sortOL 4 zhG zgm zP (fun _ => rfl) ziI zcP ziH 47 #[] blk off cap d w eg (fun _ _ _ _ x y => z9q x y _) hH hb hsz) (c := c) ho zom
 refine ACalls.weaken this ?_;rintro v nx' H' ⟨h1, h2, l', h3, h4, h5⟩;exact ⟨h1, h2, l', h3, h4.imp (fun {x y} h hlt => h ((z6f y x).2 hlt)), h5⟩
theorem zat : Am.z0U Tryz.prog 72 := ⟨Tryz.f72, Tryz.func72, by kernel_rfl, by kernel_rfl⟩
theorem zhy (W0 : World) {nx b t e c : Nat} {H : Heap} {q : Option TypeId} {l : List R4} {rest : List Value} (ho : H b = some (.cells (l.flatMap zP ++ rest) e (some t) false q)) (hl : l.length < 1000000000000) :
  ACalls Tryz.prog W0 72 [.slice (some ⟨b, 0, some t⟩) l.length c, .func (.func 49) #[] #[]] nx H fun v nx' H' => v = .tuple #[] ∧ nx' = nx ∧ ∃ l' : List R4, l'.Perm l ∧ z1w lt4 l' ∧ H' = H.put b (.cells (l'.flatMap zP ++ rest) e (some t) false q) := by
 have eg : ∀ args w, (callFunc 49 args).run Tryz.prog w = .ok (.enter 49 args) w := enters_of Tryz.func49 krf rfl
 have := z4y (P := Tryz.prog) (W0 := W0) (nx := nx) (H := H) (enc := zP) (k := 4) (cf := zcP) (f := 72) (g := 49) (fun _ => rfl) zik
  (fun blk off cap d w hH hb hsz => AnyQ.slices_SortFunc sortCL 4 zhI zgo zP (fun _ => rfl) ziI zcP ziH 49 #[] blk off cap d w eg (fun _ _ _ _ x y => z8f x y _) hH hb hsz) (c := c) ho zom
 refine ACalls.weaken this ?_;rintro v nx' H' ⟨h1, h2, l', h3, h4, h5⟩;exact ⟨h1, h2, l', h3, h4.imp (fun {x y} h hlt => h ((z6f y x).2 hlt)), h5⟩
theorem zar : Am.z0U Tryz.prog 75 := ⟨Tryz.f75, Tryz.func75, by kernel_rfl, by kernel_rfl⟩
theorem zhw (W0 : World) {nx b t e c : Nat} {H : Heap} {q : Option TypeId} {l : List R3} {rest : List Value} (ho : H b = some (.cells (l.flatMap z19 ++ rest) e (some t) false q)) (hl : l.length < 1000000000000) :
  ACalls Tryz.prog W0 75 [.slice (some ⟨b, 0, some t⟩) l.length c, .func (.func 51) #[] #[]] nx H fun v nx' H' => v = .tuple #[] ∧ nx' = nx ∧ ∃ l' : List R3, l'.Perm l ∧ z1w lt3 l' ∧ H' = H.put b (.cells (l'.flatMap z19 ++ rest) e (some t) false q) := by
 have eg : ∀ args w, (callFunc 51 args).run Tryz.prog w = .ok (.enter 51 args) w := enters_of Tryz.func51 krf rfl
 have := z4y (P := Tryz.prog) (W0 := W0) (nx := nx) (H := H) (enc := z19) (k := 3) (cf := zfw) (f := 75) (g := 51) (fun _ => rfl) ziJ
  (fun blk off cap d w hH hb hsz => AnyQ.slices_SortFunc sortNL 3 zhH zgn z19 (fun _ => rfl) ziT zfw ziP 51 #[] blk off cap d w eg (fun _ _ _ _ x y => z8e x y _) hH hb hsz) (c := c) ho zom
 refine ACalls.weaken this ?_;rintro v nx' H' ⟨h1, h2, l', h3, h4, h5⟩;exact ⟨h1, h2, l', h3, h4.imp (fun {x y} h hlt => h ((z7J y x).2 hlt)), h5⟩
theorem zas : Am.z0U Tryz.prog 64 := ⟨Tryz.f64, Tryz.func64, by kernel_rfl, by kernel_rfl⟩
theorem zhx (W0 : World) {nx b t e c : Nat} {H : Heap} {q : Option TypeId} {l : List Int} {rest : List Value} (ho : H b = some (.cells (l.map (.int .i64 ·) ++ rest) e (some t) false q)) (hl : l.length < 1000000000000) :
  ACalls Tryz.prog W0 64 [.slice (some ⟨b, 0, some t⟩) l.length c, .func (.func 45) #[] #[]] nx H fun v nx' H' => v = .tuple #[] ∧ nx' = nx ∧ ∃ l' : List Int, l'.Perm l ∧ z1w lt1 l' ∧ H' = H.put b (.cells (l'.map (.int .i64 ·) ++ rest) e (some t) false q) := by
 have eg : ∀ args w, (callFunc 45 args).run Tryz.prog w = .ok (.enter 45 args) w := enters_of Tryz.func45 krf rfl
 have := zac (P := Tryz.prog) (W0 := W0) (nx := nx) (H := H) (enc := fun x : Int => .int .i64 x) (cf := Lib.compareInt) (f := 64) (g := 45) (fun x => ⟨_, _, rfl⟩)
  (fun blk off cap d w hH hb hsz => Any.slices_SortFunc sortIL (fun x : Int => .int .i64 x) (fun _ => rfl) Lib.compareInt ziQ 45 #[] blk off cap d w eg (fun _ _ _ _ x y => zcu x y _) hH hb hsz) (c := c) ho zom
 refine ACalls.weaken this ?_;rintro v nx' H' ⟨h1, h2, l', h3, h4, h5⟩;exact ⟨h1, h2, l', h3, h4.imp (fun {x y} h hlt => h ((z7K y x).2 hlt)), h5⟩
end Go.Proofs.YteplpegfcpmflaaGreat
namespace Go.Proofs.YteplpegfcpmflaaGreat
open Go.RowKit Go.Am
attribute [local irreducible] aop OpsL Trip zI z2w OpsK OpsR
theorem zan : Am.z0U Tryz.prog 46 := ⟨Tryz.f46, Tryz.func46, by kernel_rfl, by kernel_rfl⟩
theorem zeD (W0 : World) {nx : Nat} {H : Heap} {ob : Option (Nat × Nat)} {v : Value} {l : List (R4)} (h : zaY H ob v l) (hl : l.length ≤ 1000000) :
  ACalls Tryz.prog W0 68 [v, .func (.func 47) #[] #[]] nx H fun _ nx' H' => nx' = nx ∧ ∃ l' : List (R4), l'.Perm l ∧ z1w lt4 l' ∧ zaY H' ob v l' ∧ ∀ i, (∀ b t, ob = some (b, t) → i ≠ b) → H' i = H i := by
 cases ob with
 | none =>
  obtain ⟨rfl, _, hl0⟩ := h;have hnil : l = [] := List.eq_nil_of_length_eq_zero hl0;subst hnil;intro C w args' hR ha;obtain ⟨h1, h2⟩ := ha
  obtain ⟨v1, v2, rfl⟩ : ∃ v1 v2, args' = [v1, v2] := by
   match args', h1 with
   | [v1, v2], _ => exact ⟨v1, v2, rfl⟩
  have hv1 := h2 0 (by simp) (by simp);simp only [List.getElem_cons_zero] at hv1;obtain rfl : v1 = .slice none 0 0 := by cases hv1; rfl
  refine (AnyF.slices_SortFunc_none { sortOL with } none 0 v2 w).mono ?_;rintro e w' ⟨rfl, rfl⟩;exact ⟨_, _, C, nx, H, rfl, ⟨rfl, [], List.Perm.refl _, List.Pairwise.nil, ⟨rfl, rfl, rfl⟩, fun _ _ => rfl⟩, hR, .tuple #[] #[] rfl (fun i h => absurd h (by simp)), Stp.refl _ _ _⟩
 | some bt =>
  obtain ⟨b, t⟩ := bt;obtain ⟨rfl, _, rest, hH⟩ := h;refine ACalls.weaken (zhv W0 hH zom) ?_;rintro v nx' H' ⟨_, rfl, l', hp, hs, rfl⟩;refine ⟨rfl, l', hp, hs, ⟨by rw [hp.length_eq], by rw [z0i z03], rest, zb⟩, fun i hi => za (hi b t rfl)⟩
theorem zhs (W0 : World) {nx : Nat} {H : Heap} {v : Value} {l : List R4} (hr : AtO H v l) (hm : l.length ≤ 100000) :
  ACalls Tryz.prog W0 46 [v, .func (.func 47) #[] #[]] nx H fun v nx' H' => ∃ ob, zaY H' ob v (zu lt4 l) ∧ z2n nx H nx' H' ob := by
 refine zl (fn := Tryz.f46) (c := _) Tryz.func46 rfl (fun tm n hn0 htm => ?_);have e0 : tm 0 = v := htm 0;have e1 : tm 1 = .func (.func 47) #[] #[] := htm 1;clear htm;replace hn0 : n = 13 := hn0;refine Trip.ok fun hok => ?_;replace hok : ∀ id o, H id = some o → id < nx := hok;obtain ⟨va, vc, rfl⟩ := hr.slice;refine z5c ?_;refine OpsL.new zsd (zq (l := [(0, .slice va l.length vc)]) (r := (.slice (some ⟨nx, 0, none⟩) 1 1, .new (.cells [.slice va l.length vc] 1 none false (some 26)))) zeq krf) ?_;have hx0 : Ext nx H (nx + 1) (H.put nx (.cells [.slice va l.length vc] 1 none false (some 26))) := zh;have hin : zdA (H.put nx (.cells [.slice va l.length vc] 1 none false (some 26))) (.slice (some ⟨nx, 0, none⟩) 1 1) [(.slice va l.length vc, l)] := ⟨nx, rfl, zb, fun x hx => by rw [List.mem_singleton] at hx; subst hx; exact hr.ext hx0 hok⟩;have hall : z1J [(Value.slice va l.length vc, l)] = l := by simp [z1J]
 refine z0c (hf := zaz) (hc := (zhS W0 hin (by rw [hall]; exact hm) (by simp))) (h := ?_);rintro v1 nx1 H1 ⟨ob, ho1, hx1, hob1⟩;rw [hall] at ho1;refine z5c ?_;refine OpsL.c2 (hf := zaq) (hc := (zeD W0 ho1 zom)) (h := ?_);rintro v2 nx2 H2 ⟨rfl, l', hp, hs, ho2, hsame2⟩;refine z7A ?_;refine z0c (hf := zaD) (hc := (zhW W0 ho2 (by rw [hp.length_eq]; omega))) (h := ?_);rintro v3 nx3 H3 ⟨rfl, ho3, hsame3⟩;refine zfL ?_;have heq := z1B z7a (z2H z7a l' hs) (fun x => by rw [z3q, hp.mem_iff] : ∀ x, x ∈ z1h l' ↔ x ∈ l);rw [heq] at ho3;refine ⟨.inr rfl, _, zx, ob, by simpa [zk] using ho3, hx0.trans ⟨hx1.1, fun i hi => ?_⟩, fun b t h => by have := hob1 b t h; omega⟩;rw [hsame3 i (fun b t h => by have := (hob1 b t h).1; omega), hsame2 i (fun b t h => by have := (hob1 b t h).1; omega), hx1.2 i hi]
end Go.Proofs.YteplpegfcpmflaaGreat
namespace Go.Proofs.YteplpegfcpmflaaGreat
open Go.RowKit Go.Am
attribute [local irreducible] aop OpsL Trip zI z2w OpsK OpsR
abbrev AtC (H : Heap) (v : Value) (l : List (R4)) : Prop := RowsAt zP 4 H v l
abbrev zb0 (H : Heap) (ob : Option (Nat × Nat)) (v : Value) (l : List (R4)) : Prop := OwnOf zP 4 45 H ob v l
theorem zax : Am.z0U Tryz.prog 85 := ⟨Tryz.f85, Tryz.func85, by kernel_rfl, by kernel_rfl⟩
theorem zaC : Am.z0U Tryz.prog 71 := ⟨Tryz.f71, Tryz.func71, by kernel_rfl, by kernel_rfl⟩
namespace zd3b
noncomputable section
abbrev zp0 := @Tryz.f85
abbrev zp1 := @Tryz.func85
abbrev zp2 := 45
abbrev zp3 := 27
end
end zd3b
open zd3b in
theorem zhM (W0 : World) {nx m : Nat} {H : Heap} (hm : m ≤ 1000000) :
  ACalls Tryz.prog W0 85 [.slice none 0 0, .int .i64 m] nx H fun v nx' H' => ∃ ob, zb0 H' ob v [] ∧ z2n nx H nx' H' ob := zd3
def zdD (H : Heap) (v : Value) (ls : List (Value × List (R4))) : Prop :=
 ∃ a, v = .slice (some ⟨a, 0, none⟩) ls.length ls.length ∧ H a = some (.cells (ls.map (·.1)) 1 none false (some 27)) ∧ ∀ x ∈ ls, AtC H x.1 x.2
def z1M (ls : List (Value × List (R4))) : List (R4) := ls.flatMap (·.2)
theorem z6I (ls : List (Value × List (R4))) {i : Nat} (h : i < ls.length) : z1M (ls.take (i + 1)) = z1M (ls.take i) ++ ls[i].2 := by
 unfold z1M;rw [List.take_add_one, List.getElem?_eq_getElem h, Option.toList_some, List.flatMap_append];simp
theorem zhV (W0 : World) {nx : Nat} {H : Heap} {v : Value} {ls : List (Value × List (R4))} (hr : zdD H v ls) (hm : (z1M ls).length ≤ 100000) (hl : ls.length ≤ 100) :
  ACalls Tryz.prog W0 71 [v] nx H fun v nx' H' => ∃ ob, zb0 H' ob v (z1M ls) ∧ z2n nx H nx' H' ob := by
 obtain ⟨a, rfl, hH, hrows⟩ := hr;refine zl (fn := Tryz.f71) (c := _) Tryz.func71 rfl (fun tm n hn0 htm => ?_);have e0 : tm 0 = .slice (some ⟨a, 0, none⟩) ls.length ls.length := htm 0;clear htm;replace hn0 : n = 36 := hn0;refine Trip.ok fun hok => ?_;replace hok : ∀ id o, H id = some o → id < nx := hok
 have hcell : ∀ (G : Heap), G a = some (.cells (ls.map (·.1)) 1 none false (some 27)) → ∀ i (h : i < ls.length), zj G ⟨a, 0 + (i : Int).toNat * 1, none⟩ ls[i].1 := fun G hG i h => by
  have := z2v (off := i) hG (by simpa using h);simpa using this
 have hlen : ∀ i, i ≤ ls.length → (z1M (ls.take i)).length ≤ (z1M ls).length := fun i hi => by
  have h1 : z1M ls = z1M (ls.take i) ++ z1M (ls.drop i) := by
   unfold z1M;rw [← List.flatMap_append, List.take_append_drop]
  rw [h1, List.length_append]; omega
 refine z9I ?_;refine zD (fun (i : Nat) st => ∃ (tm : Nat → Value), st = ⟨tm, n, H, nx⟩ ∧ tm 0 = .slice (some ⟨a, 0, none⟩) ls.length ls.length ∧ tm 9 = .slice (some ⟨a, 0, none⟩) ls.length ls.length ∧ tm 10 = .int .i64 ls.length ∧ tm 11 = .int .i64 i ∧ tm 3 = .int .i64 (z1M (ls.take i)).length ∧ i ≤ ls.length) (fun i => ls.length - i) 0 ?_ ?_
 ·exact ⟨_, rfl, stp, stp, stp, stp, by simp [zk, z1M], zom⟩
 ·clear e0;rintro i st ⟨tm, rfl, e0, e9, e10, e11, e3, hi⟩;by_cases hlt : i < ls.length
  ·have hc := hcell H hH i hlt;obtain ⟨ua, uc, hu⟩ := (hrows _ (List.getElem_mem hlt)).slice;have hst := z6I ls hlt;have hl1 := hlen (i + 1) zom;rw [hst, List.length_append] at hl1;rw [hu] at hc;generalize ls[i].2 = us at *;generalize z1M (ls.take i) = zs at *;refine zi7 ?_;exact ⟨i + 1, ⟨_, rfl, stp, stp, stp, stp, by rw [hst]; simp [zk, *], zom⟩, zom⟩
  ·have hin : i = ls.length := by omega
   subst hin;rw [List.take_length] at e3;refine zaV ?_;refine zfr ?_;refine OpsL.c2 (hf := zax) (hc := (zhM W0 (m := (z1M ls).length) zom).ok) (h := ?_);rintro gv nx1 H1 ⟨⟨ob1, ho1, hx1, hob1⟩, hok1⟩;refine z9I ?_;refine zD (fun (i : Nat) st => ∃ (tm : Nat → Value) (nx' : Nat) (H' : Heap) (ob : Option (Nat × Nat)) (v : Value), st = ⟨tm, n, H', nx'⟩ ∧ z2n nx H nx' H' ob ∧ (∀ id o, H' id = some o → id < nx') ∧ zb0 H' ob v (z1M (ls.take i)) ∧ tm 25 = .slice (some ⟨a, 0, none⟩) ls.length ls.length ∧ tm 26 = .int .i64 ls.length ∧ tm 27 = .int .i64 i ∧ tm 6 = v ∧ i ≤ ls.length) (fun i => ls.length - i) 0 ?_ ?_
   ·exact ⟨_, _, _, ob1, gv, rfl, ⟨hx1, hob1⟩, hok1, ho1, stp, stp, stp, stp, zom⟩
   ·clear e0 e9 e10 e11 e3 ho1 hx1 hob1 hok1;rintro i st ⟨tm, nx', H', ob, v, rfl, ⟨hx, hob⟩, hok', hown, e25, e26, e27, e6, hi⟩;by_cases hlt : i < ls.length
    ·have hst := z6I ls hlt;have hl1 := hlen (i + 1) zom;rw [hst, List.length_append] at hl1;have hrow := (hrows _ (List.getElem_mem hlt)).ext hx hok;have hc := hcell H' (by rw [hx.2 a (hok _ _ hH)]; exact hH) i hlt;obtain ⟨ua, uc, hu⟩ := hrow.slice;rw [hu] at hc hrow;generalize ls[i].2 = us at *;generalize z1M (ls.take i) = zs at *;refine zft ?_;refine zJ (bytes := 32) (z := [.int .i64 0, .int .i64 0, .int .i64 0, .int .i64 0]) z03 z1Q zom zsd hown hrow evd evd (fun b t h => (hob b t h).2) zxr zxr zxr zxr zxr rfl zom zom ?_;intro v' nx2 H2 ob2 hA;refine zg8 ?_;refine ⟨i + 1, ⟨_, nx2, H2, ob2, v', rfl, ⟨⟨by have := hx.1; have := hA.le; omega, fun j hj => ?_⟩, fun b t h => ?_⟩, ?_, by rw [hst]; exact hA.own, stp, stp, stp, stp, zom⟩, zom⟩
     ·rw [hA.same j (by have := hx.1; omega) (fun b t h => by have := (hob b t h).1; omega), hx.2 j hj]
     ·obtain ⟨q1, q2⟩ := hA.blk b t h;refine ⟨?_, q1⟩;rcases q2 with rfl | ⟨t', h'⟩
      ·exact hx.1
      ·exact (hob _ _ h').1
     ·exact hA.ok (fun b t h => (hob b t h).2) hok'
    ·have hin : i = ls.length := by omega
     subst hin;rw [List.take_length] at hown;refine zaV ?_;refine z9P ?_;exact ⟨.inr rfl, _, zx, ob, stp, hx, hob⟩
end Go.Proofs.YteplpegfcpmflaaGreat
namespace Go.Proofs.YteplpegfcpmflaaGreat
open Go.RowKit Go.Am
attribute [local irreducible] aop OpsL Trip zI z2w OpsK OpsR
theorem zaG : Am.z0U Tryz.prog 73 := ⟨Tryz.f73, Tryz.func73, by kernel_rfl, by kernel_rfl⟩
namespace zd4b
noncomputable section
abbrev zp0 := @Tryz.f73
abbrev zp1 := @Tryz.func73
abbrev zp2 := 45
abbrev zp3 := 27
abbrev zp4 := @eqC
end
end zd4b
open zd4b in
theorem zhZ (W0 : World) {nx : Nat} {H : Heap} {ob : Option (Nat × Nat)} {v : Value} {l : List (R4)} (h : zb0 H ob v l) (hl : l.length ≤ 100000) :
  ACalls Tryz.prog W0 73 [v] nx H fun v' nx' H' => nx' = nx ∧ zb0 H' ob v' (z1h l) ∧ ∀ i, (∀ b t, ob = some (b, t) → i ≠ b) → H' i = H i := zd4
end Go.Proofs.YteplpegfcpmflaaGreat
namespace Go.Proofs.YteplpegfcpmflaaGreat
open Go.RowKit Go.Am
attribute [local irreducible] aop OpsL Trip zI z2w OpsK OpsR
theorem zap : Am.z0U Tryz.prog 48 := ⟨Tryz.f48, Tryz.func48, by kernel_rfl, by kernel_rfl⟩
theorem zeG (W0 : World) {nx : Nat} {H : Heap} {ob : Option (Nat × Nat)} {v : Value} {l : List (R4)} (h : zb0 H ob v l) (hl : l.length ≤ 1000000) :
  ACalls Tryz.prog W0 72 [v, .func (.func 49) #[] #[]] nx H fun _ nx' H' => nx' = nx ∧ ∃ l' : List (R4), l'.Perm l ∧ z1w lt4 l' ∧ zb0 H' ob v l' ∧ ∀ i, (∀ b t, ob = some (b, t) → i ≠ b) → H' i = H i := by
 cases ob with
 | none =>
  obtain ⟨rfl, _, hl0⟩ := h;have hnil : l = [] := List.eq_nil_of_length_eq_zero hl0;subst hnil;intro C w args' hR ha;obtain ⟨h1, h2⟩ := ha
  obtain ⟨v1, v2, rfl⟩ : ∃ v1 v2, args' = [v1, v2] := by
   match args', h1 with
   | [v1, v2], _ => exact ⟨v1, v2, rfl⟩
  have hv1 := h2 0 (by simp) (by simp);simp only [List.getElem_cons_zero] at hv1;obtain rfl : v1 = .slice none 0 0 := by cases hv1; rfl
  refine (AnyF.slices_SortFunc_none { sortCL with } none 0 v2 w).mono ?_;rintro e w' ⟨rfl, rfl⟩;exact ⟨_, _, C, nx, H, rfl, ⟨rfl, [], List.Perm.refl _, List.Pairwise.nil, ⟨rfl, rfl, rfl⟩, fun _ _ => rfl⟩, hR, .tuple #[] #[] rfl (fun i h => absurd h (by simp)), Stp.refl _ _ _⟩
 | some bt =>
  obtain ⟨b, t⟩ := bt;obtain ⟨rfl, _, rest, hH⟩ := h;refine ACalls.weaken (zhy W0 hH zom) ?_;rintro v nx' H' ⟨_, rfl, l', hp, hs, rfl⟩;refine ⟨rfl, l', hp, hs, ⟨by rw [hp.length_eq], by rw [z0i z03], rest, zb⟩, fun i hi => za (hi b t rfl)⟩
theorem zhu (W0 : World) {nx : Nat} {H : Heap} {v : Value} {l : List R4} (hr : AtC H v l) (hm : l.length ≤ 100000) :
  ACalls Tryz.prog W0 48 [v, .func (.func 49) #[] #[]] nx H fun v nx' H' => ∃ ob, zb0 H' ob v (zu lt4 l) ∧ z2n nx H nx' H' ob := by
 refine zl (fn := Tryz.f48) (c := _) Tryz.func48 rfl (fun tm n hn0 htm => ?_);have e0 : tm 0 = v := htm 0;have e1 : tm 1 = .func (.func 49) #[] #[] := htm 1;clear htm;replace hn0 : n = 13 := hn0;refine Trip.ok fun hok => ?_;replace hok : ∀ id o, H id = some o → id < nx := hok;obtain ⟨va, vc, rfl⟩ := hr.slice;refine z5c ?_;refine OpsL.new zsd (zq (l := [(0, .slice va l.length vc)]) (r := (.slice (some ⟨nx, 0, none⟩) 1 1, .new (.cells [.slice va l.length vc] 1 none false (some 27)))) zeq krf) ?_;have hx0 : Ext nx H (nx + 1) (H.put nx (.cells [.slice va l.length vc] 1 none false (some 27))) := zh;have hin : zdD (H.put nx (.cells [.slice va l.length vc] 1 none false (some 27))) (.slice (some ⟨nx, 0, none⟩) 1 1) [(.slice va l.length vc, l)] := ⟨nx, rfl, zb, fun x hx => by rw [List.mem_singleton] at hx; subst hx; exact hr.ext hx0 hok⟩;have hall : z1M [(Value.slice va l.length vc, l)] = l := by simp [z1M]
 refine z0c (hf := zaC) (hc := (zhV W0 hin (by rw [hall]; exact hm) (by simp))) (h := ?_);rintro v1 nx1 H1 ⟨ob, ho1, hx1, hob1⟩;rw [hall] at ho1;refine z5c ?_;refine OpsL.c2 (hf := zat) (hc := (zeG W0 ho1 zom)) (h := ?_);rintro v2 nx2 H2 ⟨rfl, l', hp, hs, ho2, hsame2⟩;refine z7A ?_;refine z0c (hf := zaG) (hc := (zhZ W0 ho2 (by rw [hp.length_eq]; omega))) (h := ?_);rintro v3 nx3 H3 ⟨rfl, ho3, hsame3⟩;refine zfL ?_;have heq := z1B z7a (z2H z7a l' hs) (fun x => by rw [z3q, hp.mem_iff] : ∀ x, x ∈ z1h l' ↔ x ∈ l);rw [heq] at ho3;refine ⟨.inr rfl, _, zx, ob, by simpa [zk] using ho3, hx0.trans ⟨hx1.1, fun i hi => ?_⟩, fun b t h => by have := hob1 b t h; omega⟩;rw [hsame3 i (fun b t h => by have := (hob1 b t h).1; omega), hsame2 i (fun b t h => by have := (hob1 b t h).1; omega), hx1.2 i hi]
end Go.Proofs.YteplpegfcpmflaaGreat
namespace Go.Proofs.YteplpegfcpmflaaGreat
open Go.RowKit Go.Am
attribute [local irreducible] aop OpsL Trip zI z2w OpsK OpsR
abbrev AtN (H : Heap) (v : Value) (l : List (R3)) : Prop := RowsAt z19 3 H v l
abbrev zaZ (H : Heap) (ob : Option (Nat × Nat)) (v : Value) (l : List (R3)) : Prop := OwnOf z19 3 51 H ob v l
theorem zav : Am.z0U Tryz.prog 87 := ⟨Tryz.f87, Tryz.func87, by kernel_rfl, by kernel_rfl⟩
theorem zaA : Am.z0U Tryz.prog 74 := ⟨Tryz.f74, Tryz.func74, by kernel_rfl, by kernel_rfl⟩
theorem zhK (W0 : World) {nx m : Nat} {H : Heap} (hm : m ≤ 1000000) :
  ACalls Tryz.prog W0 87 [.slice none 0 0, .int .i64 m] nx H fun v nx' H' => ∃ ob, zaZ H' ob v [] ∧ z2n nx H nx' H' ob := by
 refine zl (fn := Tryz.f87) (c := _) Tryz.func87 rfl (fun tm n hn0 htm => ?_);have e0 : tm 0 = .slice none 0 0 := htm 0;have e1 : tm 1 = .int .i64 m := htm 1;clear htm;replace hn0 : n = 27 := hn0;refine z5c ?_;refine z9G ?_;refine zfq ?_;refine zd (z4b evr zxr) ?_;refine zih ?_;by_cases h0 : 0 < m
 ·refine z2G ?_;refine z7z ?_;refine zbP ?_;refine zd (z4b evr zxr) ?_;refine zd (z07 (r := .slice none 0 0) (a := none) (b := some (.int .i64 0)) (c := none) evd rfl (by simp only [z2l, ASt.ev, zk, ↓reduceIte, reduceIte, Option.some.injEq, Nat.reduceEqDiff, Option.map_some]; rfl) rfl (z3e (el := 51) (sz := 3) zxr zxr (.inl ⟨rfl, rfl⟩) (.inr ⟨.i64, rfl⟩))) ?_;refine z7y ?_;refine OpsL.new zsd (z4E (k := m) (el := 51) (kd := .i64) (size := 3) (bytes := 24) (z := [.int .i64 0, .int .i64 0, .int .i64 0]) evd (by simp only [ASt.ev, zk, ↓reduceIte, reduceIte, Nat.reduceEqDiff, zL, *]; simp) zxr zxr zxr zxr zxr rfl h0 zom zom) ?_
  repeat (refine zd (by first | exact omv | exact z2i) ?_)
  refine zd (z07 (r := .slice (some ⟨nx, 0, some nx⟩) 0 0) (a := none) (b := some (.int .i64 0)) (c := none) evr rfl (by simp only [z2l, ASt.ev, zk, ↓reduceIte, reduceIte, Option.some.injEq, Nat.reduceEqDiff, Option.map_some]; rfl) rfl (by
   have := z06 (P := Tryz.prog) (H := H.put nx (.cells (z0t [.int .i64 0, .int .i64 0, .int .i64 0] m) 3 (some nx) false (some 51))) (t := 28) (el := 51) (sz := 3) (a := ⟨nx, 0, some nx⟩) (len := m) (cap := m) (l := 0) (h := 0) (tg := nx) (lo := none) (hi := some (.int .i64 0)) zxr zxr zb rfl rfl rfl (.inl ⟨rfl, rfl⟩) (.inr ⟨.i64, rfl⟩) (Nat.le_refl _) (Nat.zero_le _);simpa using this)) ?_
  refine zcU ?_;refine ⟨.inr rfl, _, zx, some (nx, nx), ?_, ⟨zh, fun b t h => by cases h; exact ⟨Nat.le_refl _, Nat.lt_succ_self _⟩⟩⟩;refine ⟨by simp [zk], rfl, z0t [.int .i64 0, .int .i64 0, .int .i64 0] m, ?_⟩;rw [zb];simp
 ·refine z2e ?_;refine zii ?_;refine ⟨.inr rfl, _, zx, none, ⟨stp, rfl, rfl⟩, Ext.refl, fun b t h => by cases h⟩
def zdB (H : Heap) (v : Value) (ls : List (Value × List (R3))) : Prop :=
 ∃ a, v = .slice (some ⟨a, 0, none⟩) ls.length ls.length ∧ H a = some (.cells (ls.map (·.1)) 1 none false (some 28)) ∧ ∀ x ∈ ls, AtN H x.1 x.2
def z1K (ls : List (Value × List (R3))) : List (R3) := ls.flatMap (·.2)
theorem z6G (ls : List (Value × List (R3))) {i : Nat} (h : i < ls.length) : z1K (ls.take (i + 1)) = z1K (ls.take i) ++ ls[i].2 := by
 unfold z1K;rw [List.take_add_one, List.getElem?_eq_getElem h, Option.toList_some, List.flatMap_append];simp
theorem zhT (W0 : World) {nx : Nat} {H : Heap} {v : Value} {ls : List (Value × List (R3))} (hr : zdB H v ls) (hm : (z1K ls).length ≤ 100000) (hl : ls.length ≤ 100) :
  ACalls Tryz.prog W0 74 [v] nx H fun v nx' H' => ∃ ob, zaZ H' ob v (z1K ls) ∧ z2n nx H nx' H' ob := by
 obtain ⟨a, rfl, hH, hrows⟩ := hr;refine zl (fn := Tryz.f74) (c := _) Tryz.func74 rfl (fun tm n hn0 htm => ?_);have e0 : tm 0 = .slice (some ⟨a, 0, none⟩) ls.length ls.length := htm 0;clear htm;replace hn0 : n = 36 := hn0;refine Trip.ok fun hok => ?_;replace hok : ∀ id o, H id = some o → id < nx := hok
 have hcell : ∀ (G : Heap), G a = some (.cells (ls.map (·.1)) 1 none false (some 28)) → ∀ i (h : i < ls.length), zj G ⟨a, 0 + (i : Int).toNat * 1, none⟩ ls[i].1 := fun G hG i h => by
  have := z2v (off := i) hG (by simpa using h);simpa using this
 have hlen : ∀ i, i ≤ ls.length → (z1K (ls.take i)).length ≤ (z1K ls).length := fun i hi => by
  have h1 : z1K ls = z1K (ls.take i) ++ z1K (ls.drop i) := by
   unfold z1K;rw [← List.flatMap_append, List.take_append_drop]
  rw [h1, List.length_append]; omega
 refine z9I ?_;refine zD (fun (i : Nat) st => ∃ (tm : Nat → Value), st = ⟨tm, n, H, nx⟩ ∧ tm 0 = .slice (some ⟨a, 0, none⟩) ls.length ls.length ∧ tm 9 = .slice (some ⟨a, 0, none⟩) ls.length ls.length ∧ tm 10 = .int .i64 ls.length ∧ tm 11 = .int .i64 i ∧ tm 3 = .int .i64 (z1K (ls.take i)).length ∧ i ≤ ls.length) (fun i => ls.length - i) 0 ?_ ?_
 ·exact ⟨_, rfl, stp, stp, stp, stp, by simp [zk, z1K], zom⟩
 ·clear e0;rintro i st ⟨tm, rfl, e0, e9, e10, e11, e3, hi⟩;by_cases hlt : i < ls.length
  ·have hc := hcell H hH i hlt;obtain ⟨ua, uc, hu⟩ := (hrows _ (List.getElem_mem hlt)).slice;have hst := z6G ls hlt;have hl1 := hlen (i + 1) zom;rw [hst, List.length_append] at hl1;rw [hu] at hc;generalize ls[i].2 = us at *;generalize z1K (ls.take i) = zs at *;refine zi7 ?_;exact ⟨i + 1, ⟨_, rfl, stp, stp, stp, stp, by rw [hst]; simp [zk, *], zom⟩, zom⟩
  ·have hin : i = ls.length := by omega
   subst hin;rw [List.take_length] at e3;refine zaV ?_;refine zfr ?_;refine OpsL.c2 (hf := zav) (hc := (zhK W0 (m := (z1K ls).length) zom).ok) (h := ?_);rintro gv nx1 H1 ⟨⟨ob1, ho1, hx1, hob1⟩, hok1⟩;refine z9I ?_;refine zD (fun (i : Nat) st => ∃ (tm : Nat → Value) (nx' : Nat) (H' : Heap) (ob : Option (Nat × Nat)) (v : Value), st = ⟨tm, n, H', nx'⟩ ∧ z2n nx H nx' H' ob ∧ (∀ id o, H' id = some o → id < nx') ∧ zaZ H' ob v (z1K (ls.take i)) ∧ tm 25 = .slice (some ⟨a, 0, none⟩) ls.length ls.length ∧ tm 26 = .int .i64 ls.length ∧ tm 27 = .int .i64 i ∧ tm 6 = v ∧ i ≤ ls.length) (fun i => ls.length - i) 0 ?_ ?_
   ·exact ⟨_, _, _, ob1, gv, rfl, ⟨hx1, hob1⟩, hok1, ho1, stp, stp, stp, stp, zom⟩
   ·clear e0 e9 e10 e11 e3 ho1 hx1 hob1 hok1;rintro i st ⟨tm, nx', H', ob, v, rfl, ⟨hx, hob⟩, hok', hown, e25, e26, e27, e6, hi⟩;by_cases hlt : i < ls.length
    ·have hst := z6G ls hlt;have hl1 := hlen (i + 1) zom;rw [hst, List.length_append] at hl1;have hrow := (hrows _ (List.getElem_mem hlt)).ext hx hok;have hc := hcell H' (by rw [hx.2 a (hok _ _ hH)]; exact hH) i hlt;obtain ⟨ua, uc, hu⟩ := hrow.slice;rw [hu] at hc hrow;generalize ls[i].2 = us at *;generalize z1K (ls.take i) = zs at *;refine zft ?_;refine zJ (bytes := 24) (z := [.int .i64 0, .int .i64 0, .int .i64 0]) z14 z60 zom zsd hown hrow evd evd (fun b t h => (hob b t h).2) zxr zxr zxr zxr zxr rfl zom zom ?_;intro v' nx2 H2 ob2 hA;refine zg8 ?_;refine ⟨i + 1, ⟨_, nx2, H2, ob2, v', rfl, ⟨⟨by have := hx.1; have := hA.le; omega, fun j hj => ?_⟩, fun b t h => ?_⟩, ?_, by rw [hst]; exact hA.own, stp, stp, stp, stp, zom⟩, zom⟩
     ·rw [hA.same j (by have := hx.1; omega) (fun b t h => by have := (hob b t h).1; omega), hx.2 j hj]
     ·obtain ⟨q1, q2⟩ := hA.blk b t h;refine ⟨?_, q1⟩;rcases q2 with rfl | ⟨t', h'⟩
      ·exact hx.1
      ·exact (hob _ _ h').1
     ·exact hA.ok (fun b t h => (hob b t h).2) hok'
    ·have hin : i = ls.length := by omega
     subst hin;rw [List.take_length] at hown;refine zaV ?_;refine z9P ?_;exact ⟨.inr rfl, _, zx, ob, stp, hx, hob⟩
end Go.Proofs.YteplpegfcpmflaaGreat
