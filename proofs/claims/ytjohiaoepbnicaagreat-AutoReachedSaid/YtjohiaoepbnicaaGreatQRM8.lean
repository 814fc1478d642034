import Derived.Shelf.SlSortCmp.WholeK
import Derived.Shelf.SlSortCmp.Whole1
import Derived.Shelf.Lay
import Derived.Ground.SlsfProg
import Derived.Shelf.SlSortCmp.NoneTotal
import Derived.Test.YtjohiaoepbnicaaGreatQRM7
namespace Go.Proofs.YtjohiaoepbnicaaGreat
set_option linter.unusedSimpArgs false
set_option linter.unusedVariables false
open Go.RowKit Go.Am
open Go.Sort hiding Below
attribute [local irreducible] aop OpsL Trip blockExit OpsD OpsK OpsR
theorem entersOr : Am.Enters Tryz.prog 71 := ⟨Tryz.f71, Tryz.func71, by kernel_rfl, by kernel_rfl⟩
theorem orF_take {xs : List Int} : ∀ i, i ≤ xs.length → (∀ j (h : j < xs.length), j < i → xs[j] = 0) → orF xs = orF (xs.drop i) := by
 induction xs with
 | nil => intro i _ _; simp
 | cons x xs ih =>
  intro i hi h
  cases i with
  | zero => rfl
  | succ i =>
   have h0 : x = 0 := h 0 (by simp) (Nat.succ_pos _)
   rw [List.drop_succ_cons, ← ih i (by simpa using hi) (fun j hj hji => h (j + 1) (by simpa using hj) (by omega))]
   simp [orF, h0]
set_option maxRecDepth 20000 in
set_option maxHeartbeats 4000000 in
theorem orC (W0 : World) {nx : Nat} {H : Heap} {v : Value} {xs : List Int} (hr : IntsAt H v xs) (hm : xs.length ≤ 1000) :
  ACalls Tryz.prog W0 71 [v] nx H fun v nx' H' => v = .int .i64 (orF xs) ∧ nx' = nx ∧ H' = H := by
 obtain ⟨va, vc, rfl⟩ := hr.slice
 refine ACalls.by_trip (fn := Tryz.f71) (c := _) Tryz.func71 rfl (fun tm n hn0 htm => ?_)
 have e0 : tm 0 = .slice va xs.length vc := htm 0
 clear htm
 replace hn0 : n = 18 := hn0
 repeat (first | (refine OpsL.q (by first | exact omv | exact oasg | exact olen) ?_) | refine Trip.seq ?_ | refine Trip.ops ?_ | refine Trip.block ?_ | (refine OpsL.nil ?_; (change Trip _ _ _ _ _)))
 refine Trip.inv (fun (i : Nat) st => ∃ (tm : Nat → Value), st = ⟨tm, n, H, nx⟩ ∧ tm 3 = .int .i64 0 ∧ tm 6 = .slice va xs.length vc ∧ tm 7 = .int .i64 xs.length ∧ tm 8 = .int .i64 i ∧ i ≤ xs.length ∧ ∀ j (h : j < xs.length), j < i → xs[j] = 0) (fun i => xs.length - i) 0 ?_ ?_
 ·exact ⟨_, rfl, by simp [tmPut, *], by simp [tmPut, *], by simp [tmPut, *], by simp [tmPut, *], by omega, fun j _ h => by omega⟩
 ·clear e0
  rintro i st ⟨tm, rfl, e3, e6, e7, e8, hi, hz⟩
  by_cases hlt : i < xs.length
  ·obtain ⟨p, rfl, g⟩ := intsAt_at hr hlt
   repeat (first | refine Trip.seq ?_ | refine Trip.ops ?_)
   refine OpsL.lssT ?_
   repeat (first | refine Trip.seq ?_ | (refine OpsL.nil ?_; (change Trip _ _ _ _ _)))
   refine Trip.ifT ?_
   repeat (first | (refine OpsL.q (by first | exact omv | exact oasg | exact oixa | exact old) ?_) | refine Trip.seq ?_ | refine Trip.ops ?_ | refine Trip.block ?_ | (refine Trip.skip ?_; (change Trip _ _ _ _ _)) | (refine OpsL.nil ?_; (change Trip _ _ _ _ _)))
   by_cases hx : xs[i] = 0
   ·refine OpsL.neqF ?_ (c := hx)
    repeat (refine OpsL.nil ?_; (change Trip _ _ _ _ _))
    refine Trip.ifF ?_
    repeat (first | (refine OpsL.q (by first | exact omv | exact oadd) ?_) | refine Trip.ops ?_ | (refine Trip.skip ?_; ((repeat (refine blockExit_normal ?_)); change Trip _ _ _ _ _)) | (refine OpsL.nil ?_; (dsimp only)))
    refine ⟨i + 1, ⟨_, rfl, by simp [tmPut, *], by simp [tmPut, *], by simp [tmPut, *], by simp [tmPut, *], by omega, fun j hj hji => ?_⟩, by omega⟩
    by_cases e : j = i
    ·subst e; exact hx
    ·exact hz j hj (by omega)
   ·refine OpsL.neqT ?_ (c := hx)
    repeat (refine OpsL.nil ?_; (change Trip _ _ _ _ _))
    refine Trip.ifT ?_
    repeat (first | (refine OpsL.q (by first | exact omv | exact oasg) ?_) | refine Trip.seq ?_ | refine Trip.ops ?_ | (refine Trip.ret ?_; ((repeat (refine blockExit_ret ?_)); dsimp only)) | (refine OpsL.nil ?_; (change Trip _ _ _ _ _)))
    refine ⟨.inr rfl, _, res_tmp, ?_, rfl, rfl⟩
    rw [orF_take i hi hz, List.drop_eq_getElem_cons hlt]
    simp [tmPut, orF, hx]
  ·have hin : i = xs.length := by omega
   subst hin
   repeat (first | refine Trip.seq ?_ | refine Trip.ops ?_)
   refine OpsL.lssF ?_
   repeat (first | refine Trip.seq ?_ | (refine OpsL.nil ?_; (change Trip _ _ _ _ _)))
   refine Trip.ifF ?_
   repeat (first | (refine OpsL.q (by first | exact omv | exact oasg) ?_) | refine Trip.seq ?_ | refine Trip.ops ?_ | (refine Trip.exit ?_; ((repeat (refine blockExit_eq ?_)); change Trip _ _ _ _ _)) | (refine Trip.ret ?_; (dsimp only)) | (refine OpsL.nil ?_; (change Trip _ _ _ _ _)))
   refine ⟨.inr rfl, _, res_tmp, ?_, rfl, rfl⟩
   rw [orF_take xs.length (Nat.le_refl _) hz]
   simp [tmPut, orF, *]
set_option maxRecDepth 20000 in
set_option maxHeartbeats 4000000 in
theorem byOpenC (W0 : World) {nx : Nat} {H : Heap} (x y : R4) :
  ACalls Tryz.prog W0 48 [.agg (enc4 x).toArray, .agg (enc4 y).toArray] nx H fun v nx' H' => v = .int .i64 (cmp4 x y) ∧ Ext nx H nx' H' := by
 refine ACalls.by_trip (fn := Tryz.f48) (c := _) Tryz.func48 rfl (fun tm n hn0 htm => ?_)
 have e0 : tm 0 = .agg (enc4 x).toArray := htm 0
 have e1 : tm 1 = .agg (enc4 y).toArray := htm 1
 clear htm
 replace hn0 : n = 27 := hn0
 refine Trip.ok fun hok => ?_
 replace hok : ∀ id o, H id = some o → id < nx := hok
 refine Trip.seq ?_
 refine Trip.ops ?_
 refine OpsL.new (by subst_vars; decide) (aop_box (by simp only [ASt.ev, tmPut, ↓reduceIte, Nat.reduceEqDiff, *]; rfl)) ?_
 refine OpsL.new (by subst_vars; decide) (aop_box (by simp only [ASt.ev, tmPut, ↓reduceIte, Nat.reduceEqDiff, *]; rfl)) ?_
 obtain ⟨G, hG⟩ : ∃ G, G = (H.put nx (.cells (Value.agg (enc4 x).toArray).cells.toList 0 none false (some 44))).put (nx + 1) (.cells (Value.agg (enc4 y).toArray).cells.toList 0 none false (some 44)) := ⟨_, rfl⟩
 have hx0 : Ext nx H (nx + 1 + 1) G := by rw [hG]; exact Ext.newPut.trans Ext.newPut
 have hokG : ∀ id o, G id = some o → id < nx + 1 + 1 := by rw [hG]; exact ok_new (ok_new hok)
 have gx : G nx = some (.cells (enc4 x) 0 none false (some 44)) := by rw [hG, Heap.put_ne (by omega), Heap.put_eq]; rfl
 have gy : G (nx + 1) = some (.cells (enc4 y) 0 none false (some 44)) := by rw [hG, Heap.put_eq]; rfl
 rw [← hG]
 clear hG
 have cx0 : cellAt G ⟨nx, 0 + 0, none⟩ (.int .i64 x.1) := by rw [Nat.zero_add]; exact cell_of gx rfl
 have cy0 : cellAt G ⟨nx + 1, 0 + 0, none⟩ (.int .i64 y.1) := by rw [Nat.zero_add]; exact cell_of gy rfl
 have cx1 : cellAt G ⟨nx, 0 + 1, none⟩ (.int .i64 x.2.1) := by rw [Nat.zero_add]; exact cell_of gx rfl
 have cy1 : cellAt G ⟨nx + 1, 0 + 1, none⟩ (.int .i64 y.2.1) := by rw [Nat.zero_add]; exact cell_of gy rfl
 have cx2 : cellAt G ⟨nx, 0 + 2, none⟩ (.int .i64 x.2.2.1) := by rw [Nat.zero_add]; exact cell_of gx rfl
 have cy2 : cellAt G ⟨nx + 1, 0 + 2, none⟩ (.int .i64 y.2.2.1) := by rw [Nat.zero_add]; exact cell_of gy rfl
 have cx3 : cellAt G ⟨nx, 0 + 3, none⟩ (.int .i64 x.2.2.2) := by rw [Nat.zero_add]; exact cell_of gx rfl
 have cy3 : cellAt G ⟨nx + 1, 0 + 3, none⟩ (.int .i64 y.2.2.2) := by rw [Nat.zero_add]; exact cell_of gy rfl
 clear gx gy
 repeat (first | refine OpsL.q (by exact oasg) ?_ | refine Trip.seq ?_ | (refine OpsL.nil ?_; (change Trip _ _ _ _ _)))
 refine OpsR.drawn [4, 9, 14, 19, 20, 21] (K := fun nx1 H1 => Ext (nx + 1 + 1) G nx1 H1) mixedO (by kernel_rfl) (by kernel_rfl) [0, 1, 2, 3, 5, 6, 7, 8, 10, 11, 12, 13, 15, 16, 17, 18, 4, 9, 14, 19, 20, 21, 22] (by kernel_rfl) Ext.refl ?_
 refine OpsR.one rfl rfl rfl (by kernel_rfl) ?_
 repeat (first | refine OpsL.q (by exact ofa) ?_ | (refine OpsL.nil ?_; (dsimp only)))
 refine OpsR.sp (v := .int .i64 x.1) rfl (by kernel_rfl) (by subst_vars; decide) Ext.refl (fun H2 nx2 hK => aop_load (by simp only [ASt.ev, tmPut, ↓reduceIte, Nat.reduceEqDiff, *]; rfl) (by exact rfl) rfl (cell_ext hK hokG cx0)) ?_
 refine OpsR.one rfl rfl rfl (by kernel_rfl) ?_
 repeat (first | refine OpsL.q (by exact ofa) ?_ | (refine OpsL.nil ?_; (dsimp only)))
 refine OpsR.sp (v := .int .i64 y.1) rfl (by kernel_rfl) (by subst_vars; decide) Ext.refl (fun H2 nx2 hK => aop_load (by simp only [ASt.ev, tmPut, ↓reduceIte, Nat.reduceEqDiff, *]; rfl) (by exact rfl) rfl (cell_ext hK hokG cy0)) ?_
 refine OpsR.one rfl rfl rfl (by kernel_rfl) ?_
 repeat (first | refine OpsL.q (by exact ofa) ?_ | (refine OpsL.nil ?_; (dsimp only)))
 refine OpsR.sp (v := .int .i64 x.2.1) rfl (by kernel_rfl) (by subst_vars; decide) Ext.refl (fun H2 nx2 hK => aop_load (by simp only [ASt.ev, tmPut, ↓reduceIte, Nat.reduceEqDiff, *]; rfl) (by exact rfl) rfl (cell_ext hK hokG cx1)) ?_
 refine OpsR.one rfl rfl rfl (by kernel_rfl) ?_
 repeat (first | refine OpsL.q (by exact ofa) ?_ | (refine OpsL.nil ?_; (dsimp only)))
 refine OpsR.sp (v := .int .i64 y.2.1) rfl (by kernel_rfl) (by subst_vars; decide) Ext.refl (fun H2 nx2 hK => aop_load (by simp only [ASt.ev, tmPut, ↓reduceIte, Nat.reduceEqDiff, *]; rfl) (by exact rfl) rfl (cell_ext hK hokG cy1)) ?_
 refine OpsR.one rfl rfl rfl (by kernel_rfl) ?_
 repeat (first | refine OpsL.q (by exact ofa) ?_ | (refine OpsL.nil ?_; (dsimp only)))
 refine OpsR.sp (v := .int .i64 x.2.2.1) rfl (by kernel_rfl) (by subst_vars; decide) Ext.refl (fun H2 nx2 hK => aop_load (by simp only [ASt.ev, tmPut, ↓reduceIte, Nat.reduceEqDiff, *]; rfl) (by exact rfl) rfl (cell_ext hK hokG cx2)) ?_
 refine OpsR.one rfl rfl rfl (by kernel_rfl) ?_
 repeat (first | refine OpsL.q (by exact ofa) ?_ | (refine OpsL.nil ?_; (dsimp only)))
 refine OpsR.sp (v := .int .i64 y.2.2.1) rfl (by kernel_rfl) (by subst_vars; decide) Ext.refl (fun H2 nx2 hK => aop_load (by simp only [ASt.ev, tmPut, ↓reduceIte, Nat.reduceEqDiff, *]; rfl) (by exact rfl) rfl (cell_ext hK hokG cy2)) ?_
 refine OpsR.one rfl rfl rfl (by kernel_rfl) ?_
 repeat (first | refine OpsL.q (by exact ofa) ?_ | (refine OpsL.nil ?_; (dsimp only)))
 refine OpsR.sp (v := .int .i64 x.2.2.2) rfl (by kernel_rfl) (by subst_vars; decide) Ext.refl (fun H2 nx2 hK => aop_load (by simp only [ASt.ev, tmPut, ↓reduceIte, Nat.reduceEqDiff, *]; rfl) (by exact rfl) rfl (cell_ext hK hokG cx3)) ?_
 refine OpsR.one rfl rfl rfl (by kernel_rfl) ?_
 repeat (first | refine OpsL.q (by exact ofa) ?_ | (refine OpsL.nil ?_; (dsimp only)))
 refine OpsR.sp (v := .int .i64 y.2.2.2) rfl (by kernel_rfl) (by subst_vars; decide) Ext.refl (fun H2 nx2 hK => aop_load (by simp only [ASt.ev, tmPut, ↓reduceIte, Nat.reduceEqDiff, *]; rfl) (by exact rfl) rfl (cell_ext hK hokG cy3)) ?_
 refine OpsR.act (by kernel_rfl) (ActStep.call2 rfl rfl (by subst_vars; decide) (by exact rfl) (by simp only [ASt.ev, tmPut, ↓reduceIte, Nat.reduceEqDiff, *]; done) (by simp only [ASt.ev, tmPut, ↓reduceIte, Nat.reduceEqDiff, *]; done) entersCmpI (cmpIC W0 x.1 y.1) ?_)
 rintro v3 nx3 H3 ⟨rfl, rfl, hG3⟩
 have hG3' := hG3.symm
 subst hG3'
 refine ⟨Ext.refl, ?_⟩
 refine OpsR.act (by kernel_rfl) (ActStep.call2 rfl rfl (by subst_vars; decide) (by exact rfl) (by simp only [ASt.ev, tmPut, ↓reduceIte, Nat.reduceEqDiff, *]; done) (by simp only [ASt.ev, tmPut, ↓reduceIte, Nat.reduceEqDiff, *]; done) entersCmpI (cmpIC W0 x.2.1 y.2.1) ?_)
 rintro v4 nx4 H4 ⟨rfl, rfl, hG4⟩
 have hG4' := hG4.symm
 subst hG4'
 refine ⟨Ext.refl, ?_⟩
 refine OpsR.act (by kernel_rfl) (ActStep.call2 rfl rfl (by subst_vars; decide) (by exact rfl) (by simp only [ASt.ev, tmPut, ↓reduceIte, Nat.reduceEqDiff, *]; done) (by simp only [ASt.ev, tmPut, ↓reduceIte, Nat.reduceEqDiff, *]; done) entersCmpI (cmpIC W0 x.2.2.1 y.2.2.1) ?_)
 rintro v5 nx5 H5 ⟨rfl, rfl, hG5⟩
 have hG5' := hG5.symm
 subst hG5'
 refine ⟨Ext.refl, ?_⟩
 refine OpsR.act (by kernel_rfl) (ActStep.call2 rfl rfl (by subst_vars; decide) (by exact rfl) (by simp only [ASt.ev, tmPut, ↓reduceIte, Nat.reduceEqDiff, *]; done) (by simp only [ASt.ev, tmPut, ↓reduceIte, Nat.reduceEqDiff, *]; done) entersCmpI (cmpIC W0 x.2.2.2 y.2.2.2) ?_)
 rintro v6 nx6 H6 ⟨rfl, rfl, hG6⟩
 have hG6' := hG6.symm
 subst hG6'
 refine ⟨Ext.refl, ?_⟩
 refine OpsR.act (by kernel_rfl) (ActStep.walk rfl rfl ?_)
 refine OpsL.new (by subst_vars; decide) (aop_buildSlice (l := [(0, .int .i64 (Lib.compareInt x.1 y.1)), (1, .int .i64 (Lib.compareInt x.2.1 y.2.1)), (2, .int .i64 (Lib.compareInt x.2.2.1 y.2.2.1)), (3, .int .i64 (Lib.compareInt x.2.2.2 y.2.2.2))]) (r := (.slice (some ⟨nx + 1 + 1, 0, none⟩) 4 4, .new (.cells [.int .i64 (Lib.compareInt x.1 y.1), .int .i64 (Lib.compareInt x.2.1 y.2.1), .int .i64 (Lib.compareInt x.2.2.1 y.2.2.1), .int .i64 (Lib.compareInt x.2.2.2 y.2.2.2)] 1 none false (some 3)))) (by simp only [evParts, ASt.ev, tmPut, ↓reduceIte, reduceIte, Option.some.injEq, Nat.reduceEqDiff, *]) (by kernel_rfl)) ?_
 have hone : IntsAt (G.put (nx + 1 + 1) (.cells [.int .i64 (Lib.compareInt x.1 y.1), .int .i64 (Lib.compareInt x.2.1 y.2.1), .int .i64 (Lib.compareInt x.2.2.1 y.2.2.1), .int .i64 (Lib.compareInt x.2.2.2 y.2.2.2)] 1 none false (some 3))) (.slice (some ⟨nx + 1 + 1, 0, none⟩) 4 4) [Lib.compareInt x.1 y.1, Lib.compareInt x.2.1 y.2.1, Lib.compareInt x.2.2.1 y.2.2.1, Lib.compareInt x.2.2.2 y.2.2.2] := by
  have hcell : (G.put (nx + 1 + 1) (.cells [.int .i64 (Lib.compareInt x.1 y.1), .int .i64 (Lib.compareInt x.2.1 y.2.1), .int .i64 (Lib.compareInt x.2.2.1 y.2.2.1), .int .i64 (Lib.compareInt x.2.2.2 y.2.2.2)] 1 none false (some 3))) (nx + 1 + 1) = some (.cells (([Lib.compareInt x.1 y.1, Lib.compareInt x.2.1 y.2.1, Lib.compareInt x.2.2.1 y.2.2.1, Lib.compareInt x.2.2.2 y.2.2.2] : List Int).map (.int .i64 ·)) 1 none false (some 3)) := Heap.put_eq
  refine .inr ⟨⟨nx + 1 + 1, 0, none⟩, 4, rfl, fun j hj => ?_⟩
  have := cell_of hcell (k := j) (v := .int .i64 (([Lib.compareInt x.1 y.1, Lib.compareInt x.2.1 y.2.1, Lib.compareInt x.2.2.1 y.2.2.1, Lib.compareInt x.2.2.2 y.2.2.2] : List Int)[j])) (by rw [List.getElem?_map, List.getElem?_eq_getElem hj]; rfl)
  simpa using this
 have hx2 : Ext (nx + 1 + 1) G (nx + 1 + 1 + 1) (G.put (nx + 1 + 1) (.cells [.int .i64 (Lib.compareInt x.1 y.1), .int .i64 (Lib.compareInt x.2.1 y.2.1), .int .i64 (Lib.compareInt x.2.2.1 y.2.2.1), .int .i64 (Lib.compareInt x.2.2.2 y.2.2.2)] 1 none false (some 3))) := Ext.newPut
 generalize G.put (nx + 1 + 1) (.cells [.int .i64 (Lib.compareInt x.1 y.1), .int .i64 (Lib.compareInt x.2.1 y.2.1), .int .i64 (Lib.compareInt x.2.2.1 y.2.2.1), .int .i64 (Lib.compareInt x.2.2.2 y.2.2.2)] 1 none false (some 3)) = G2 at *
 refine OpsL.nil ⟨hx2, ?_⟩
 refine OpsR.act (by kernel_rfl) (ActStep.call1 rfl rfl (by subst_vars; decide) (by exact rfl) (by simp only [ASt.ev, tmPut, ↓reduceIte, Nat.reduceEqDiff, *]; done) entersOr (orC W0 hone (by simp)) ?_)
 rintro v9 nx9 H9 ⟨rfl, rfl, h9⟩
 have h9' := h9.symm
 subst h9'
 refine ⟨hx2, ?_⟩
 refine OpsR.one rfl rfl rfl (by kernel_rfl) ?_
 repeat (first | refine OpsL.q (by exact oasg) ?_ | (refine OpsL.nil ?_; (skip)))
 refine OpsR.nil ?_
 (change Trip _ _ _ _ _)
 repeat (refine Trip.ret ?_; (dsimp only))
 exact ⟨.inr rfl, _, res_tmp, by simp [tmPut, cmp4], hx0.trans hx2⟩
theorem byOpen_calls (x y : R4) (W : World) : Calls Tryz.prog 48 #[.agg (enc4 x).toArray, .agg (enc4 y).toArray] W fun e w' => e = .returned (.int .i64 (cmp4 x y)) ∧ ∃ q os', w' = grow (W.drewN q) os' :=
 lays_of_acalls (args := [.agg (enc4 x).toArray, .agg (enc4 y).toArray]) rfl rfl (fun w nx H => ACalls.weaken (byOpenC w x y) fun _ _ _ h => h.1) W
set_option maxRecDepth 20000 in
set_option maxHeartbeats 4000000 in
theorem byCloseC (W0 : World) {nx : Nat} {H : Heap} (x y : R4) :
  ACalls Tryz.prog W0 50 [.agg (enc4 x).toArray, .agg (enc4 y).toArray] nx H fun v nx' H' => v = .int .i64 (cmp4 x y) ∧ Ext nx H nx' H' := by
 refine ACalls.by_trip (fn := Tryz.f50) (c := _) Tryz.func50 rfl (fun tm n hn0 htm => ?_)
 have e0 : tm 0 = .agg (enc4 x).toArray := htm 0
 have e1 : tm 1 = .agg (enc4 y).toArray := htm 1
 clear htm
 replace hn0 : n = 27 := hn0
 refine Trip.ok fun hok => ?_
 replace hok : ∀ id o, H id = some o → id < nx := hok
 refine Trip.seq ?_
 refine Trip.ops ?_
 refine OpsL.new (by subst_vars; decide) (aop_box (by simp only [ASt.ev, tmPut, ↓reduceIte, Nat.reduceEqDiff, *]; rfl)) ?_
 refine OpsL.new (by subst_vars; decide) (aop_box (by simp only [ASt.ev, tmPut, ↓reduceIte, Nat.reduceEqDiff, *]; rfl)) ?_
 obtain ⟨G, hG⟩ : ∃ G, G = (H.put nx (.cells (Value.agg (enc4 x).toArray).cells.toList 0 none false (some 46))).put (nx + 1) (.cells (Value.agg (enc4 y).toArray).cells.toList 0 none false (some 46)) := ⟨_, rfl⟩
 have hx0 : Ext nx H (nx + 1 + 1) G := by rw [hG]; exact Ext.newPut.trans Ext.newPut
 have hokG : ∀ id o, G id = some o → id < nx + 1 + 1 := by rw [hG]; exact ok_new (ok_new hok)
 have gx : G nx = some (.cells (enc4 x) 0 none false (some 46)) := by rw [hG, Heap.put_ne (by omega), Heap.put_eq]; rfl
 have gy : G (nx + 1) = some (.cells (enc4 y) 0 none false (some 46)) := by rw [hG, Heap.put_eq]; rfl
 rw [← hG]
 clear hG
 have cx0 : cellAt G ⟨nx, 0 + 0, none⟩ (.int .i64 x.1) := by rw [Nat.zero_add]; exact cell_of gx rfl
 have cy0 : cellAt G ⟨nx + 1, 0 + 0, none⟩ (.int .i64 y.1) := by rw [Nat.zero_add]; exact cell_of gy rfl
 have cx1 : cellAt G ⟨nx, 0 + 1, none⟩ (.int .i64 x.2.1) := by rw [Nat.zero_add]; exact cell_of gx rfl
 have cy1 : cellAt G ⟨nx + 1, 0 + 1, none⟩ (.int .i64 y.2.1) := by rw [Nat.zero_add]; exact cell_of gy rfl
 have cx2 : cellAt G ⟨nx, 0 + 2, none⟩ (.int .i64 x.2.2.1) := by rw [Nat.zero_add]; exact cell_of gx rfl
 have cy2 : cellAt G ⟨nx + 1, 0 + 2, none⟩ (.int .i64 y.2.2.1) := by rw [Nat.zero_add]; exact cell_of gy rfl
 have cx3 : cellAt G ⟨nx, 0 + 3, none⟩ (.int .i64 x.2.2.2) := by rw [Nat.zero_add]; exact cell_of gx rfl
 have cy3 : cellAt G ⟨nx + 1, 0 + 3, none⟩ (.int .i64 y.2.2.2) := by rw [Nat.zero_add]; exact cell_of gy rfl
 clear gx gy
 repeat (first | refine OpsL.q (by exact oasg) ?_ | refine Trip.seq ?_ | (refine OpsL.nil ?_; (change Trip _ _ _ _ _)))
 refine OpsR.drawn [4, 9, 14, 19, 20, 21] (K := fun nx1 H1 => Ext (nx + 1 + 1) G nx1 H1) mixedO (by kernel_rfl) (by kernel_rfl) [0, 1, 2, 3, 5, 6, 7, 8, 10, 11, 12, 13, 15, 16, 17, 18, 4, 9, 14, 19, 20, 21, 22] (by kernel_rfl) Ext.refl ?_
 refine OpsR.one rfl rfl rfl (by kernel_rfl) ?_
 repeat (first | refine OpsL.q (by exact ofa) ?_ | (refine OpsL.nil ?_; (dsimp only)))
 refine OpsR.sp (v := .int .i64 x.1) rfl (by kernel_rfl) (by subst_vars; decide) Ext.refl (fun H2 nx2 hK => aop_load (by simp only [ASt.ev, tmPut, ↓reduceIte, Nat.reduceEqDiff, *]; rfl) (by exact rfl) rfl (cell_ext hK hokG cx0)) ?_
 refine OpsR.one rfl rfl rfl (by kernel_rfl) ?_
 repeat (first | refine OpsL.q (by exact ofa) ?_ | (refine OpsL.nil ?_; (dsimp only)))
 refine OpsR.sp (v := .int .i64 y.1) rfl (by kernel_rfl) (by subst_vars; decide) Ext.refl (fun H2 nx2 hK => aop_load (by simp only [ASt.ev, tmPut, ↓reduceIte, Nat.reduceEqDiff, *]; rfl) (by exact rfl) rfl (cell_ext hK hokG cy0)) ?_
 refine OpsR.one rfl rfl rfl (by kernel_rfl) ?_
 repeat (first | refine OpsL.q (by exact ofa) ?_ | (refine OpsL.nil ?_; (dsimp only)))
 refine OpsR.sp (v := .int .i64 x.2.1) rfl (by kernel_rfl) (by subst_vars; decide) Ext.refl (fun H2 nx2 hK => aop_load (by simp only [ASt.ev, tmPut, ↓reduceIte, Nat.reduceEqDiff, *]; rfl) (by exact rfl) rfl (cell_ext hK hokG cx1)) ?_
 refine OpsR.one rfl rfl rfl (by kernel_rfl) ?_
 repeat (first | refine OpsL.q (by exact ofa) ?_ | (refine OpsL.nil ?_; (dsimp only)))
 refine OpsR.sp (v := .int .i64 y.2.1) rfl (by kernel_rfl) (by subst_vars; decide) Ext.refl (fun H2 nx2 hK => aop_load (by simp only [ASt.ev, tmPut, ↓reduceIte, Nat.reduceEqDiff, *]; rfl) (by exact rfl) rfl (cell_ext hK hokG cy1)) ?_
 refine OpsR.one rfl rfl rfl (by kernel_rfl) ?_
 repeat (first | refine OpsL.q (by exact ofa) ?_ | (refine OpsL.nil ?_; (dsimp only)))
 refine OpsR.sp (v := .int .i64 x.2.2.1) rfl (by kernel_rfl) (by subst_vars; decide) Ext.refl (fun H2 nx2 hK => aop_load (by simp only [ASt.ev, tmPut, ↓reduceIte, Nat.reduceEqDiff, *]; rfl) (by exact rfl) rfl (cell_ext hK hokG cx2)) ?_
 refine OpsR.one rfl rfl rfl (by kernel_rfl) ?_
 repeat (first | refine OpsL.q (by exact ofa) ?_ | (refine OpsL.nil ?_; (dsimp only)))
 refine OpsR.sp (v := .int .i64 y.2.2.1) rfl (by kernel_rfl) (by subst_vars; decide) Ext.refl (fun H2 nx2 hK => aop_load (by simp only [ASt.ev, tmPut, ↓reduceIte, Nat.reduceEqDiff, *]; rfl) (by exact rfl) rfl (cell_ext hK hokG cy2)) ?_
 refine OpsR.one rfl rfl rfl (by kernel_rfl) ?_
 repeat (first | refine OpsL.q (by exact ofa) ?_ | (refine OpsL.nil ?_; (dsimp only)))
 refine OpsR.sp (v := .int .i64 x.2.2.2) rfl (by kernel_rfl) (by subst_vars; decide) Ext.refl (fun H2 nx2 hK => aop_load (by simp only [ASt.ev, tmPut, ↓reduceIte, Nat.reduceEqDiff, *]; rfl) (by exact rfl) rfl (cell_ext hK hokG cx3)) ?_
 refine OpsR.one rfl rfl rfl (by kernel_rfl) ?_
 repeat (first | refine OpsL.q (by exact ofa) ?_ | (refine OpsL.nil ?_; (dsimp only)))
 refine OpsR.sp (v := .int .i64 y.2.2.2) rfl (by kernel_rfl) (by subst_vars; decide) Ext.refl (fun H2 nx2 hK => aop_load (by simp only [ASt.ev, tmPut, ↓reduceIte, Nat.reduceEqDiff, *]; rfl) (by exact rfl) rfl (cell_ext hK hokG cy3)) ?_
 refine OpsR.act (by kernel_rfl) (ActStep.call2 rfl rfl (by subst_vars; decide) (by exact rfl) (by simp only [ASt.ev, tmPut, ↓reduceIte, Nat.reduceEqDiff, *]; done) (by simp only [ASt.ev, tmPut, ↓reduceIte, Nat.reduceEqDiff, *]; done) entersCmpI (cmpIC W0 x.1 y.1) ?_)
 rintro v3 nx3 H3 ⟨rfl, rfl, hG3⟩
 have hG3' := hG3.symm
 subst hG3'
 refine ⟨Ext.refl, ?_⟩
 refine OpsR.act (by kernel_rfl) (ActStep.call2 rfl rfl (by subst_vars; decide) (by exact rfl) (by simp only [ASt.ev, tmPut, ↓reduceIte, Nat.reduceEqDiff, *]; done) (by simp only [ASt.ev, tmPut, ↓reduceIte, Nat.reduceEqDiff, *]; done) entersCmpI (cmpIC W0 x.2.1 y.2.1) ?_)
 rintro v4 nx4 H4 ⟨rfl, rfl, hG4⟩
 have hG4' := hG4.symm
 subst hG4'
 refine ⟨Ext.refl, ?_⟩
 refine OpsR.act (by kernel_rfl) (ActStep.call2 rfl rfl (by subst_vars; decide) (by exact rfl) (by simp only [ASt.ev, tmPut, ↓reduceIte, Nat.reduceEqDiff, *]; done) (by simp only [ASt.ev, tmPut, ↓reduceIte, Nat.reduceEqDiff, *]; done) entersCmpI (cmpIC W0 x.2.2.1 y.2.2.1) ?_)
 rintro v5 nx5 H5 ⟨rfl, rfl, hG5⟩
 have hG5' := hG5.symm
 subst hG5'
 refine ⟨Ext.refl, ?_⟩
 refine OpsR.act (by kernel_rfl) (ActStep.call2 rfl rfl (by subst_vars; decide) (by exact rfl) (by simp only [ASt.ev, tmPut, ↓reduceIte, Nat.reduceEqDiff, *]; done) (by simp only [ASt.ev, tmPut, ↓reduceIte, Nat.reduceEqDiff, *]; done) entersCmpI (cmpIC W0 x.2.2.2 y.2.2.2) ?_)
 rintro v6 nx6 H6 ⟨rfl, rfl, hG6⟩
 have hG6' := hG6.symm
 subst hG6'
 refine ⟨Ext.refl, ?_⟩
 refine OpsR.act (by kernel_rfl) (ActStep.walk rfl rfl ?_)
 refine OpsL.new (by subst_vars; decide) (aop_buildSlice (l := [(0, .int .i64 (Lib.compareInt x.1 y.1)), (1, .int .i64 (Lib.compareInt x.2.1 y.2.1)), (2, .int .i64 (Lib.compareInt x.2.2.1 y.2.2.1)), (3, .int .i64 (Lib.compareInt x.2.2.2 y.2.2.2))]) (r := (.slice (some ⟨nx + 1 + 1, 0, none⟩) 4 4, .new (.cells [.int .i64 (Lib.compareInt x.1 y.1), .int .i64 (Lib.compareInt x.2.1 y.2.1), .int .i64 (Lib.compareInt x.2.2.1 y.2.2.1), .int .i64 (Lib.compareInt x.2.2.2 y.2.2.2)] 1 none false (some 3)))) (by simp only [evParts, ASt.ev, tmPut, ↓reduceIte, reduceIte, Option.some.injEq, Nat.reduceEqDiff, *]) (by kernel_rfl)) ?_
 have hone : IntsAt (G.put (nx + 1 + 1) (.cells [.int .i64 (Lib.compareInt x.1 y.1), .int .i64 (Lib.compareInt x.2.1 y.2.1), .int .i64 (Lib.compareInt x.2.2.1 y.2.2.1), .int .i64 (Lib.compareInt x.2.2.2 y.2.2.2)] 1 none false (some 3))) (.slice (some ⟨nx + 1 + 1, 0, none⟩) 4 4) [Lib.compareInt x.1 y.1, Lib.compareInt x.2.1 y.2.1, Lib.compareInt x.2.2.1 y.2.2.1, Lib.compareInt x.2.2.2 y.2.2.2] := by
  have hcell : (G.put (nx + 1 + 1) (.cells [.int .i64 (Lib.compareInt x.1 y.1), .int .i64 (Lib.compareInt x.2.1 y.2.1), .int .i64 (Lib.compareInt x.2.2.1 y.2.2.1), .int .i64 (Lib.compareInt x.2.2.2 y.2.2.2)] 1 none false (some 3))) (nx + 1 + 1) = some (.cells (([Lib.compareInt x.1 y.1, Lib.compareInt x.2.1 y.2.1, Lib.compareInt x.2.2.1 y.2.2.1, Lib.compareInt x.2.2.2 y.2.2.2] : List Int).map (.int .i64 ·)) 1 none false (some 3)) := Heap.put_eq
  refine .inr ⟨⟨nx + 1 + 1, 0, none⟩, 4, rfl, fun j hj => ?_⟩
  have := cell_of hcell (k := j) (v := .int .i64 (([Lib.compareInt x.1 y.1, Lib.compareInt x.2.1 y.2.1, Lib.compareInt x.2.2.1 y.2.2.1, Lib.compareInt x.2.2.2 y.2.2.2] : List Int)[j])) (by rw [List.getElem?_map, List.getElem?_eq_getElem hj]; rfl)
  simpa using this
 have hx2 : Ext (nx + 1 + 1) G (nx + 1 + 1 + 1) (G.put (nx + 1 + 1) (.cells [.int .i64 (Lib.compareInt x.1 y.1), .int .i64 (Lib.compareInt x.2.1 y.2.1), .int .i64 (Lib.compareInt x.2.2.1 y.2.2.1), .int .i64 (Lib.compareInt x.2.2.2 y.2.2.2)] 1 none false (some 3))) := Ext.newPut
 generalize G.put (nx + 1 + 1) (.cells [.int .i64 (Lib.compareInt x.1 y.1), .int .i64 (Lib.compareInt x.2.1 y.2.1), .int .i64 (Lib.compareInt x.2.2.1 y.2.2.1), .int .i64 (Lib.compareInt x.2.2.2 y.2.2.2)] 1 none false (some 3)) = G2 at *
 refine OpsL.nil ⟨hx2, ?_⟩
 refine OpsR.act (by kernel_rfl) (ActStep.call1 rfl rfl (by subst_vars; decide) (by exact rfl) (by simp only [ASt.ev, tmPut, ↓reduceIte, Nat.reduceEqDiff, *]; done) entersOr (orC W0 hone (by simp)) ?_)
 rintro v9 nx9 H9 ⟨rfl, rfl, h9⟩
 have h9' := h9.symm
 subst h9'
 refine ⟨hx2, ?_⟩
 refine OpsR.one rfl rfl rfl (by kernel_rfl) ?_
 repeat (first | refine OpsL.q (by exact oasg) ?_ | (refine OpsL.nil ?_; (skip)))
 refine OpsR.nil ?_
 (change Trip _ _ _ _ _)
 repeat (refine Trip.ret ?_; (dsimp only))
 exact ⟨.inr rfl, _, res_tmp, by simp [tmPut, cmp4], hx0.trans hx2⟩
theorem byClose_calls (x y : R4) (W : World) : Calls Tryz.prog 50 #[.agg (enc4 x).toArray, .agg (enc4 y).toArray] W fun e w' => e = .returned (.int .i64 (cmp4 x y)) ∧ ∃ q os', w' = grow (W.drewN q) os' :=
 lays_of_acalls (args := [.agg (enc4 x).toArray, .agg (enc4 y).toArray]) rfl rfl (fun w nx H => ACalls.weaken (byCloseC w x y) fun _ _ _ h => h.1) W
set_option maxRecDepth 20000 in
set_option maxHeartbeats 4000000 in
theorem byInnerC (W0 : World) {nx : Nat} {H : Heap} (x y : R3) :
  ACalls Tryz.prog W0 52 [.agg (enc3 x).toArray, .agg (enc3 y).toArray] nx H fun v nx' H' => v = .int .i64 (cmp3 x y) ∧ Ext nx H nx' H' := by
 refine ACalls.by_trip (fn := Tryz.f52) (c := _) Tryz.func52 rfl (fun tm n hn0 htm => ?_)
 have e0 : tm 0 = .agg (enc3 x).toArray := htm 0
 have e1 : tm 1 = .agg (enc3 y).toArray := htm 1
 clear htm
 replace hn0 : n = 22 := hn0
 refine Trip.ok fun hok => ?_
 replace hok : ∀ id o, H id = some o → id < nx := hok
 refine Trip.seq ?_
 refine Trip.ops ?_
 refine OpsL.new (by subst_vars; decide) (aop_box (by simp only [ASt.ev, tmPut, ↓reduceIte, Nat.reduceEqDiff, *]; rfl)) ?_
 refine OpsL.new (by subst_vars; decide) (aop_box (by simp only [ASt.ev, tmPut, ↓reduceIte, Nat.reduceEqDiff, *]; rfl)) ?_
 obtain ⟨G, hG⟩ : ∃ G, G = (H.put nx (.cells (Value.agg (enc3 x).toArray).cells.toList 0 none false (some 48))).put (nx + 1) (.cells (Value.agg (enc3 y).toArray).cells.toList 0 none false (some 48)) := ⟨_, rfl⟩
 have hx0 : Ext nx H (nx + 1 + 1) G := by rw [hG]; exact Ext.newPut.trans Ext.newPut
 have hokG : ∀ id o, G id = some o → id < nx + 1 + 1 := by rw [hG]; exact ok_new (ok_new hok)
 have gx : G nx = some (.cells (enc3 x) 0 none false (some 48)) := by rw [hG, Heap.put_ne (by omega), Heap.put_eq]; rfl
 have gy : G (nx + 1) = some (.cells (enc3 y) 0 none false (some 48)) := by rw [hG, Heap.put_eq]; rfl
 rw [← hG]
 clear hG
 have cx0 : cellAt G ⟨nx, 0 + 0, none⟩ (.int .i64 x.1) := by rw [Nat.zero_add]; exact cell_of gx rfl
 have cy0 : cellAt G ⟨nx + 1, 0 + 0, none⟩ (.int .i64 y.1) := by rw [Nat.zero_add]; exact cell_of gy rfl
 have cx1 : cellAt G ⟨nx, 0 + 1, none⟩ (.int .i64 x.2.1) := by rw [Nat.zero_add]; exact cell_of gx rfl
 have cy1 : cellAt G ⟨nx + 1, 0 + 1, none⟩ (.int .i64 y.2.1) := by rw [Nat.zero_add]; exact cell_of gy rfl
 have cx2 : cellAt G ⟨nx, 0 + 2, none⟩ (.int .i64 x.2.2) := by rw [Nat.zero_add]; exact cell_of gx rfl
 have cy2 : cellAt G ⟨nx + 1, 0 + 2, none⟩ (.int .i64 y.2.2) := by rw [Nat.zero_add]; exact cell_of gy rfl
 clear gx gy
 repeat (first | refine OpsL.q (by exact oasg) ?_ | refine Trip.seq ?_ | (refine OpsL.nil ?_; (change Trip _ _ _ _ _)))
 refine OpsR.drawn [4, 9, 14, 15, 16] (K := fun nx1 H1 => Ext (nx + 1 + 1) G nx1 H1) mixedO (by kernel_rfl) (by kernel_rfl) [0, 1, 2, 3, 5, 6, 7, 8, 10, 11, 12, 13, 4, 9, 14, 15, 16, 17] (by kernel_rfl) Ext.refl ?_
 refine OpsR.one rfl rfl rfl (by kernel_rfl) ?_
 repeat (first | refine OpsL.q (by exact ofa) ?_ | (refine OpsL.nil ?_; (dsimp only)))
 refine OpsR.sp (v := .int .i64 x.1) rfl (by kernel_rfl) (by subst_vars; decide) Ext.refl (fun H2 nx2 hK => aop_load (by simp only [ASt.ev, tmPut, ↓reduceIte, Nat.reduceEqDiff, *]; rfl) (by exact rfl) rfl (cell_ext hK hokG cx0)) ?_
 refine OpsR.one rfl rfl rfl (by kernel_rfl) ?_
 repeat (first | refine OpsL.q (by exact ofa) ?_ | (refine OpsL.nil ?_; (dsimp only)))
 refine OpsR.sp (v := .int .i64 y.1) rfl (by kernel_rfl) (by subst_vars; decide) Ext.refl (fun H2 nx2 hK => aop_load (by simp only [ASt.ev, tmPut, ↓reduceIte, Nat.reduceEqDiff, *]; rfl) (by exact rfl) rfl (cell_ext hK hokG cy0)) ?_
 refine OpsR.one rfl rfl rfl (by kernel_rfl) ?_
 repeat (first | refine OpsL.q (by exact ofa) ?_ | (refine OpsL.nil ?_; (dsimp only)))
 refine OpsR.sp (v := .int .i64 x.2.1) rfl (by kernel_rfl) (by subst_vars; decide) Ext.refl (fun H2 nx2 hK => aop_load (by simp only [ASt.ev, tmPut, ↓reduceIte, Nat.reduceEqDiff, *]; rfl) (by exact rfl) rfl (cell_ext hK hokG cx1)) ?_
 refine OpsR.one rfl rfl rfl (by kernel_rfl) ?_
 repeat (first | refine OpsL.q (by exact ofa) ?_ | (refine OpsL.nil ?_; (dsimp only)))
 refine OpsR.sp (v := .int .i64 y.2.1) rfl (by kernel_rfl) (by subst_vars; decide) Ext.refl (fun H2 nx2 hK => aop_load (by simp only [ASt.ev, tmPut, ↓reduceIte, Nat.reduceEqDiff, *]; rfl) (by exact rfl) rfl (cell_ext hK hokG cy1)) ?_
 refine OpsR.one rfl rfl rfl (by kernel_rfl) ?_
 repeat (first | refine OpsL.q (by exact ofa) ?_ | (refine OpsL.nil ?_; (dsimp only)))
 refine OpsR.sp (v := .int .i64 x.2.2) rfl (by kernel_rfl) (by subst_vars; decide) Ext.refl (fun H2 nx2 hK => aop_load (by simp only [ASt.ev, tmPut, ↓reduceIte, Nat.reduceEqDiff, *]; rfl) (by exact rfl) rfl (cell_ext hK hokG cx2)) ?_
 refine OpsR.one rfl rfl rfl (by kernel_rfl) ?_
 repeat (first | refine OpsL.q (by exact ofa) ?_ | (refine OpsL.nil ?_; (dsimp only)))
 refine OpsR.sp (v := .int .i64 y.2.2) rfl (by kernel_rfl) (by subst_vars; decide) Ext.refl (fun H2 nx2 hK => aop_load (by simp only [ASt.ev, tmPut, ↓reduceIte, Nat.reduceEqDiff, *]; rfl) (by exact rfl) rfl (cell_ext hK hokG cy2)) ?_
 refine OpsR.act (by kernel_rfl) (ActStep.call2 rfl rfl (by subst_vars; decide) (by exact rfl) (by simp only [ASt.ev, tmPut, ↓reduceIte, Nat.reduceEqDiff, *]; done) (by simp only [ASt.ev, tmPut, ↓reduceIte, Nat.reduceEqDiff, *]; done) entersCmpI (cmpIC W0 x.1 y.1) ?_)
 rintro v3 nx3 H3 ⟨rfl, rfl, hG3⟩
 have hG3' := hG3.symm
 subst hG3'
 refine ⟨Ext.refl, ?_⟩
 refine OpsR.act (by kernel_rfl) (ActStep.call2 rfl rfl (by subst_vars; decide) (by exact rfl) (by simp only [ASt.ev, tmPut, ↓reduceIte, Nat.reduceEqDiff, *]; done) (by simp only [ASt.ev, tmPut, ↓reduceIte, Nat.reduceEqDiff, *]; done) entersCmpI (cmpIC W0 x.2.1 y.2.1) ?_)
 rintro v4 nx4 H4 ⟨rfl, rfl, hG4⟩
 have hG4' := hG4.symm
 subst hG4'
 refine ⟨Ext.refl, ?_⟩
 refine OpsR.act (by kernel_rfl) (ActStep.call2 rfl rfl (by subst_vars; decide) (by exact rfl) (by simp only [ASt.ev, tmPut, ↓reduceIte, Nat.reduceEqDiff, *]; done) (by simp only [ASt.ev, tmPut, ↓reduceIte, Nat.reduceEqDiff, *]; done) entersCmpI (cmpIC W0 x.2.2 y.2.2) ?_)
 rintro v5 nx5 H5 ⟨rfl, rfl, hG5⟩
 have hG5' := hG5.symm
 subst hG5'
 refine ⟨Ext.refl, ?_⟩
 refine OpsR.act (by kernel_rfl) (ActStep.walk rfl rfl ?_)
 refine OpsL.new (by subst_vars; decide) (aop_buildSlice (l := [(0, .int .i64 (Lib.compareInt x.1 y.1)), (1, .int .i64 (Lib.compareInt x.2.1 y.2.1)), (2, .int .i64 (Lib.compareInt x.2.2 y.2.2))]) (r := (.slice (some ⟨nx + 1 + 1, 0, none⟩) 3 3, .new (.cells [.int .i64 (Lib.compareInt x.1 y.1), .int .i64 (Lib.compareInt x.2.1 y.2.1), .int .i64 (Lib.compareInt x.2.2 y.2.2)] 1 none false (some 3)))) (by simp only [evParts, ASt.ev, tmPut, ↓reduceIte, reduceIte, Option.some.injEq, Nat.reduceEqDiff, *]) (by kernel_rfl)) ?_
 have hone : IntsAt (G.put (nx + 1 + 1) (.cells [.int .i64 (Lib.compareInt x.1 y.1), .int .i64 (Lib.compareInt x.2.1 y.2.1), .int .i64 (Lib.compareInt x.2.2 y.2.2)] 1 none false (some 3))) (.slice (some ⟨nx + 1 + 1, 0, none⟩) 3 3) [Lib.compareInt x.1 y.1, Lib.compareInt x.2.1 y.2.1, Lib.compareInt x.2.2 y.2.2] := by
  have hcell : (G.put (nx + 1 + 1) (.cells [.int .i64 (Lib.compareInt x.1 y.1), .int .i64 (Lib.compareInt x.2.1 y.2.1), .int .i64 (Lib.compareInt x.2.2 y.2.2)] 1 none false (some 3))) (nx + 1 + 1) = some (.cells (([Lib.compareInt x.1 y.1, Lib.compareInt x.2.1 y.2.1, Lib.compareInt x.2.2 y.2.2] : List Int).map (.int .i64 ·)) 1 none false (some 3)) := Heap.put_eq
  refine .inr ⟨⟨nx + 1 + 1, 0, none⟩, 3, rfl, fun j hj => ?_⟩
  have := cell_of hcell (k := j) (v := .int .i64 (([Lib.compareInt x.1 y.1, Lib.compareInt x.2.1 y.2.1, Lib.compareInt x.2.2 y.2.2] : List Int)[j])) (by rw [List.getElem?_map, List.getElem?_eq_getElem hj]; rfl)
  simpa using this
 have hx2 : Ext (nx + 1 + 1) G (nx + 1 + 1 + 1) (G.put (nx + 1 + 1) (.cells [.int .i64 (Lib.compareInt x.1 y.1), .int .i64 (Lib.compareInt x.2.1 y.2.1), .int .i64 (Lib.compareInt x.2.2 y.2.2)] 1 none false (some 3))) := Ext.newPut
 generalize G.put (nx + 1 + 1) (.cells [.int .i64 (Lib.compareInt x.1 y.1), .int .i64 (Lib.compareInt x.2.1 y.2.1), .int .i64 (Lib.compareInt x.2.2 y.2.2)] 1 none false (some 3)) = G2 at *
 refine OpsL.nil ⟨hx2, ?_⟩
 refine OpsR.act (by kernel_rfl) (ActStep.call1 rfl rfl (by subst_vars; decide) (by exact rfl) (by simp only [ASt.ev, tmPut, ↓reduceIte, Nat.reduceEqDiff, *]; done) entersOr (orC W0 hone (by simp)) ?_)
 rintro v9 nx9 H9 ⟨rfl, rfl, h9⟩
 have h9' := h9.symm
 subst h9'
 refine ⟨hx2, ?_⟩
 refine OpsR.one rfl rfl rfl (by kernel_rfl) ?_
 repeat (first | refine OpsL.q (by exact oasg) ?_ | (refine OpsL.nil ?_; (skip)))
 refine OpsR.nil ?_
 (change Trip _ _ _ _ _)
 repeat (refine Trip.ret ?_; (dsimp only))
 exact ⟨.inr rfl, _, res_tmp, by simp [tmPut, cmp3], hx0.trans hx2⟩
theorem byInner_calls (x y : R3) (W : World) : Calls Tryz.prog 52 #[.agg (enc3 x).toArray, .agg (enc3 y).toArray] W fun e w' => e = .returned (.int .i64 (cmp3 x y)) ∧ ∃ q os', w' = grow (W.drewN q) os' :=
 lays_of_acalls (args := [.agg (enc3 x).toArray, .agg (enc3 y).toArray]) rfl rfl (fun w nx H => ACalls.weaken (byInnerC w x y) fun _ _ _ h => h.1) W
end Go.Proofs.YtjohiaoepbnicaaGreat
namespace Go.Am
set_option linter.unusedSimpArgs false
set_option linter.unusedVariables false
open Go.RowKit Go.Proofs
open Go.Sort hiding Below
section
variable {P : Program} {W0 : World} {C : Corr} {nx : Nat} {H : Heap} {w : World}
def IntV (v : Value) : Prop := ∃ k n, v = .int k n
theorem IntV.refl {v : Value} (h : IntV v) : VR nx H C v v := by obtain ⟨k, n, rfl⟩ := h; exact .int k n
theorem IntV.eq {v v' : Value} (h : IntV v) (hv : VR nx H C v v') : v' = v := by obtain ⟨k, n, rfl⟩ := h; cases hv; rfl
theorem row_holds (hR : Rel W0 C nx H w) {b e : Nat} {t : Option Nat} {q : Option TypeId} {cs rest : List Value} (ho : H b = some (.cells (cs ++ rest) e t false q)) (hi : ∀ v ∈ cs, IntV v) : Holds id w (C.loc b).1 (C.loc b).2 cs.toArray := by
 obtain ⟨Cc, el, fr, h1, h2, h3, h4, h5⟩ := hR.obj _ _ ho
 intro j hj
 have hj' : j < cs.length := by simpa using hj
 have hlt : (C.loc b).2 + j < Cc.size := by simp at h3; omega
 have hv := h4 j (by simp; omega) hlt
 rw [List.getElem_append_left hj'] at hv
 have he := (hi _ (List.getElem_mem hj')).eq hv
 constructor
 ·simp only [World.cell?, h1]
  rw [Array.getElem?_eq_getElem hlt, he]
  simp [hj']
 ·have := h5.1 rfl ((C.loc b).2 + j) hlt
  simp only [World.frozen?, h1]
  simp only [Bool.and_eq_false_iff, decide_eq_false_iff_not]
  omega
theorem put_loc (C : Corr) (b : Nat) : C.put b (C.loc b) (C.siz b) = C := by
 unfold Corr.put
 cases C with
 | mk l s => congr 1 <;> (funext i; simp; intro h; rw [h])
theorem row_put (hR : Rel W0 C nx H w) {b e : Nat} {t : Option Nat} {q : Option TypeId} {cs cs' rest : List Value} (ho : H b = some (.cells (cs ++ rest) e t false q)) (hl : cs'.length = cs.length) (hi : ∀ v ∈ cs', IntV v) (m : Nat) (os : Array Obj) :
  Rel W0 C nx (H.put b (.cells (cs' ++ rest) e t false q)) (grow (putRow id (Sort.ahead w m) (C.loc b).1 (C.loc b).2 cs'.toArray) os) ∧ Stp nx H C nx (H.put b (.cells (cs' ++ rest) e t false q)) C := by
 obtain ⟨Cc, el, fr, h1, h2, h3, h4, h5⟩ := hR.obj _ _ ho
 have hblk := (hR.obj _ _ ho).blk
 have hown := hR.own _ _ ho rfl
 have hsz : (putRow id (Sort.ahead w m) (C.loc b).1 (C.loc b).2 cs'.toArray).heap.size = w.heap.size := by simp [putRow, mapBlock, Sort.ahead]
 have hold : ∀ k, k < w.heap.size → (grow (putRow id (Sort.ahead w m) (C.loc b).1 (C.loc b).2 cs'.toArray) os).heap[k]? = (w.heap.modify (C.loc b).1 (onCells (putCells id (C.loc b).2 cs'.toArray)))[k]? := fun k hk => by
  rw [heap_grow_old _ _ (by rw [hsz]; exact hk)]
  rfl
 have hother : ∀ k, k < w.heap.size → k ≠ (C.loc b).1 → (grow (putRow id (Sort.ahead w m) (C.loc b).1 (C.loc b).2 cs'.toArray) os).heap[k]? = w.heap[k]? := fun k hk hne => by
  rw [hold k hk, Array.getElem?_modify]
  simp [Ne.symm hne]
 have hthis : (grow (putRow id (Sort.ahead w m) (C.loc b).1 (C.loc b).2 cs'.toArray) os).heap[(C.loc b).1]? = some (.cells (putCells id (C.loc b).2 cs'.toArray Cc) el fr) := by
  rw [hold _ hblk, Array.getElem?_modify]
  simp [h1, onCells]
 have hbel : BelD W0.heap.size W0 (grow (putRow id (Sort.ahead w m) (C.loc b).1 (C.loc b).2 cs'.toArray) os) := hR.below.trans ⟨rfl, rfl, rfl, by simp [grow, putRow, mapBlock, Sort.ahead], fun k hk => hother k (by have := hR.below.size; omega) (by omega), by simp [grow, putRow, mapBlock, Sort.ahead]⟩
 have key := hR.set (w' := grow (putRow id (Sort.ahead w m) (C.loc b).1 (C.loc b).2 cs'.toArray) os) b _ (.cells (cs' ++ rest) e t false q) (C.loc b) (C.siz b) ho rfl (Nat.le_refl _) (.inl ⟨rfl, rfl, rfl, rfl⟩) (.inl rfl) (fun _ => rfl) hbel hother ?_
 ·rw [put_loc] at key
  exact key
 ·rintro C' rfl hst
  rw [put_loc] at hst ⊢
  have hsz2 : (putCells id (C.loc b).2 cs'.toArray Cc).size = Cc.size := by simp [putCells]
  refine ⟨_, el, fr, hthis, by rw [hsz2, h2], ?_, ?_, ⟨fun _ => (by rw [hsz2]; exact h5.1 rfl), h5.2.1, fun _ ht => (by
   obtain ⟨q1, q2⟩ := h5.2.2.1 rfl ht
   refine ⟨q1, ?_⟩
   rw [hsz2, q2]; simp; omega), h5.2.2.2⟩⟩
  ·rw [hsz2]; simp at h3 ⊢; omega
  ·intro i hi1 hi2
   have hi3 : (C.loc b).2 + i < Cc.size := by rw [hsz2] at hi2; exact hi2
   have hget : (putCells id (C.loc b).2 cs'.toArray Cc)[(C.loc b).2 + i] = if i < cs'.length then cs'.toArray[i]! else Cc[(C.loc b).2 + i] := by
    simp only [putCells, Array.getElem_mapIdx, id]
    by_cases hc : i < cs'.length
    ·rw [if_pos (by simp; omega), if_pos hc]; congr 1; omega
    ·rw [if_neg (by simp; omega), if_neg hc]
   rw [hget]
   by_cases hc : i < cs'.length
   ·rw [if_pos hc, List.getElem_append_left hc]
    have e1 : cs'.toArray[i]! = cs'[i] := by simp [hc]
    rw [e1]
    exact (hi _ (List.getElem_mem hc)).refl
   ·rw [if_neg hc, List.getElem_append_right (by omega)]
    have := (h4 i (by simp at hi1 ⊢; omega) hi3).mono hst
    rw [List.getElem_append_right (by omega)] at this
    have e2 : rest[i - cs'.length]'(by simp at hi1; omega) = rest[i - cs.length]'(by simp at hi1; omega) := by congr 1; omega
    rw [e2]
    exact this
theorem flatK_list {α : Type} [Inhabited α] (enc : α → List Value) (k : Nat) (hk : ∀ x, (enc x).length = k) (l : List α) : (flatK enc k l.toArray).toList = l.flatMap enc := by
 apply List.ext_getElem?
 intro i
 have hlen : (l.flatMap enc).length = l.length * k := by
  induction l with
  | nil => simp
  | cons x l ih => simp only [List.flatMap_cons, List.length_append, hk, ih, List.length_cons, Nat.add_mul]; omega
 by_cases hi : i < l.length * k
 ·have hk0 : 0 < k := by
   rcases Nat.eq_zero_or_pos k with h | h
   ·subst h; simp at hi
   ·exact h
  have hq : i / k < l.length := by rw [Nat.div_lt_iff_lt_mul hk0]; exact hi
  have e1 : (flatK enc k l.toArray).toList[i]? = some ((enc l[i / k])[i % k]!) := by
   rw [Array.getElem?_toList, Array.getElem?_eq_getElem (by simpa using hi)]
   simp [flatK, hq]
  rw [e1]
  have gen : ∀ (l : List α) (i : Nat), i < l.length * k → (h : i / k < l.length) → (l.flatMap enc)[i]? = some ((enc l[i / k])[i % k]!) := by
   intro l
   induction l with
   | nil => intro i hi; simp at hi
   | cons x l ih =>
    intro i hi h
    rw [List.flatMap_cons]
    by_cases hik : i < k
    ·rw [List.getElem?_append_left (by rw [hk]; exact hik)]
     have e0 : i / k = 0 := Nat.div_eq_of_lt hik
     have e2 : i % k = i := Nat.mod_eq_of_lt hik
     simp only [e0, e2, List.getElem_cons_zero]
     rw [List.getElem?_eq_getElem (by rw [hk]; exact hik)]
     simp [hk, hik]
    ·rw [List.getElem?_append_right (by rw [hk]; omega), hk]
     have hi' : i - k < l.length * k := by simp only [List.length_cons, Nat.add_mul] at hi; omega
     have ed : i / k = (i - k) / k + 1 := by
      rw [Nat.div_eq_sub_div hk0 (by omega)]
     have em : i % k = (i - k) % k := Nat.mod_eq_sub_mod (by omega)
     have hq' : (i - k) / k < l.length := by rw [Nat.div_lt_iff_lt_mul hk0]; exact hi'
     rw [ih (i - k) hi' hq']
     simp only [ed, em, List.getElem_cons_succ]
  exact (gen l i hi hq).symm
 ·rw [List.getElem?_eq_none (by simp; omega), List.getElem?_eq_none (by rw [hlen]; omega)]
theorem perm_list {α : Type} [Inhabited α] {l l' : List α} (h : PermIn 0 l.length l.toArray l'.toArray) : l'.Perm l := by
 obtain ⟨h1, _, h2⟩ := h
 have e : l'.length = l.length := by simpa using h1
 have e1 : l'.toArray.extract 0 l.length = l'.toArray := by rw [← e]; simp
 have e2 : l.toArray.extract 0 l.length = l.toArray := by simp
 rw [e1, e2] at h2
 simpa using h2
theorem sorted_list {α : Type} [Inhabited α] {cf : α → α → Int} {l : List α} (h : SortedIn (ltOf cf) 0 l.length l.toArray) : l.Pairwise (fun x y => ¬ cf y x < 0) := by
 rw [List.pairwise_iff_getElem]
 intro i j hi hj hij
 have := h i j (Nat.zero_le _) hij hj
 simp [hi, hj, ltOf] at this
 omega
theorem sort_callsK {α : Type} [Inhabited α] {enc : α → List Value} {k : Nat} (hk : ∀ x, (enc x).length = k) (hi : ∀ x, ∀ v ∈ enc x, IntV v) {cf : α → α → Int} {f g : FuncId}
  (hs : ∀ (blk off cap : Nat) (d : Array α) (w : World), HoldsK enc k w blk off d → blk < w.heap.size → d.size < 4611686018427387904 → Calls P f #[.slice (some ⟨blk, off, none⟩) d.size cap, .func (.func g) #[] #[]] w fun e w' => e = .returned (.tuple #[]) ∧ ∃ d' n os, PermIn 0 d.size d d' ∧ SortedIn (ltOf cf) 0 d.size d' ∧ w' = sortWorldK enc k w blk off n d' os)
  {b t e : Nat} {q : Option TypeId} {l : List α} {rest : List Value} {c : Nat} (ho : H b = some (.cells (l.flatMap enc ++ rest) e (some t) false q)) (hl : l.length < 4611686018427387904) :
  ACalls P W0 f [.slice (some ⟨b, 0, some t⟩) l.length c, .func (.func g) #[] #[]] nx H fun v nx' H' => v = .tuple #[] ∧ nx' = nx ∧ ∃ l' : List α, l'.Perm l ∧ l'.Pairwise (fun x y => ¬ cf y x < 0) ∧ H' = H.put b (.cells (l'.flatMap enc ++ rest) e (some t) false q) := by
 intro C w args' hR ha
 have hI : ∀ l : List α, ∀ v ∈ l.flatMap enc, IntV v := fun l v hv => by
  obtain ⟨x, _, hx⟩ := List.mem_flatMap.1 hv
  exact hi x v hx
 have hlen : ∀ l : List α, (l.flatMap enc).length = l.length * k := fun l => by
  induction l with
  | nil => simp
  | cons x l ih => simp only [List.flatMap_cons, List.length_append, hk, ih, List.length_cons, Nat.add_mul]; omega
 obtain ⟨h1, h2⟩ := ha
 obtain ⟨v1, v2, rfl⟩ : ∃ v1 v2, args' = [v1, v2] := by
  match args', h1 with
  | [v1, v2], _ => exact ⟨v1, v2, rfl⟩
 have hv1 := h2 0 (by simp) (by simp)
 have hv2 := h2 1 (by simp) (by simp)
 simp only [List.getElem_cons_zero, List.getElem_cons_succ] at hv1 hv2
 obtain ⟨cap', rfl⟩ : ∃ cap', v1 = .slice (some ⟨(C.loc b).1, (C.loc b).2, none⟩) l.length cap' := by
  cases hv1 with
  | slc _ _ _ b' cap' k1 k2 =>
   obtain ⟨e1, _⟩ := k2 _ ho rfl
   exact ⟨cap', by rw [e1]; simp [Corr.at]⟩
 obtain rfl : v2 = .func (.func g) #[] #[] := by
  cases hv2 with
  | func _ _ a' _ b' ha hb _ _ =>
   have : a' = #[] := by apply Array.eq_empty_of_size_eq_zero; simpa using ha.symm
   have : b' = #[] := by apply Array.eq_empty_of_size_eq_zero; simpa using hb.symm
   subst_vars; rfl
 have hH : HoldsK enc k w (C.loc b).1 (C.loc b).2 l.toArray := by
  unfold HoldsK
  have := row_holds hR ho (hI l)
  rwa [← flatK_list enc k hk l, Array.toArray_toList] at this
 refine (hs (C.loc b).1 (C.loc b).2 cap' l.toArray w hH (hR.obj _ _ ho).blk (by simpa using hl)).mono ?_
 rintro e' w' ⟨rfl, d', n, os, hp, hso, rfl⟩
 obtain ⟨l', rfl⟩ : ∃ l' : List α, d' = l'.toArray := ⟨d'.toList, by simp⟩
 have hsize : l'.length = l.length := by have := hp.1; simpa using this
 have hput := row_put hR ho (cs' := l'.flatMap enc) (by rw [hlen, hlen, hsize]) (hI l') n os
 have hw : sortWorldK enc k w (C.loc b).1 (C.loc b).2 n l'.toArray os = grow (putRow id (Sort.ahead w n) (C.loc b).1 (C.loc b).2 (l'.flatMap enc).toArray) os := by
  unfold sortWorldK putRowK
  rw [← flatK_list enc k hk l', Array.toArray_toList]
 rw [hw]
 exact ⟨_, _, C, nx, _, rfl, ⟨rfl, rfl, l', perm_list (by simpa using hp), sorted_list (by rw [hsize]; simpa using hso), rfl⟩, hput.1, .tuple _ _ rfl (fun i h => absurd h (by simp)), hput.2⟩
theorem holds_map {α : Type} [Inhabited α] {enc : α → Value} {blk off : Nat} {l : List α} (h : Holds id w blk off (l.map enc).toArray) : Holds enc w blk off l.toArray := by
 intro j hj
 have hj' : j < l.length := by simpa using hj
 have := h j (by simpa using hj)
 simpa [hj'] using this
theorem putRow_map {α : Type} [Inhabited α] (enc : α → Value) (w : World) (blk off : Nat) (l : List α) : putRow enc w blk off l.toArray = putRow id w blk off (l.map enc).toArray := by
 unfold putRow
 congr 1
 funext c
 unfold putCells
 congr 1
 funext k x
 by_cases h : off ≤ k ∧ k < off + l.length
 ·rw [if_pos (by simpa using h), if_pos (by simpa using h)]
  have : k - off < l.length := by omega
  simp [this]
 ·rw [if_neg (by simpa using h), if_neg (by simpa using h)]
theorem sort_calls1 {α : Type} [Inhabited α] {enc : α → Value} (hi : ∀ x, IntV (enc x)) {cf : α → α → Int} {f g : FuncId}
  (hs : ∀ (blk off cap : Nat) (d : Array α) (w : World), Holds enc w blk off d → blk < w.heap.size → d.size < 4611686018427387904 → Calls P f #[.slice (some ⟨blk, off, none⟩) d.size cap, .func (.func g) #[] #[]] w fun e w' => e = .returned (.tuple #[]) ∧ ∃ d' n os, PermIn 0 d.size d d' ∧ SortedIn (ltOf cf) 0 d.size d' ∧ w' = sortWorld enc w blk off n d' os)
  {b t e : Nat} {q : Option TypeId} {l : List α} {rest : List Value} {c : Nat} (ho : H b = some (.cells (l.map enc ++ rest) e (some t) false q)) (hl : l.length < 4611686018427387904) :
  ACalls P W0 f [.slice (some ⟨b, 0, some t⟩) l.length c, .func (.func g) #[] #[]] nx H fun v nx' H' => v = .tuple #[] ∧ nx' = nx ∧ ∃ l' : List α, l'.Perm l ∧ l'.Pairwise (fun x y => ¬ cf y x < 0) ∧ H' = H.put b (.cells (l'.map enc ++ rest) e (some t) false q) := by
 intro C w args' hR ha
 have hI : ∀ l : List α, ∀ v ∈ l.map enc, IntV v := fun l v hv => by
  obtain ⟨x, _, rfl⟩ := List.mem_map.1 hv
  exact hi x
 obtain ⟨h1, h2⟩ := ha
 obtain ⟨v1, v2, rfl⟩ : ∃ v1 v2, args' = [v1, v2] := by
  match args', h1 with
  | [v1, v2], _ => exact ⟨v1, v2, rfl⟩
 have hv1 := h2 0 (by simp) (by simp)
 have hv2 := h2 1 (by simp) (by simp)
 simp only [List.getElem_cons_zero, List.getElem_cons_succ] at hv1 hv2
 obtain ⟨cap', rfl⟩ : ∃ cap', v1 = .slice (some ⟨(C.loc b).1, (C.loc b).2, none⟩) l.length cap' := by
  cases hv1 with
  | slc _ _ _ b' cap' k1 k2 =>
   obtain ⟨e1, _⟩ := k2 _ ho rfl
   exact ⟨cap', by rw [e1]; simp [Corr.at]⟩
 obtain rfl : v2 = .func (.func g) #[] #[] := by
  cases hv2 with
  | func _ _ a' _ b' ha hb _ _ =>
   have : a' = #[] := by apply Array.eq_empty_of_size_eq_zero; simpa using ha.symm
   have : b' = #[] := by apply Array.eq_empty_of_size_eq_zero; simpa using hb.symm
   subst_vars; rfl
 have hH := holds_map (row_holds hR ho (hI l))
 refine (hs (C.loc b).1 (C.loc b).2 cap' l.toArray w hH (hR.obj _ _ ho).blk (by simpa using hl)).mono ?_
 rintro e' w' ⟨rfl, d', n, os, hp, hso, rfl⟩
 obtain ⟨l', rfl⟩ : ∃ l' : List α, d' = l'.toArray := ⟨d'.toList, by simp⟩
 have hsize : l'.length = l.length := by have := hp.1; simpa using this
 have hput := row_put hR ho (cs' := l'.map enc) (by simp [hsize]) (hI l') n os
 have hw : sortWorld enc w (C.loc b).1 (C.loc b).2 n l'.toArray os = grow (putRow id (Sort.ahead w n) (C.loc b).1 (C.loc b).2 (l'.map enc).toArray) os := by
  unfold sortWorld
  rw [putRow_map]
 rw [hw]
 exact ⟨_, _, C, nx, _, rfl, ⟨rfl, rfl, l', perm_list (by simpa using hp), sorted_list (by rw [hsize]; simpa using hso), rfl⟩, hput.1, .tuple _ _ rfl (fun i h => absurd h (by simp)), hput.2⟩
end
end Go.Am
namespace Go.Proofs.YtjohiaoepbnicaaGreat
set_option linter.unusedSimpArgs false
set_option linter.unusedVariables false
open Go.Shelf Go.RowKit Go.Lib Go.Am
open Go.Sort hiding Below
shelf_lay_g SlLaysF0.n6 Slsf 6 at Tryz 69 as sortOL
shelf_lay_g SlLaysF0.n6 Slsf 6 at Tryz 73 as sortCL
shelf_lay_g SlLaysF0.n6 Slsf 6 at Tryz 76 as sortNL
shelf_lay_g SlLaysF.n6 Slsf 6 at Tryz 65 as sortIL
theorem isAggO (w : World) : (isAgg 44).run Tryz.prog w = .ok true w := run_isAgg' Tryz.underlying44 w
set_option maxRecDepth 20000 in
theorem sizeOfO (w : World) : (Go.sizeOf 44).run Tryz.prog w = .ok 4 w := run_sizeOf' rfl w
theorem isAggC (w : World) : (isAgg 46).run Tryz.prog w = .ok true w := run_isAgg' Tryz.underlying46 w
set_option maxRecDepth 20000 in
theorem sizeOfC (w : World) : (Go.sizeOf 46).run Tryz.prog w = .ok 4 w := run_sizeOf' rfl w
theorem isAggN (w : World) : (isAgg 48).run Tryz.prog w = .ok true w := run_isAgg' Tryz.underlying48 w
set_option maxRecDepth 20000 in
theorem sizeOfN (w : World) : (Go.sizeOf 48).run Tryz.prog w = .ok 3 w := run_sizeOf' rfl w
theorem swo4 : Sort.SWO (ltOf cmp4) where
 irrefl x := by unfold ltOf; simp only [decide_eq_false_iff_not]; rw [cmp4_lt]; exact ord4.irr x
 trans x y z h1 h2 := by unfold ltOf at *; simp only [decide_eq_true_eq, cmp4_lt] at *; exact ord4.tr h1 h2
 ntrans x y z h1 h2 := by unfold ltOf at *; simp only [decide_eq_false_iff_not, cmp4_lt] at *; unfold lt4 at *; omega
theorem swo3 : Sort.SWO (ltOf cmp3) where
 irrefl x := by unfold ltOf; simp only [decide_eq_false_iff_not]; rw [cmp3_lt]; exact ord3.irr x
 trans x y z h1 h2 := by unfold ltOf at *; simp only [decide_eq_true_eq, cmp3_lt] at *; exact ord3.tr h1 h2
 ntrans x y z h1 h2 := by unfold ltOf at *; simp only [decide_eq_false_iff_not, cmp3_lt] at *; unfold lt3 at *; omega
theorem swo1 : Sort.SWO (ltOf Lib.compareInt) where
 irrefl x := by unfold ltOf; simp only [decide_eq_false_iff_not]; rw [cmp1_lt]; exact ord1.irr x
 trans x y z h1 h2 := by unfold ltOf at *; simp only [decide_eq_true_eq, cmp1_lt] at *; exact ord1.tr h1 h2
 ntrans x y z h1 h2 := by unfold ltOf at *; simp only [decide_eq_false_iff_not, cmp1_lt] at *; unfold lt1 at *; omega
theorem int4 (x : R4) : ∀ v ∈ enc4 x, ∃ k n, v = .int k n := fun v hv => by simp [enc4, e4] at hv; rcases hv with rfl | rfl | rfl | rfl <;> exact ⟨_, _, rfl⟩
theorem int3 (x : R3) : ∀ v ∈ enc3 x, ∃ k n, v = .int k n := fun v hv => by simp [enc3, e3] at hv; rcases hv with rfl | rfl | rfl <;> exact ⟨_, _, rfl⟩
theorem one4 (x : R4) : ∀ v ∈ enc4 x, v.oneCell' = true := fun v hv => by obtain ⟨k, n, rfl⟩ := int4 x v hv; rfl
theorem one3 (x : R3) : ∀ v ∈ enc3 x, v.oneCell' = true := fun v hv => by obtain ⟨k, n, rfl⟩ := int3 x v hv; rfl
theorem entersSortO : Am.Enters Tryz.prog 69 := ⟨Tryz.f69, Tryz.func69, by kernel_rfl, by kernel_rfl⟩
theorem sortOC (W0 : World) {nx b t e c : Nat} {H : Heap} {q : Option TypeId} {l : List R4} {rest : List Value} (ho : H b = some (.cells (l.flatMap enc4 ++ rest) e (some t) false q)) (hl : l.length < 1000000000000) :
  ACalls Tryz.prog W0 69 [.slice (some ⟨b, 0, some t⟩) l.length c, .func (.func 48) #[] #[]] nx H fun v nx' H' => v = .tuple #[] ∧ nx' = nx ∧ ∃ l' : List R4, l'.Perm l ∧ SortedL lt4 l' ∧ H' = H.put b (.cells (l'.flatMap enc4 ++ rest) e (some t) false q) := by
 have eg : ∀ args w, (callFunc 48 args).run Tryz.prog w = .ok (.enter 48 args) w := enters_of Tryz.func48 (by kernel_rfl) rfl
 have := sort_callsK (P := Tryz.prog) (W0 := W0) (nx := nx) (H := H) (enc := enc4) (k := 4) (cf := cmp4) (f := 69) (g := 48) (fun _ => rfl) int4
  (fun blk off cap d w hH hb hsz => AnyQ.slices_SortFunc sortOL 4 isAggO sizeOfO enc4 (fun _ => rfl) one4 cmp4 swo4 48 #[] blk off cap d w eg (fun _ _ _ _ x y => byOpen_calls x y _) hH hb hsz) (c := c) ho (by omega)
 refine ACalls.weaken this ?_
 rintro v nx' H' ⟨h1, h2, l', h3, h4, h5⟩
 exact ⟨h1, h2, l', h3, h4.imp (fun {x y} h hlt => h ((cmp4_lt y x).2 hlt)), h5⟩
theorem entersSortC : Am.Enters Tryz.prog 73 := ⟨Tryz.f73, Tryz.func73, by kernel_rfl, by kernel_rfl⟩
theorem sortCC (W0 : World) {nx b t e c : Nat} {H : Heap} {q : Option TypeId} {l : List R4} {rest : List Value} (ho : H b = some (.cells (l.flatMap enc4 ++ rest) e (some t) false q)) (hl : l.length < 1000000000000) :
  ACalls Tryz.prog W0 73 [.slice (some ⟨b, 0, some t⟩) l.length c, .func (.func 50) #[] #[]] nx H fun v nx' H' => v = .tuple #[] ∧ nx' = nx ∧ ∃ l' : List R4, l'.Perm l ∧ SortedL lt4 l' ∧ H' = H.put b (.cells (l'.flatMap enc4 ++ rest) e (some t) false q) := by
 have eg : ∀ args w, (callFunc 50 args).run Tryz.prog w = .ok (.enter 50 args) w := enters_of Tryz.func50 (by kernel_rfl) rfl
 have := sort_callsK (P := Tryz.prog) (W0 := W0) (nx := nx) (H := H) (enc := enc4) (k := 4) (cf := cmp4) (f := 73) (g := 50) (fun _ => rfl) int4
  (fun blk off cap d w hH hb hsz => AnyQ.slices_SortFunc sortCL 4 isAggC sizeOfC enc4 (fun _ => rfl) one4 cmp4 swo4 50 #[] blk off cap d w eg (fun _ _ _ _ x y => byClose_calls x y _) hH hb hsz) (c := c) ho (by omega)
 refine ACalls.weaken this ?_
 rintro v nx' H' ⟨h1, h2, l', h3, h4, h5⟩
 exact ⟨h1, h2, l', h3, h4.imp (fun {x y} h hlt => h ((cmp4_lt y x).2 hlt)), h5⟩
theorem entersSortN : Am.Enters Tryz.prog 76 := ⟨Tryz.f76, Tryz.func76, by kernel_rfl, by kernel_rfl⟩
theorem sortNC (W0 : World) {nx b t e c : Nat} {H : Heap} {q : Option TypeId} {l : List R3} {rest : List Value} (ho : H b = some (.cells (l.flatMap enc3 ++ rest) e (some t) false q)) (hl : l.length < 1000000000000) :
  ACalls Tryz.prog W0 76 [.slice (some ⟨b, 0, some t⟩) l.length c, .func (.func 52) #[] #[]] nx H fun v nx' H' => v = .tuple #[] ∧ nx' = nx ∧ ∃ l' : List R3, l'.Perm l ∧ SortedL lt3 l' ∧ H' = H.put b (.cells (l'.flatMap enc3 ++ rest) e (some t) false q) := by
 have eg : ∀ args w, (callFunc 52 args).run Tryz.prog w = .ok (.enter 52 args) w := enters_of Tryz.func52 (by kernel_rfl) rfl
 have := sort_callsK (P := Tryz.prog) (W0 := W0) (nx := nx) (H := H) (enc := enc3) (k := 3) (cf := cmp3) (f := 76) (g := 52) (fun _ => rfl) int3
  (fun blk off cap d w hH hb hsz => AnyQ.slices_SortFunc sortNL 3 isAggN sizeOfN enc3 (fun _ => rfl) one3 cmp3 swo3 52 #[] blk off cap d w eg (fun _ _ _ _ x y => byInner_calls x y _) hH hb hsz) (c := c) ho (by omega)
 refine ACalls.weaken this ?_
 rintro v nx' H' ⟨h1, h2, l', h3, h4, h5⟩
 exact ⟨h1, h2, l', h3, h4.imp (fun {x y} h hlt => h ((cmp3_lt y x).2 hlt)), h5⟩
theorem entersSortI : Am.Enters Tryz.prog 65 := ⟨Tryz.f65, Tryz.func65, by kernel_rfl, by kernel_rfl⟩
theorem sortIC (W0 : World) {nx b t e c : Nat} {H : Heap} {q : Option TypeId} {l : List Int} {rest : List Value} (ho : H b = some (.cells (l.map (.int .i64 ·) ++ rest) e (some t) false q)) (hl : l.length < 1000000000000) :
  ACalls Tryz.prog W0 65 [.slice (some ⟨b, 0, some t⟩) l.length c, .func (.func 46) #[] #[]] nx H fun v nx' H' => v = .tuple #[] ∧ nx' = nx ∧ ∃ l' : List Int, l'.Perm l ∧ SortedL lt1 l' ∧ H' = H.put b (.cells (l'.map (.int .i64 ·) ++ rest) e (some t) false q) := by
 have eg : ∀ args w, (callFunc 46 args).run Tryz.prog w = .ok (.enter 46 args) w := enters_of Tryz.func46 (by kernel_rfl) rfl
 have := sort_calls1 (P := Tryz.prog) (W0 := W0) (nx := nx) (H := H) (enc := fun x : Int => .int .i64 x) (cf := Lib.compareInt) (f := 65) (g := 46) (fun x => ⟨_, _, rfl⟩)
  (fun blk off cap d w hH hb hsz => Any.slices_SortFunc sortIL (fun x : Int => .int .i64 x) (fun _ => rfl) Lib.compareInt swo1 46 #[] blk off cap d w eg (fun _ _ _ _ x y => cmpI_calls x y _) hH hb hsz) (c := c) ho (by omega)
 refine ACalls.weaken this ?_
 rintro v nx' H' ⟨h1, h2, l', h3, h4, h5⟩
 exact ⟨h1, h2, l', h3, h4.imp (fun {x y} h hlt => h ((cmp1_lt y x).2 hlt)), h5⟩
end Go.Proofs.YtjohiaoepbnicaaGreat
namespace Go.Proofs.YtjohiaoepbnicaaGreat
set_option linter.unusedSimpArgs false
set_option linter.unusedVariables false
open Go.RowKit Go.Am
attribute [local irreducible] aop OpsL Trip blockExit OpsD OpsK OpsR
theorem entersTidyO : Am.Enters Tryz.prog 47 := ⟨Tryz.f47, Tryz.func47, by kernel_rfl, by kernel_rfl⟩
theorem sortOwnO (W0 : World) {nx : Nat} {H : Heap} {ob : Option (Nat × Nat)} {v : Value} {l : List (R4)} (h : OwnO H ob v l) (hl : l.length ≤ 1000000) :
  ACalls Tryz.prog W0 69 [v, .func (.func 48) #[] #[]] nx H fun _ nx' H' => nx' = nx ∧ ∃ l' : List (R4), l'.Perm l ∧ SortedL lt4 l' ∧ OwnO H' ob v l' ∧ ∀ i, (∀ b t, ob = some (b, t) → i ≠ b) → H' i = H i := by
 cases ob with
 | none =>
  obtain ⟨rfl, _, hl0⟩ := h
  have hnil : l = [] := List.eq_nil_of_length_eq_zero hl0
  subst hnil
  intro C w args' hR ha
  obtain ⟨h1, h2⟩ := ha
  obtain ⟨v1, v2, rfl⟩ : ∃ v1 v2, args' = [v1, v2] := by
   match args', h1 with
   | [v1, v2], _ => exact ⟨v1, v2, rfl⟩
  have hv1 := h2 0 (by simp) (by simp)
  simp only [List.getElem_cons_zero] at hv1
  obtain rfl : v1 = .slice none 0 0 := by cases hv1; rfl
  refine (AnyF.slices_SortFunc_none { sortOL with } none 0 v2 w).mono ?_
  rintro e w' ⟨rfl, rfl⟩
  exact ⟨_, _, C, nx, H, rfl, ⟨rfl, [], List.Perm.refl _, List.Pairwise.nil, ⟨rfl, rfl, rfl⟩, fun _ _ => rfl⟩, hR, .tuple #[] #[] rfl (fun i h => absurd h (by simp)), Stp.refl _ _ _⟩
 | some bt =>
  obtain ⟨b, t⟩ := bt
  obtain ⟨rfl, _, rest, hH⟩ := h
  refine ACalls.weaken (sortOC W0 hH (by omega)) ?_
  rintro v nx' H' ⟨_, rfl, l', hp, hs, rfl⟩
  refine ⟨rfl, l', hp, hs, ⟨by rw [hp.length_eq], by rw [flat_len enc4_len], rest, Heap.put_eq⟩, fun i hi => Heap.put_ne (hi b t rfl)⟩
set_option maxRecDepth 20000 in
set_option maxHeartbeats 4000000 in
theorem tidyOC (W0 : World) {nx : Nat} {H : Heap} {v : Value} {l : List R4} (hr : AtO H v l) (hm : l.length ≤ 100000) :
  ACalls Tryz.prog W0 47 [v, .func (.func 48) #[] #[]] nx H fun v nx' H' => ∃ ob, OwnO H' ob v (tidyL lt4 l) ∧ Fresh nx H nx' H' ob := by
 refine ACalls.by_trip (fn := Tryz.f47) (c := _) Tryz.func47 rfl (fun tm n hn0 htm => ?_)
 have e0 : tm 0 = v := htm 0
 have e1 : tm 1 = .func (.func 48) #[] #[] := htm 1
 clear htm
 replace hn0 : n = 13 := hn0
 refine Trip.ok fun hok => ?_
 replace hok : ∀ id o, H id = some o → id < nx := hok
 obtain ⟨va, vc, rfl⟩ := hr.slice
 repeat (first | (refine OpsL.q (by first | exact omv | exact oasg) ?_) | refine Trip.seq ?_ | refine Trip.ops ?_ | (refine OpsL.nil ?_; (change Trip _ _ _ _ _)))
 refine OpsL.new (by subst_vars; decide) (aop_buildSlice (l := [(0, .slice va l.length vc)]) (r := (.slice (some ⟨nx, 0, none⟩) 1 1, .new (.cells [.slice va l.length vc] 1 none false (some 26)))) (by simp only [evParts, ASt.ev, tmPut, ↓reduceIte, reduceIte, Option.some.injEq, Nat.reduceEqDiff, *]) (by kernel_rfl)) ?_
 have hx0 : Ext nx H (nx + 1) (H.put nx (.cells [.slice va l.length vc] 1 none false (some 26))) := Ext.newPut
 have hin : RowsInO (H.put nx (.cells [.slice va l.length vc] 1 none false (some 26))) (.slice (some ⟨nx, 0, none⟩) 1 1) [(.slice va l.length vc, l)] := ⟨nx, rfl, Heap.put_eq, fun x hx => by rw [List.mem_singleton] at hx; subst hx; exact hr.ext hx0 hok⟩
 have hall : allOfO [(Value.slice va l.length vc, l)] = l := by simp [allOfO]
 refine OpsL.c1 (hf := entersConcO) (hc := (concOC W0 hin (by rw [hall]; exact hm) (by simp))) (h := ?_)
 rintro v1 nx1 H1 ⟨ob, ho1, hx1, hob1⟩
 rw [hall] at ho1
 repeat (first | (refine OpsL.q (by first | exact omv | exact oasg) ?_) | refine Trip.seq ?_ | refine Trip.ops ?_ | (refine OpsL.nil ?_; (change Trip _ _ _ _ _)))
 refine OpsL.c2 (hf := entersSortO) (hc := (sortOwnO W0 ho1 (by omega))) (h := ?_)
 rintro v2 nx2 H2 ⟨rfl, l', hp, hs, ho2, hsame2⟩
 repeat (first | refine OpsL.q (by exact omv) ?_ | refine Trip.seq ?_ | refine Trip.ops ?_ | (refine OpsL.nil ?_; (change Trip _ _ _ _ _)))
 refine OpsL.c1 (hf := entersCompO) (hc := (compOC W0 ho2 (by rw [hp.length_eq]; omega))) (h := ?_)
 rintro v3 nx3 H3 ⟨rfl, ho3, hsame3⟩
 repeat (first | refine OpsL.q (by exact oasg) ?_ | (refine Trip.ret ?_; (dsimp only)) | (refine OpsL.nil ?_; (change Trip _ _ _ _ _)))
 have heq := tidyL_eq ord4 (strictL_ded ord4 l' hs) (fun x => by rw [dedF_mem, hp.mem_iff] : ∀ x, x ∈ dedF l' ↔ x ∈ l)
 rw [heq] at ho3
 refine ⟨.inr rfl, _, res_tmp, ob, by simpa [tmPut] using ho3, hx0.trans ⟨hx1.1, fun i hi => ?_⟩, fun b t h => by have := hob1 b t h; omega⟩
 rw [hsame3 i (fun b t h => by have := (hob1 b t h).1; omega), hsame2 i (fun b t h => by have := (hob1 b t h).1; omega), hx1.2 i hi]
end Go.Proofs.YtjohiaoepbnicaaGreat
namespace Go.Proofs.YtjohiaoepbnicaaGreat
set_option linter.unusedSimpArgs false
set_option linter.unusedVariables false
open Go.RowKit Go.Am
attribute [local irreducible] aop OpsL Trip blockExit OpsD OpsK OpsR
abbrev AtC (H : Heap) (v : Value) (l : List (R4)) : Prop := RowsAt enc4 4 H v l
abbrev OwnC (H : Heap) (ob : Option (Nat × Nat)) (v : Value) (l : List (R4)) : Prop := OwnOf enc4 4 46 H ob v l
theorem entersGrowC : Am.Enters Tryz.prog 86 := ⟨Tryz.f86, Tryz.func86, by kernel_rfl, by kernel_rfl⟩
theorem entersConcC : Am.Enters Tryz.prog 72 := ⟨Tryz.f72, Tryz.func72, by kernel_rfl, by kernel_rfl⟩
set_option maxRecDepth 20000 in
set_option maxHeartbeats 4000000 in
theorem growCC (W0 : World) {nx m : Nat} {H : Heap} (hm : m ≤ 1000000) :
  ACalls Tryz.prog W0 86 [.slice none 0 0, .int .i64 m] nx H fun v nx' H' => ∃ ob, OwnC H' ob v [] ∧ Fresh nx H nx' H' ob := by
 refine ACalls.by_trip (fn := Tryz.f86) (c := _) Tryz.func86 rfl (fun tm n hn0 htm => ?_)
 have e0 : tm 0 = .slice none 0 0 := htm 0
 have e1 : tm 1 = .int .i64 m := htm 1
 clear htm
 replace hn0 : n = 27 := hn0
 repeat (first | (refine OpsL.q (by first | exact omv | exact oasg) ?_) | refine Trip.seq ?_ | refine Trip.ops ?_ | (refine OpsL.nil ?_; (change Trip _ _ _ _ _)))
 refine OpsL.lssF ?_
 repeat (refine OpsL.nil ?_; (change Trip _ _ _ _ _))
 refine Trip.ifF ?_
 repeat (first | refine OpsL.q (by exact omv) ?_ | refine Trip.seq ?_ | refine Trip.ops ?_ | (refine Trip.skip ?_; (change Trip _ _ _ _ _)))
 refine OpsL.q (aop_capN (by simp only [ASt.ev, tmPut, ↓reduceIte, Nat.reduceEqDiff, *]; rfl) (by exact rfl)) ?_
 repeat (first | (refine OpsL.q (by first | exact omv | exact olen | exact osub | exact oasg) ?_) | refine Trip.seq ?_ | refine Trip.ops ?_ | (refine OpsL.nil ?_; (change Trip _ _ _ _ _)))
 by_cases h0 : 0 < m
 ·refine OpsL.gtrT ?_
  repeat (refine OpsL.nil ?_; (change Trip _ _ _ _ _))
  refine Trip.ifT ?_
  repeat (first | refine OpsL.q (by exact omv) ?_ | refine Trip.ops ?_)
  refine OpsL.q (aop_capN (by simp only [ASt.ev, tmPut, ↓reduceIte, Nat.reduceEqDiff, *]; rfl) (by exact rfl)) ?_
  refine OpsL.q (aop_slice (r := .slice none 0 0) (a := none) (b := some (.int .i64 0)) (c := none) (by simp only [ASt.ev, tmPut, ↓reduceIte, Nat.reduceEqDiff, *]; done) rfl (by simp only [evOpt, ASt.ev, tmPut, ↓reduceIte, reduceIte, Option.some.injEq, Nat.reduceEqDiff, Option.map_some]; rfl) rfl (aSlice_nil (el := 46) (sz := 4) (by exact rfl) (by exact rfl) (.inl ⟨rfl, rfl⟩) (.inr ⟨.i64, rfl⟩))) ?_
  repeat (refine OpsL.q (by exact omv) ?_)
  refine OpsL.new (by subst_vars; decide) (aop_appendZ (k := m) (el := 46) (kd := .i64) (size := 4) (bytes := 32) (z := [.int .i64 0, .int .i64 0, .int .i64 0, .int .i64 0]) (by simp only [ASt.ev, tmPut, ↓reduceIte, Nat.reduceEqDiff, *]; done) (by simp only [ASt.ev, tmPut, ↓reduceIte, reduceIte, Nat.reduceEqDiff, plain1, *]; simp) (by exact rfl) (by exact rfl) (by exact rfl) (by exact rfl) (by exact rfl) rfl h0 (by omega) (by omega)) ?_
  repeat (refine OpsL.q (by first | exact omv | exact olen) ?_)
  refine OpsL.q (aop_slice (r := .slice (some ⟨nx, 0, some nx⟩) 0 0) (a := none) (b := some (.int .i64 0)) (c := none) (by simp only [ASt.ev, tmPut, ↓reduceIte, Nat.reduceEqDiff, *]; rfl) rfl (by simp only [evOpt, ASt.ev, tmPut, ↓reduceIte, reduceIte, Option.some.injEq, Nat.reduceEqDiff, Option.map_some]; rfl) rfl (by
   have := aSlice_tagged (P := Tryz.prog) (H := H.put nx (.cells (zcells [.int .i64 0, .int .i64 0, .int .i64 0, .int .i64 0] m) 4 (some nx) false (some 46))) (t := 27) (el := 46) (sz := 4) (a := ⟨nx, 0, some nx⟩) (len := m) (cap := m) (l := 0) (h := 0) (tg := nx) (lo := none) (hi := some (.int .i64 0)) (by exact rfl) (by exact rfl) Heap.put_eq rfl rfl rfl (.inl ⟨rfl, rfl⟩) (.inr ⟨.i64, rfl⟩) (Nat.le_refl _) (Nat.zero_le _)
   simpa using this)) ?_
  repeat (first | (refine OpsL.q (by first | exact omv | exact oasg) ?_) | refine Trip.seq ?_ | refine Trip.ops ?_ | (refine Trip.ret ?_; (dsimp only)) | (refine OpsL.nil ?_; (change Trip _ _ _ _ _)))
  refine ⟨.inr rfl, _, res_tmp, some (nx, nx), ?_, ⟨Ext.newPut, fun b t h => by cases h; exact ⟨Nat.le_refl _, Nat.lt_succ_self _⟩⟩⟩
  refine ⟨by simp [tmPut], rfl, zcells [.int .i64 0, .int .i64 0, .int .i64 0, .int .i64 0] m, ?_⟩
  rw [Heap.put_eq]
  simp
 ·refine OpsL.gtrF ?_
  repeat (refine OpsL.nil ?_; (change Trip _ _ _ _ _))
  refine Trip.ifF ?_
  repeat (first | (refine OpsL.q (by first | exact omv | exact oasg) ?_) | refine Trip.seq ?_ | refine Trip.ops ?_ | (refine Trip.skip ?_; (change Trip _ _ _ _ _)) | (refine Trip.ret ?_; (dsimp only)) | (refine OpsL.nil ?_; (change Trip _ _ _ _ _)))
  refine ⟨.inr rfl, _, res_tmp, none, ⟨by simp [tmPut, *], rfl, rfl⟩, Ext.refl, fun b t h => by cases h⟩
def RowsInC (H : Heap) (v : Value) (ls : List (Value × List (R4))) : Prop :=
 ∃ a, v = .slice (some ⟨a, 0, none⟩) ls.length ls.length ∧ H a = some (.cells (ls.map (·.1)) 1 none false (some 27)) ∧ ∀ x ∈ ls, AtC H x.1 x.2
def allOfC (ls : List (Value × List (R4))) : List (R4) := ls.flatMap (·.2)
theorem allOfC_take (ls : List (Value × List (R4))) {i : Nat} (h : i < ls.length) : allOfC (ls.take (i + 1)) = allOfC (ls.take i) ++ ls[i].2 := by
 unfold allOfC
 rw [List.take_add_one, List.getElem?_eq_getElem h, Option.toList_some, List.flatMap_append]
 simp
set_option maxRecDepth 20000 in
set_option maxHeartbeats 4000000 in
theorem concCC (W0 : World) {nx : Nat} {H : Heap} {v : Value} {ls : List (Value × List (R4))} (hr : RowsInC H v ls) (hm : (allOfC ls).length ≤ 100000) (hl : ls.length ≤ 100) :
  ACalls Tryz.prog W0 72 [v] nx H fun v nx' H' => ∃ ob, OwnC H' ob v (allOfC ls) ∧ Fresh nx H nx' H' ob := by
 obtain ⟨a, rfl, hH, hrows⟩ := hr
 refine ACalls.by_trip (fn := Tryz.f72) (c := _) Tryz.func72 rfl (fun tm n hn0 htm => ?_)
 have e0 : tm 0 = .slice (some ⟨a, 0, none⟩) ls.length ls.length := htm 0
 clear htm
 replace hn0 : n = 36 := hn0
 refine Trip.ok fun hok => ?_
 replace hok : ∀ id o, H id = some o → id < nx := hok
 have hcell : ∀ (G : Heap), G a = some (.cells (ls.map (·.1)) 1 none false (some 27)) → ∀ i (h : i < ls.length), cellAt G ⟨a, 0 + (i : Int).toNat * 1, none⟩ ls[i].1 := fun G hG i h => by
  have := cellAt_own (off := i) hG (by simpa using h)
  simpa using this
 have hlen : ∀ i, i ≤ ls.length → (allOfC (ls.take i)).length ≤ (allOfC ls).length := fun i hi => by
  have h1 : allOfC ls = allOfC (ls.take i) ++ allOfC (ls.drop i) := by
   unfold allOfC
   rw [← List.flatMap_append, List.take_append_drop]
  rw [h1, List.length_append]; omega
 repeat (first | (refine OpsL.q (by first | exact omv | exact oasg | exact olen) ?_) | refine Trip.seq ?_ | refine Trip.ops ?_ | refine Trip.block ?_ | (refine OpsL.nil ?_; (change Trip _ _ _ _ _)))
 refine Trip.inv (fun (i : Nat) st => ∃ (tm : Nat → Value), st = ⟨tm, n, H, nx⟩ ∧ tm 0 = .slice (some ⟨a, 0, none⟩) ls.length ls.length ∧ tm 9 = .slice (some ⟨a, 0, none⟩) ls.length ls.length ∧ tm 10 = .int .i64 ls.length ∧ tm 11 = .int .i64 i ∧ tm 3 = .int .i64 (allOfC (ls.take i)).length ∧ i ≤ ls.length) (fun i => ls.length - i) 0 ?_ ?_
 ·exact ⟨_, rfl, by simp [tmPut, *], by simp [tmPut, *], by simp [tmPut, *], by simp [tmPut, *], by simp [tmPut, allOfC], by omega⟩
 ·clear e0
  rintro i st ⟨tm, rfl, e0, e9, e10, e11, e3, hi⟩
  by_cases hlt : i < ls.length
  ·have hc := hcell H hH i hlt
   obtain ⟨ua, uc, hu⟩ := (hrows _ (List.getElem_mem hlt)).slice
   have hst := allOfC_take ls hlt
   have hl1 := hlen (i + 1) (by omega)
   rw [hst, List.length_append] at hl1
   rw [hu] at hc
   generalize ls[i].2 = us at *
   generalize allOfC (ls.take i) = zs at *
   repeat (first | refine Trip.seq ?_ | refine Trip.ops ?_)
   refine OpsL.lssT ?_
   repeat (first | refine Trip.seq ?_ | (refine OpsL.nil ?_; (change Trip _ _ _ _ _)))
   refine Trip.ifT ?_
   repeat (first | (refine OpsL.q (by first | exact omv | exact oasg | exact oixa | exact old | exact olen | exact oadd) ?_) | refine Trip.seq ?_ | refine Trip.ops ?_ | refine Trip.block ?_ | (refine Trip.skip ?_; (change Trip _ _ _ _ _)) | (refine OpsL.nil ?_; (change Trip _ _ _ _ _)))
   refine OpsL.lssF ?_
   repeat (refine OpsL.nil ?_; (change Trip _ _ _ _ _))
   refine Trip.ifF ?_
   repeat (first | (refine OpsL.q (by first | exact omv | exact oadd) ?_) | refine Trip.ops ?_ | (refine Trip.skip ?_; ((repeat (refine blockExit_normal ?_)); change Trip _ _ _ _ _)) | (refine OpsL.nil ?_; (dsimp only)))
   exact ⟨i + 1, ⟨_, rfl, by simp [tmPut, *], by simp [tmPut, *], by simp [tmPut, *], by simp [tmPut, *], by rw [hst]; simp [tmPut, *], by omega⟩, by omega⟩
  ·have hin : i = ls.length := by omega
   subst hin
   rw [List.take_length] at e3
   repeat (first | refine Trip.seq ?_ | refine Trip.ops ?_)
   refine OpsL.lssF ?_
   repeat (first | refine Trip.seq ?_ | (refine OpsL.nil ?_; (change Trip _ _ _ _ _)))
   refine Trip.ifF ?_
   repeat (first | refine OpsL.q (by exact omv) ?_ | refine Trip.seq ?_ | refine Trip.ops ?_ | (refine Trip.exit ?_; ((repeat (refine blockExit_eq ?_)); change Trip _ _ _ _ _)))
   refine OpsL.c2 (hf := entersGrowC) (hc := (growCC W0 (m := (allOfC ls).length) (by omega)).ok) (h := ?_)
   rintro gv nx1 H1 ⟨⟨ob1, ho1, hx1, hob1⟩, hok1⟩
   repeat (first | (refine OpsL.q (by first | exact omv | exact oasg | exact olen) ?_) | refine Trip.seq ?_ | refine Trip.ops ?_ | refine Trip.block ?_ | (refine OpsL.nil ?_; (change Trip _ _ _ _ _)))
   refine Trip.inv (fun (i : Nat) st => ∃ (tm : Nat → Value) (nx' : Nat) (H' : Heap) (ob : Option (Nat × Nat)) (v : Value), st = ⟨tm, n, H', nx'⟩ ∧ Fresh nx H nx' H' ob ∧ (∀ id o, H' id = some o → id < nx') ∧ OwnC H' ob v (allOfC (ls.take i)) ∧ tm 25 = .slice (some ⟨a, 0, none⟩) ls.length ls.length ∧ tm 26 = .int .i64 ls.length ∧ tm 27 = .int .i64 i ∧ tm 6 = v ∧ i ≤ ls.length) (fun i => ls.length - i) 0 ?_ ?_
   ·exact ⟨_, _, _, ob1, gv, rfl, ⟨hx1, hob1⟩, hok1, ho1, by simp [tmPut, *], by simp [tmPut, *], by simp [tmPut, *], by simp [tmPut, *], by omega⟩
   ·clear e0 e9 e10 e11 e3 ho1 hx1 hob1 hok1
    rintro i st ⟨tm, nx', H', ob, v, rfl, ⟨hx, hob⟩, hok', hown, e25, e26, e27, e6, hi⟩
    by_cases hlt : i < ls.length
    ·have hst := allOfC_take ls hlt
     have hl1 := hlen (i + 1) (by omega)
     rw [hst, List.length_append] at hl1
     have hrow := (hrows _ (List.getElem_mem hlt)).ext hx hok
     have hc := hcell H' (by rw [hx.2 a (hok _ _ hH)]; exact hH) i hlt
     obtain ⟨ua, uc, hu⟩ := hrow.slice
     rw [hu] at hc hrow
     generalize ls[i].2 = us at *
     generalize allOfC (ls.take i) = zs at *
     repeat (first | refine Trip.seq ?_ | refine Trip.ops ?_)
     refine OpsL.lssT ?_
     repeat (first | refine Trip.seq ?_ | (refine OpsL.nil ?_; (change Trip _ _ _ _ _)))
     refine Trip.ifT ?_
     repeat (first | (refine OpsL.q (by first | exact omv | exact oasg | exact oixa | exact old) ?_) | refine Trip.seq ?_ | refine Trip.ops ?_ | refine Trip.block ?_ | (refine Trip.skip ?_; (change Trip _ _ _ _ _)) | (refine OpsL.nil ?_; (change Trip _ _ _ _ _)))
     refine OpsL.appendO (bytes := 32) (z := [.int .i64 0, .int .i64 0, .int .i64 0, .int .i64 0]) enc4_len enc4_one (by omega) (by subst_vars; decide) hown hrow (by simp only [ASt.ev, tmPut, ↓reduceIte, Nat.reduceEqDiff, *]; done) (by simp only [ASt.ev, tmPut, ↓reduceIte, Nat.reduceEqDiff, *]; done) (fun b t h => (hob b t h).2) (by exact rfl) (by exact rfl) (by exact rfl) (by exact rfl) (by exact rfl) rfl (by omega) (by omega) ?_
     intro v' nx2 H2 ob2 hA
     repeat (first | (refine OpsL.q (by first | exact omv | exact oasg | exact oadd) ?_) | refine Trip.ops ?_ | (refine OpsL.nil ?_; ((repeat (refine blockExit_normal ?_)); first | (change Trip _ _ _ _ _) | (dsimp only))))
     refine ⟨i + 1, ⟨_, nx2, H2, ob2, v', rfl, ⟨⟨by have := hx.1; have := hA.le; omega, fun j hj => ?_⟩, fun b t h => ?_⟩, ?_, by rw [hst]; exact hA.own, by simp [tmPut, *], by simp [tmPut, *], by simp [tmPut, *], by simp [tmPut, *], by omega⟩, by omega⟩
     ·rw [hA.same j (by have := hx.1; omega) (fun b t h => by have := (hob b t h).1; omega), hx.2 j hj]
     ·obtain ⟨q1, q2⟩ := hA.blk b t h
      refine ⟨?_, q1⟩
      rcases q2 with rfl | ⟨t', h'⟩
      ·exact hx.1
      ·exact (hob _ _ h').1
     ·exact hA.ok (fun b t h => (hob b t h).2) hok'
    ·have hin : i = ls.length := by omega
     subst hin
     rw [List.take_length] at hown
     repeat (first | refine Trip.seq ?_ | refine Trip.ops ?_)
     refine OpsL.lssF ?_
     repeat (first | refine Trip.seq ?_ | (refine OpsL.nil ?_; (change Trip _ _ _ _ _)))
     refine Trip.ifF ?_
     repeat (first | (refine OpsL.q (by first | exact omv | exact oasg) ?_) | refine Trip.seq ?_ | refine Trip.ops ?_ | (refine Trip.exit ?_; ((repeat (refine blockExit_eq ?_)); change Trip _ _ _ _ _)) | (refine Trip.ret ?_; (dsimp only)) | (refine OpsL.nil ?_; (change Trip _ _ _ _ _)))
     exact ⟨.inr rfl, _, res_tmp, ob, by simp [tmPut, *], hx, hob⟩
end Go.Proofs.YtjohiaoepbnicaaGreat
namespace Go.Proofs.YtjohiaoepbnicaaGreat
set_option linter.unusedSimpArgs false
set_option linter.unusedVariables false
open Go.RowKit Go.Am
attribute [local irreducible] aop OpsL Trip blockExit OpsD OpsK OpsR
theorem entersCompC : Am.Enters Tryz.prog 74 := ⟨Tryz.f74, Tryz.func74, by kernel_rfl, by kernel_rfl⟩
set_option maxRecDepth 20000 in
set_option maxHeartbeats 4000000 in
theorem compCC (W0 : World) {nx : Nat} {H : Heap} {ob : Option (Nat × Nat)} {v : Value} {l : List (R4)} (h : OwnC H ob v l) (hl : l.length ≤ 100000) :
  ACalls Tryz.prog W0 74 [v] nx H fun v' nx' H' => nx' = nx ∧ OwnC H' ob v' (dedF l) ∧ ∀ i, (∀ b t, ob = some (b, t) → i ≠ b) → H' i = H i := by
 have hrow := h.at enc4_len
 obtain ⟨va, vc, rfl⟩ := hrow.slice
 refine ACalls.by_trip (fn := Tryz.f74) (c := _) Tryz.func74 rfl (fun tm n hn0 htm => ?_)
 have e0 : tm 0 = .slice va l.length vc := htm 0
 clear htm
 replace hn0 : n = 61 := hn0
 by_cases hsh : l.length < 2
 ·repeat (first | (refine OpsL.q (by first | exact omv | exact oasg | exact olen) ?_) | refine Trip.seq ?_ | refine Trip.ops ?_ | (refine OpsL.nil ?_; (change Trip _ _ _ _ _)))
  refine OpsL.lssT ?_
  repeat (refine OpsL.nil ?_; (change Trip _ _ _ _ _))
  refine Trip.ifT ?_
  repeat (first | (refine OpsL.q (by first | exact omv | exact oasg) ?_) | refine Trip.seq ?_ | refine Trip.ops ?_ | (refine Trip.ret ?_; (dsimp only)) | (refine OpsL.nil ?_; (change Trip _ _ _ _ _)))
  exact ⟨.inr rfl, _, res_tmp, rfl, by rw [dedF_one l (by omega)]; simp [tmPut, *], fun _ _ => rfl⟩
 ·obtain ⟨b, t, rfl⟩ : ∃ b t, ob = some (b, t) := by
   cases ob with
   | none => obtain ⟨_, _, h2⟩ := h; omega
   | some bt => exact ⟨_, _, rfl⟩
  obtain ⟨hv, _, rest, hH⟩ := h
  obtain ⟨rfl, _, rfl⟩ := Value.slice.inj hv
  have hS : ∀ (G : Heap) (A rest : List Value), G b = some (.cells (A ++ rest) 4 (some t) false (some 46)) → ∀ k, k < l.length → aSlice Tryz.prog G 27 (.slice (some ⟨b, 0, some t⟩) l.length l.length) (some (.int .i64 k)) none none = some (.slice (some ⟨b, 0 + k * 4, some t⟩) (l.length - k) (l.length - k)) := fun G A rest hG k hk => by
   have := aSlice_tagged (P := Tryz.prog) (H := G) (t := 27) (el := 46) (sz := 4) (a := ⟨b, 0, some t⟩) (len := l.length) (cap := l.length) (l := k) (h := l.length) (tg := t) (lo := some (.int .i64 k)) (hi := none) (by exact rfl) (by exact rfl) hG rfl rfl rfl (.inr ⟨.i64, rfl⟩) (.inl ⟨rfl, rfl⟩) (by omega) (Nat.le_refl _)
   rw [if_neg (by omega)] at this
   exact this
  have hS2 : ∀ (G : Heap) (A rest : List Value), G b = some (.cells (A ++ rest) 4 (some t) false (some 46)) → ∀ k, k ≤ l.length → aSlice Tryz.prog G 27 (.slice (some ⟨b, 0, some t⟩) l.length l.length) none (some (.int .i64 k)) none = some (.slice (some ⟨b, 0, some t⟩) k k) := fun G A rest hG k hk => by
   have := aSlice_tagged (P := Tryz.prog) (H := G) (t := 27) (el := 46) (sz := 4) (a := ⟨b, 0, some t⟩) (len := l.length) (cap := l.length) (l := 0) (h := k) (tg := t) (lo := none) (hi := some (.int .i64 k)) (by exact rfl) (by exact rfl) hG rfl rfl rfl (.inl ⟨rfl, rfl⟩) (.inr ⟨.i64, rfl⟩) (Nat.zero_le _) hk
   simpa using this
  repeat (first | (refine OpsL.q (by first | exact omv | exact oasg | exact olen) ?_) | refine Trip.seq ?_ | refine Trip.ops ?_ | (refine OpsL.nil ?_; (change Trip _ _ _ _ _)))
  refine OpsL.lssF ?_
  repeat (refine OpsL.nil ?_; (change Trip _ _ _ _ _))
  refine Trip.ifF ?_
  repeat (first | refine OpsL.q (by exact oasg) ?_ | refine Trip.seq ?_ | refine Trip.ops ?_ | refine Trip.block ?_ | (refine Trip.skip ?_; (change Trip _ _ _ _ _)) | (refine OpsL.nil ?_; (change Trip _ _ _ _ _)))
  refine Trip.inv (fun (k : Nat) st => ∃ (tm : Nat → Value), st = ⟨tm, n, H, nx⟩ ∧ tm 0 = .slice (some ⟨b, 0, some t⟩) l.length l.length ∧ tm 3 = .int .i64 k ∧ 1 ≤ k ∧ k ≤ l.length ∧ ∀ i (h : i < l.length), 0 < i → i < k → l[i - 1] ≠ l[i]) (fun k => l.length - k) 1 ?_ ?_
  ·exact ⟨_, rfl, by simp [tmPut, *], by simp [tmPut], by omega, by omega, fun i h h0 h1 => by omega⟩
  ·clear e0
   rintro k st ⟨tm, rfl, e0, e3, hk1, hk2, hne⟩
   by_cases hlt : k < l.length
   ·repeat (first | (refine OpsL.q (by first | exact omv | exact olen) ?_) | refine Trip.seq ?_ | refine Trip.ops ?_)
    refine OpsL.lssT ?_
    repeat (refine OpsL.nil ?_; (change Trip _ _ _ _ _))
    refine Trip.ifT ?_
    repeat (first | refine Trip.seq ?_ | refine Trip.block ?_ | (refine Trip.skip ?_; (change Trip _ _ _ _ _)))
    have g1 := getc_flat enc4_len hH hlt
    have g2 := getc_flat enc4_len hH (show k - 1 < l.length by omega)
    refine Trip.mono (Q := fun e st => e = .normal ∧ ∃ (tm' : Nat → Value), st = ⟨tm', n, H, nx⟩ ∧ tm' 25 = .bool (decide (l[k] = l[k - 1])) ∧ tm' 0 = .slice (some ⟨b, 0, some t⟩) l.length l.length ∧ tm' 3 = .int .i64 k) ?_ ?_
    ·refine OpsK.drawn (K := fun _ _ => True) mixedO (by kernel_rfl) (by kernel_rfl) trivial ?_
     refine OpsK.one rfl (by kernel_rfl) ?_
     repeat (first | refine OpsL.q (by exact omv) ?_ | (refine OpsL.nil ?_; (skip)))
     refine OpsK.one rfl (by kernel_rfl) ?_
     repeat (first | refine OpsL.q (by exact omv) ?_ | (refine OpsL.nil ?_; (skip)))
     refine OpsK.one rfl (by kernel_rfl) ?_
     repeat (first | refine OpsL.q (by exact oixa) ?_ | (refine OpsL.nil ?_; (dsimp only)))
     refine OpsK.one rfl (by kernel_rfl) ?_
     refine OpsL.q (aop_loadAgg (k := 4) (vs := enc4 l[k]) (by simp only [ASt.ev, tmPut, ↓reduceIte, Nat.reduceEqDiff, *]; rfl) (by exact rfl) rfl (by exact rfl) (by show getc H ⟨b, 0 + (k : Int).toNat * 4, some t⟩ 4 = _; rw [Int.toNat_natCast]; exact g1)) ?_
     repeat (refine OpsL.nil ?_; (skip))
     refine OpsK.one rfl (by kernel_rfl) ?_
     repeat (first | refine OpsL.q (by exact omv) ?_ | (refine OpsL.nil ?_; (skip)))
     refine OpsK.one rfl (by kernel_rfl) ?_
     repeat (first | refine OpsL.q (by exact omv) ?_ | (refine OpsL.nil ?_; (skip)))
     refine OpsK.one rfl (by kernel_rfl) ?_
     repeat (first | refine OpsL.q (by exact osub) ?_ | (refine OpsL.nil ?_; (skip)))
     refine OpsK.one rfl (by kernel_rfl) ?_
     repeat (first | refine OpsL.q (by exact oixa) ?_ | (refine OpsL.nil ?_; (dsimp only)))
     refine OpsK.one rfl (by kernel_rfl) ?_
     refine OpsL.q (aop_loadAgg (k := 4) (vs := enc4 l[k - 1]) (by simp only [ASt.ev, tmPut, ↓reduceIte, Nat.reduceEqDiff, *]; rfl) (by exact rfl) rfl (by exact rfl) (by show getc H ⟨b, 0 + ((k : Int) - 1).toNat * 4, some t⟩ 4 = _; rw [show ((k : Int) - 1).toNat = k - 1 by omega]; exact g2)) ?_
     repeat (refine OpsL.nil ?_; (skip))
     refine OpsK.one rfl (by kernel_rfl) ?_
     refine OpsL.q (aop_eqlA (r := decide (l[k] = l[k - 1])) (by simp only [ASt.ev, tmPut, ↓reduceIte, Nat.reduceEqDiff, *]; done) (by simp only [ASt.ev, tmPut, ↓reduceIte, Nat.reduceEqDiff, *]; done) (by kernel_rfl) (eqC _ _ _ _ rfl)) ?_
     repeat (refine OpsL.nil ?_; (skip))
     refine OpsK.nil ?_
     exact ⟨rfl, _, rfl, by simp [tmPut], by simp [tmPut, *], by simp [tmPut, *]⟩
    ·rintro e st ⟨rfl, tm', rfl, e25, e0, e3⟩
     dsimp only
     clear g1 g2
     by_cases heq : l[k] = l[k - 1]
     ·rw [decide_eq_true heq] at e25
      repeat fail
      refine Trip.ifT ?_
      repeat (first | refine OpsL.q (by exact omv) ?_ | refine Trip.seq ?_ | refine Trip.ops ?_)
      refine OpsL.q (aop_slice (a := some (.int .i64 k)) (b := none) (c := none) (by simp only [ASt.ev, tmPut, ↓reduceIte, Nat.reduceEqDiff, *]; done) (by simp only [evOpt, ASt.ev, tmPut, ↓reduceIte, reduceIte, Option.some.injEq, Nat.reduceEqDiff, Option.map_some, *]) rfl rfl (hS H _ _ hH k hlt)) ?_
      repeat (first | refine OpsL.q (by exact oasg) ?_ | refine Trip.seq ?_ | refine Trip.ops ?_ | refine Trip.block ?_ | (refine OpsL.nil ?_; (change Trip _ _ _ _ _)))
      have hd0 : dedF (l.take (k + 1)) = l.take k := by
       rw [dedF_take l (by omega) hlt, if_pos heq.symm]
       exact dedF_same l k (by omega) (fun i hi a c => hne i hi a c)
      refine Trip.inv (fun (k2 : Nat) st => ∃ (tm : Nat → Value) (H' : Heap) (A : List (R4)) (rest : List Value) (kk : Nat), st = ⟨tm, n, H', nx⟩ ∧ H' b = some (.cells (A.flatMap enc4 ++ rest) 4 (some t) false (some 46)) ∧ A.length = l.length ∧ (∀ i, i ≠ b → H' i = H i) ∧ tm 0 = .slice (some ⟨b, 0, some t⟩) l.length l.length ∧ tm 3 = .int .i64 kk ∧ tm 4 = .slice (some ⟨b, 0 + k * 4, some t⟩) (l.length - k) (l.length - k) ∧ tm 5 = .int .i64 k2 ∧
       1 ≤ kk ∧ kk ≤ k + k2 - 1 ∧ 1 ≤ k2 ∧ k2 ≤ l.length - k ∧ A.take kk = dedF (l.take (k + k2)) ∧ A.drop (k + k2 - 1) = l.drop (k + k2 - 1)) (fun k2 => l.length - k - k2) 1 ?_ ?_
      ·exact ⟨_, H, l, rest, k, rfl, hH, rfl, fun _ _ => rfl, by simp [tmPut, *], by simp [tmPut, *], by simp [tmPut, *], by simp [tmPut, *], by omega, by omega, by omega, by omega, hd0.symm, rfl⟩
      ·clear e0 e3 e25
       rintro k2 st ⟨tm, H', A, rest', kk, rfl, hG, hAl, hsame, e0, e3, e4, e5, k1, k3, k4, k5, hta, hda⟩
       by_cases hlt2 : k + k2 < l.length
       ·have hA1 : A[k + k2]'(by omega) = l[k + k2] := by
         have : (A.drop (k + k2 - 1))[1]? = (l.drop (k + k2 - 1))[1]? := by rw [hda]
         rw [List.getElem?_drop, List.getElem?_drop, show k + k2 - 1 + 1 = k + k2 by omega, List.getElem?_eq_getElem (by omega), List.getElem?_eq_getElem hlt2] at this
         exact Option.some.inj this
        have hA2 : A[k + k2 - 1]'(by omega) = l[k + k2 - 1] := by
         have : (A.drop (k + k2 - 1))[0]? = (l.drop (k + k2 - 1))[0]? := by rw [hda]
         rw [List.getElem?_drop, List.getElem?_drop, Nat.add_zero, List.getElem?_eq_getElem (by omega), List.getElem?_eq_getElem (by omega)] at this
         exact Option.some.inj this
        have hstep := dedF_take l (m := k + k2) (by omega) hlt2
        have hdn : A.drop (k + (k2 + 1) - 1) = l.drop (k + (k2 + 1) - 1) := by
         have := congrArg (List.drop 1) hda
         rw [List.drop_drop, List.drop_drop] at this
         rw [show k + (k2 + 1) - 1 = k + k2 - 1 + 1 by omega]; exact this
        have g1 := getc_flat enc4_len hG (show k + k2 < A.length by omega)
        have g2 := getc_flat enc4_len hG (show k + k2 - 1 < A.length by omega)
        rw [hA1] at g1
        rw [hA2] at g2
        replace g1 : getc H' ⟨b, 0 + k * 4 + (k2 : Int).toNat * 4, some t⟩ 4 = some (enc4 l[k + k2]) := by
         rw [Int.toNat_natCast, show 0 + k * 4 + k2 * 4 = 0 + (k + k2) * 4 by omega]; exact g1
        replace g2 : getc H' ⟨b, 0 + k * 4 + ((k2 : Int) - 1).toNat * 4, some t⟩ 4 = some (enc4 l[k + k2 - 1]) := by
         rw [show 0 + k * 4 + ((k2 : Int) - 1).toNat * 4 = 0 + (k + k2 - 1) * 4 by omega]; exact g2
        repeat (first | (refine OpsL.q (by first | exact omv | exact olen) ?_) | refine Trip.seq ?_ | refine Trip.ops ?_)
        refine OpsL.lssT ?_
        repeat (refine OpsL.nil ?_; (change Trip _ _ _ _ _))
        refine Trip.ifT ?_
        repeat (first | refine Trip.seq ?_ | refine Trip.block ?_ | (refine Trip.skip ?_; (change Trip _ _ _ _ _)))
        refine Trip.mono (Q := fun e st => e = .normal ∧ ∃ (tm' : Nat → Value), st = ⟨tm', n, H', nx⟩ ∧ tm' 44 = .bool (!decide (l[k + k2] = l[k + k2 - 1])) ∧ tm' 0 = .slice (some ⟨b, 0, some t⟩) l.length l.length ∧ tm' 3 = .int .i64 kk ∧ tm' 4 = .slice (some ⟨b, 0 + k * 4, some t⟩) (l.length - k) (l.length - k) ∧ tm' 5 = .int .i64 k2) ?_ ?_
        ·refine OpsK.drawn (K := fun _ _ => True) mixedO (by kernel_rfl) (by kernel_rfl) trivial ?_
         refine OpsK.one rfl (by kernel_rfl) ?_
         repeat (first | refine OpsL.q (by exact omv) ?_ | (refine OpsL.nil ?_; (skip)))
         refine OpsK.one rfl (by kernel_rfl) ?_
         repeat (first | refine OpsL.q (by exact omv) ?_ | (refine OpsL.nil ?_; (skip)))
         refine OpsK.one rfl (by kernel_rfl) ?_
         repeat (first | refine OpsL.q (by exact oixa) ?_ | (refine OpsL.nil ?_; (dsimp only)))
         refine OpsK.one rfl (by kernel_rfl) ?_
         refine OpsL.q (aop_loadAgg (k := 4) (vs := enc4 l[k + k2]) (by simp only [ASt.ev, tmPut, ↓reduceIte, Nat.reduceEqDiff, *]; rfl) (by exact rfl) rfl (by exact rfl) g1) ?_
         repeat (refine OpsL.nil ?_; (skip))
         refine OpsK.one rfl (by kernel_rfl) ?_
         repeat (first | refine OpsL.q (by exact omv) ?_ | (refine OpsL.nil ?_; (skip)))
         refine OpsK.one rfl (by kernel_rfl) ?_
         repeat (first | refine OpsL.q (by exact omv) ?_ | (refine OpsL.nil ?_; (skip)))
         refine OpsK.one rfl (by kernel_rfl) ?_
         repeat (first | refine OpsL.q (by exact osub) ?_ | (refine OpsL.nil ?_; (skip)))
         refine OpsK.one rfl (by kernel_rfl) ?_
         repeat (first | refine OpsL.q (by exact oixa) ?_ | (refine OpsL.nil ?_; (dsimp only)))
         refine OpsK.one rfl (by kernel_rfl) ?_
         refine OpsL.q (aop_loadAgg (k := 4) (vs := enc4 l[k + k2 - 1]) (by simp only [ASt.ev, tmPut, ↓reduceIte, Nat.reduceEqDiff, *]; rfl) (by exact rfl) rfl (by exact rfl) g2) ?_
         repeat (refine OpsL.nil ?_; (skip))
         refine OpsK.one rfl (by kernel_rfl) ?_
         refine OpsL.q (aop_neqA (r := decide (l[k + k2] = l[k + k2 - 1])) (by simp only [ASt.ev, tmPut, ↓reduceIte, Nat.reduceEqDiff, *]; done) (by simp only [ASt.ev, tmPut, ↓reduceIte, Nat.reduceEqDiff, *]; done) (by kernel_rfl) (eqC _ _ _ _ rfl)) ?_
         repeat (refine OpsL.nil ?_; (skip))
         refine OpsK.nil ?_
         exact ⟨rfl, _, rfl, by simp [tmPut], by simp [tmPut, *], by simp [tmPut, *], by simp [tmPut, *], by simp [tmPut, *]⟩
        ·rintro e st ⟨rfl, tm', rfl, e44, e0, e3, e4, e5⟩
         dsimp only
         by_cases he2 : l[k + k2] = l[k + k2 - 1]
         ·rw [decide_eq_true he2] at e44
          rw [if_pos he2.symm] at hstep
          repeat fail
          refine Trip.ifF ?_
          repeat (first | (refine OpsL.q (by first | exact omv | exact oasg | exact oadd) ?_) | refine Trip.ops ?_ | (refine Trip.skip ?_; ((repeat (refine blockExit_normal ?_)); change Trip _ _ _ _ _)) | (refine OpsL.nil ?_; (dsimp only)))
          exact ⟨k2 + 1, ⟨_, H', A, rest', kk, rfl, hG, hAl, hsame, by simp [tmPut, *], by simp [tmPut, *], by simp [tmPut, *], by simp [tmPut, *], k1, by omega, by omega, by omega, by rw [hta, ← hstep]; rfl, hdn⟩, by omega⟩
         ·rw [decide_eq_false he2] at e44
          rw [if_neg (fun h => he2 h.symm)] at hstep
          repeat fail
          refine Trip.ifT ?_
          repeat (first | (refine OpsL.q (by first | exact omv | exact oixa) ?_) | refine Trip.seq ?_ | refine Trip.ops ?_)
          refine OpsL.q (aop_loadAgg (k := 4) (vs := enc4 l[k + k2]) (by simp only [ASt.ev, tmPut, ↓reduceIte, Nat.reduceEqDiff, *]; rfl) (by exact rfl) rfl (by exact rfl) g1) ?_
          repeat (refine OpsL.q (by exact oixa) ?_)
          refine OpsL.upd (aop_store (u := .agg (enc4 l[k + k2]).toArray) (o := .cells ((A.set kk l[k + k2]).flatMap enc4 ++ rest') 4 (some t) false (some 46)) (by simp only [ASt.ev, tmPut, ↓reduceIte, Nat.reduceEqDiff, *]; rfl) (by simp only [ASt.ev, tmPut, ↓reduceIte, Nat.reduceEqDiff, *]; done) (by exact rfl) rfl (by
           have := setc_flat (x := l[k + k2]) enc4_len enc4_one hG (show kk < A.length by omega)
           show setc H' ⟨b, 0 + (kk : Int).toNat * 4, some t⟩ (enc4 l[k + k2]) = _
           rw [Int.toNat_natCast]; exact this)) ?_
          repeat (first | (refine OpsL.q (by first | exact omv | exact oasg | exact oadd) ?_) | refine Trip.ops ?_ | (refine OpsL.nil ?_; ((repeat (refine blockExit_normal ?_)); first | (change Trip _ _ _ _ _) | (dsimp only))))
          refine ⟨k2 + 1, ⟨_, _, A.set kk l[k + k2], rest', kk + 1, rfl, Heap.put_eq, by rw [List.length_set]; exact hAl, fun i hi => by show Heap.put H' b _ i = _; rw [Heap.put_ne hi]; exact hsame i hi, by simp [tmPut, *], by simp [tmPut, *], by simp [tmPut, *], by simp [tmPut, *], by omega, by omega, by omega, by omega, ?_, ?_⟩, by omega⟩
          ·rw [show k + (k2 + 1) = k + k2 + 1 by omega, hstep, ← hta, List.take_add_one, List.getElem?_set_self (by omega), List.take_set_of_le (Nat.le_refl _)]
           rfl
          ·rw [List.drop_set_of_lt (by omega)]
           exact hdn
       ·have hk2 : k2 = l.length - k := by omega
        rw [show k + k2 = l.length by omega, List.take_length] at hta
        repeat (first | (refine OpsL.q (by first | exact omv | exact olen) ?_) | refine Trip.seq ?_ | refine Trip.ops ?_)
        refine OpsL.lssF ?_
        repeat (refine OpsL.nil ?_; (change Trip _ _ _ _ _))
        refine Trip.ifF ?_
        repeat (first | refine OpsL.q (by exact omv) ?_ | refine Trip.seq ?_ | refine Trip.ops ?_ | (refine Trip.exit ?_; ((repeat (refine blockExit_eq ?_)); change Trip _ _ _ _ _)))
        refine OpsL.q (aop_slice (a := some (.int .i64 kk)) (b := none) (c := none) (by simp only [ASt.ev, tmPut, ↓reduceIte, Nat.reduceEqDiff, *]; done) (by simp only [evOpt, ASt.ev, tmPut, ↓reduceIte, reduceIte, Option.some.injEq, Nat.reduceEqDiff, Option.map_some, *]) rfl rfl (hS H' _ _ hG kk (by omega))) ?_
        obtain ⟨rest2, hend⟩ := setc_end (k := kk) (z := [.int .i64 0, .int .i64 0, .int .i64 0, .int .i64 0]) enc4_len rfl rfl hG (by omega)
        rw [hAl, hta] at hend
        refine OpsL.clear (z := [.int .i64 0, .int .i64 0, .int .i64 0, .int .i64 0]) (by simp only [ASt.ev, tmPut, ↓reduceIte, Nat.reduceEqDiff, *]; rfl) (by exact rfl) (by exact rfl) (by omega) hend ?_
        repeat (first | refine OpsL.q (by exact omv) ?_ | refine Trip.seq ?_ | refine Trip.ops ?_ | (refine OpsL.nil ?_; (change Trip _ _ _ _ _)))
        have hlen : (dedF l).length = kk := by rw [← hta, List.length_take]; omega
        refine OpsL.q (aop_slice (a := none) (b := some (.int .i64 kk)) (c := none) (by simp only [ASt.ev, tmPut, ↓reduceIte, Nat.reduceEqDiff, *]; done) rfl (by simp only [evOpt, ASt.ev, tmPut, ↓reduceIte, reduceIte, Option.some.injEq, Nat.reduceEqDiff, Option.map_some, *]) rfl (hS2 _ _ rest2 Heap.put_eq kk (by omega))) ?_
        repeat (first | refine OpsL.q (by exact oasg) ?_ | (refine Trip.ret ?_; ((repeat (refine blockExit_ret ?_)); dsimp only)) | (refine OpsL.nil ?_; (change Trip _ _ _ _ _)))
        refine ⟨.inr rfl, _, res_tmp, rfl, ?_, fun i hi => ?_⟩
        ·refine ⟨by simp [tmPut, hlen], by rw [flat_len enc4_len], rest2, Heap.put_eq⟩
        ·show Heap.put H' b _ i = _
         rw [Heap.put_ne (hi b t rfl)]
         exact hsame i (hi b t rfl)
     ·rw [decide_eq_false heq] at e25
      repeat fail
      refine Trip.ifF ?_
      repeat (first | (refine OpsL.q (by first | exact omv | exact oasg | exact oadd) ?_) | refine Trip.ops ?_ | (refine Trip.skip ?_; ((repeat (refine blockExit_normal ?_)); change Trip _ _ _ _ _)) | (refine OpsL.nil ?_; (dsimp only)))
      refine ⟨k + 1, ⟨_, rfl, by simp [tmPut, *], by simp [tmPut, *], by omega, by omega, fun i hi h0 h1 => ?_⟩, by omega⟩
      by_cases hik : i = k
      ·subst hik
       exact fun hh => heq hh.symm
      ·exact hne i hi h0 (by omega)
   ·repeat (first | (refine OpsL.q (by first | exact omv | exact olen) ?_) | refine Trip.seq ?_ | refine Trip.ops ?_)
    refine OpsL.lssF ?_
    repeat (refine OpsL.nil ?_; (change Trip _ _ _ _ _))
    refine Trip.ifF ?_
    repeat (first | (refine OpsL.q (by first | exact omv | exact oasg) ?_) | refine Trip.seq ?_ | refine Trip.ops ?_ | (refine Trip.exit ?_; ((repeat (refine blockExit_eq ?_)); change Trip _ _ _ _ _)) | (refine Trip.ret ?_; (dsimp only)) | (refine OpsL.nil ?_; (change Trip _ _ _ _ _)))
    have hd := dedF_same l l.length (Nat.le_refl _) (fun i hi a c => hne i hi a (by omega))
    rw [List.take_length] at hd
    refine ⟨.inr rfl, _, res_tmp, rfl, ?_, fun _ _ => rfl⟩
    rw [hd]
    exact ⟨by simp [tmPut, *], by rw [flat_len enc4_len], rest, hH⟩
end Go.Proofs.YtjohiaoepbnicaaGreat
namespace Go.Proofs.YtjohiaoepbnicaaGreat
set_option linter.unusedSimpArgs false
set_option linter.unusedVariables false
open Go.RowKit Go.Am
attribute [local irreducible] aop OpsL Trip blockExit OpsD OpsK OpsR
theorem entersTidyC : Am.Enters Tryz.prog 49 := ⟨Tryz.f49, Tryz.func49, by kernel_rfl, by kernel_rfl⟩
theorem sortOwnC (W0 : World) {nx : Nat} {H : Heap} {ob : Option (Nat × Nat)} {v : Value} {l : List (R4)} (h : OwnC H ob v l) (hl : l.length ≤ 1000000) :
  ACalls Tryz.prog W0 73 [v, .func (.func 50) #[] #[]] nx H fun _ nx' H' => nx' = nx ∧ ∃ l' : List (R4), l'.Perm l ∧ SortedL lt4 l' ∧ OwnC H' ob v l' ∧ ∀ i, (∀ b t, ob = some (b, t) → i ≠ b) → H' i = H i := by
 cases ob with
 | none =>
  obtain ⟨rfl, _, hl0⟩ := h
  have hnil : l = [] := List.eq_nil_of_length_eq_zero hl0
  subst hnil
  intro C w args' hR ha
  obtain ⟨h1, h2⟩ := ha
  obtain ⟨v1, v2, rfl⟩ : ∃ v1 v2, args' = [v1, v2] := by
   match args', h1 with
   | [v1, v2], _ => exact ⟨v1, v2, rfl⟩
  have hv1 := h2 0 (by simp) (by simp)
  simp only [List.getElem_cons_zero] at hv1
  obtain rfl : v1 = .slice none 0 0 := by cases hv1; rfl
  refine (AnyF.slices_SortFunc_none { sortCL with } none 0 v2 w).mono ?_
  rintro e w' ⟨rfl, rfl⟩
  exact ⟨_, _, C, nx, H, rfl, ⟨rfl, [], List.Perm.refl _, List.Pairwise.nil, ⟨rfl, rfl, rfl⟩, fun _ _ => rfl⟩, hR, .tuple #[] #[] rfl (fun i h => absurd h (by simp)), Stp.refl _ _ _⟩
 | some bt =>
  obtain ⟨b, t⟩ := bt
  obtain ⟨rfl, _, rest, hH⟩ := h
  refine ACalls.weaken (sortCC W0 hH (by omega)) ?_
  rintro v nx' H' ⟨_, rfl, l', hp, hs, rfl⟩
  refine ⟨rfl, l', hp, hs, ⟨by rw [hp.length_eq], by rw [flat_len enc4_len], rest, Heap.put_eq⟩, fun i hi => Heap.put_ne (hi b t rfl)⟩
set_option maxRecDepth 20000 in
set_option maxHeartbeats 4000000 in
theorem tidyCC (W0 : World) {nx : Nat} {H : Heap} {v : Value} {l : List R4} (hr : AtC H v l) (hm : l.length ≤ 100000) :
  ACalls Tryz.prog W0 49 [v, .func (.func 50) #[] #[]] nx H fun v nx' H' => ∃ ob, OwnC H' ob v (tidyL lt4 l) ∧ Fresh nx H nx' H' ob := by
 refine ACalls.by_trip (fn := Tryz.f49) (c := _) Tryz.func49 rfl (fun tm n hn0 htm => ?_)
 have e0 : tm 0 = v := htm 0
 have e1 : tm 1 = .func (.func 50) #[] #[] := htm 1
 clear htm
 replace hn0 : n = 13 := hn0
 refine Trip.ok fun hok => ?_
 replace hok : ∀ id o, H id = some o → id < nx := hok
 obtain ⟨va, vc, rfl⟩ := hr.slice
 repeat (first | (refine OpsL.q (by first | exact omv | exact oasg) ?_) | refine Trip.seq ?_ | refine Trip.ops ?_ | (refine OpsL.nil ?_; (change Trip _ _ _ _ _)))
 refine OpsL.new (by subst_vars; decide) (aop_buildSlice (l := [(0, .slice va l.length vc)]) (r := (.slice (some ⟨nx, 0, none⟩) 1 1, .new (.cells [.slice va l.length vc] 1 none false (some 27)))) (by simp only [evParts, ASt.ev, tmPut, ↓reduceIte, reduceIte, Option.some.injEq, Nat.reduceEqDiff, *]) (by kernel_rfl)) ?_
 have hx0 : Ext nx H (nx + 1) (H.put nx (.cells [.slice va l.length vc] 1 none false (some 27))) := Ext.newPut
 have hin : RowsInC (H.put nx (.cells [.slice va l.length vc] 1 none false (some 27))) (.slice (some ⟨nx, 0, none⟩) 1 1) [(.slice va l.length vc, l)] := ⟨nx, rfl, Heap.put_eq, fun x hx => by rw [List.mem_singleton] at hx; subst hx; exact hr.ext hx0 hok⟩
 have hall : allOfC [(Value.slice va l.length vc, l)] = l := by simp [allOfC]
 refine OpsL.c1 (hf := entersConcC) (hc := (concCC W0 hin (by rw [hall]; exact hm) (by simp))) (h := ?_)
 rintro v1 nx1 H1 ⟨ob, ho1, hx1, hob1⟩
 rw [hall] at ho1
 repeat (first | (refine OpsL.q (by first | exact omv | exact oasg) ?_) | refine Trip.seq ?_ | refine Trip.ops ?_ | (refine OpsL.nil ?_; (change Trip _ _ _ _ _)))
 refine OpsL.c2 (hf := entersSortC) (hc := (sortOwnC W0 ho1 (by omega))) (h := ?_)
 rintro v2 nx2 H2 ⟨rfl, l', hp, hs, ho2, hsame2⟩
 repeat (first | refine OpsL.q (by exact omv) ?_ | refine Trip.seq ?_ | refine Trip.ops ?_ | (refine OpsL.nil ?_; (change Trip _ _ _ _ _)))
 refine OpsL.c1 (hf := entersCompC) (hc := (compCC W0 ho2 (by rw [hp.length_eq]; omega))) (h := ?_)
 rintro v3 nx3 H3 ⟨rfl, ho3, hsame3⟩
 repeat (first | refine OpsL.q (by exact oasg) ?_ | (refine Trip.ret ?_; (dsimp only)) | (refine OpsL.nil ?_; (change Trip _ _ _ _ _)))
 have heq := tidyL_eq ord4 (strictL_ded ord4 l' hs) (fun x => by rw [dedF_mem, hp.mem_iff] : ∀ x, x ∈ dedF l' ↔ x ∈ l)
 rw [heq] at ho3
 refine ⟨.inr rfl, _, res_tmp, ob, by simpa [tmPut] using ho3, hx0.trans ⟨hx1.1, fun i hi => ?_⟩, fun b t h => by have := hob1 b t h; omega⟩
 rw [hsame3 i (fun b t h => by have := (hob1 b t h).1; omega), hsame2 i (fun b t h => by have := (hob1 b t h).1; omega), hx1.2 i hi]
end Go.Proofs.YtjohiaoepbnicaaGreat
