import Derived.Test.YtjohiaoepbnicaaGreatQRM9
namespace Go.Proofs.YtjohiaoepbnicaaGreat
set_option linter.unusedSimpArgs false
set_option linter.unusedVariables false
open Go.RowKit Go.Am
attribute [local irreducible] aop OpsL Trip blockExit OpsD OpsK OpsR
structure OwnAut (H : Heap) (base nx : Nat) (a : Aut) (l : List (Option (Nat × Nat))) (vi vf vo vc vn : Value) : Prop where
 len : l.length = 5
 init : ∃ b, l[0]? = some b ∧ OwnI H b vi a.init
 final : ∃ b, l[1]? = some b ∧ OwnI H b vf a.final
 opens : ∃ b, l[2]? = some b ∧ OwnO H b vo a.opens
 closes : ∃ b, l[3]? = some b ∧ OwnC H b vc a.closes
 inners : ∃ b, l[4]? = some b ∧ OwnN H b vn a.inners
 sep : SepB base nx nx l
 hb : base ≤ nx
theorem OwnAut.in {H : Heap} {base nx : Nat} {a : Aut} {l : List (Option (Nat × Nat))} {vi vf vo vc vn : Value} (h : OwnAut H base nx a l vi vf vo vc vn) : AutIn H a vi vf vo vc vn := by
 obtain ⟨_, _, h1⟩ := h.init
 obtain ⟨_, _, h2⟩ := h.final
 obtain ⟨_, _, h3⟩ := h.opens
 obtain ⟨_, _, h4⟩ := h.closes
 obtain ⟨_, _, h5⟩ := h.inners
 exact ⟨rows_intsN (h1.at enc1_len), rows_intsN (h2.at enc1_len), h3.at e4_len, h4.at e4_len, h5.at e3_len⟩
theorem entersNorm : Am.Enters Tryz.prog 18 := ⟨Tryz.f18, Tryz.func18, by kernel_rfl, by kernel_rfl⟩
theorem sep5 {n0 n1 n2 n3 n4 n5 : Nat} {o1 o2 o3 o4 o5 : Option (Nat × Nat)} (h1 : ∀ b t, o1 = some (b, t) → n0 ≤ b ∧ b < n1) (h2 : ∀ b t, o2 = some (b, t) → n1 ≤ b ∧ b < n2) (h3 : ∀ b t, o3 = some (b, t) → n2 ≤ b ∧ b < n3) (h4 : ∀ b t, o4 = some (b, t) → n3 ≤ b ∧ b < n4) (h5 : ∀ b t, o5 = some (b, t) → n4 ≤ b ∧ b < n5)
  (k1 : n0 ≤ n1) (k2 : n1 ≤ n2) (k3 : n2 ≤ n3) (k4 : n3 ≤ n4) (k5 : n4 ≤ n5) : SepB n0 n5 n5 [o1, o2, o3, o4, o5] := by
 have key : ∀ (j b t : Nat), [o1, o2, o3, o4, o5][j]? = some (some (b, t)) → (j = 0 ∧ n0 ≤ b ∧ b < n1) ∨ (j = 1 ∧ n1 ≤ b ∧ b < n2) ∨ (j = 2 ∧ n2 ≤ b ∧ b < n3) ∨ (j = 3 ∧ n3 ≤ b ∧ b < n4) ∨ (j = 4 ∧ n4 ≤ b ∧ b < n5) := fun j b t h => by
  match j, h with
  | 0, h => exact .inl ⟨rfl, h1 b t (Option.some.inj h)⟩
  | 1, h => exact .inr (.inl ⟨rfl, h2 b t (Option.some.inj h)⟩)
  | 2, h => exact .inr (.inr (.inl ⟨rfl, h3 b t (Option.some.inj h)⟩))
  | 3, h => exact .inr (.inr (.inr (.inl ⟨rfl, h4 b t (Option.some.inj h)⟩)))
  | 4, h => exact .inr (.inr (.inr (.inr ⟨rfl, h5 b t (Option.some.inj h)⟩)))
  | j + 5, h => simp at h
 refine ⟨fun j b t h => ?_, fun j k b t b' t' hne ha hb => ?_⟩
 ·have := key j b t h; omega
 ·have := key j b t ha
  have := key k b' t' hb
  omega
def zeroN : List Value := [.int .i64 0, .int .i64 0, .slice none 0 0, .slice none 0 0, .slice none 0 0, .slice none 0 0, .slice none 0 0]
theorem _root_.Go.Am.SepB.base {base base' A nx : Nat} {l : List (Option (Nat × Nat))} (h : SepB base A nx l) (hb : base' ≤ base) : SepB base' A nx l := ⟨fun j b t hj => by have := h.1 j b t hj; exact ⟨by omega, this.2⟩, h.2⟩
set_option maxRecDepth 20000 in
set_option maxHeartbeats 4000000 in
theorem normC (W0 : World) {nx : Nat} {H : Heap} {a : Aut} {vi vf vo vc vn : Value} (ha : AutIn H a vi vf vo vc vn) (hn : AutLen a) :
  ACalls Tryz.prog W0 18 [.agg (autV a vi vf vo vc vn).toArray] nx H fun v nx' H' => ∃ l vi' vf' vo' vc' vn', v = .agg (autV (normA a) vi' vf' vo' vc' vn').toArray ∧ OwnAut H' nx nx' (normA a) l vi' vf' vo' vc' vn' ∧ Ext nx H nx' H' := by
 obtain ⟨ai, ci, rfl⟩ := ha.init.slice
 obtain ⟨af, cf, rfl⟩ := ha.final.slice
 obtain ⟨ao, co, rfl⟩ := ha.opens.slice
 obtain ⟨ac, cc, rfl⟩ := ha.closes.slice
 obtain ⟨an, cn, rfl⟩ := ha.inners.slice
 refine ACalls.by_trip (fn := Tryz.f18) (c := _) Tryz.func18 rfl (fun tm n hn0 htm => ?_)
 have e0 : tm 0 = .agg (autV a (.slice ai a.init.length ci) (.slice af a.final.length cf) (.slice ao a.opens.length co) (.slice ac a.closes.length cc) (.slice an a.inners.length cn)).toArray := htm 0
 clear htm
 replace hn0 : n = 23 := hn0
 refine Trip.ok fun hok => ?_
 replace hok : ∀ id o, H id = some o → id < nx := hok
 refine Trip.seq ?_
 refine Trip.ops ?_
 refine OpsL.new (by subst_vars; decide) (aop_box (by simp only [ASt.ev, tmPut, ↓reduceIte, Nat.reduceEqDiff, *]; rfl)) ?_
 refine OpsL.new (by subst_vars; decide) (aop_alloc (l := zeroN) (by kernel_rfl)) ?_
 obtain ⟨G, hG⟩ : ∃ G, G = (H.put nx (.cells (Value.agg (autV a (.slice ai a.init.length ci) (.slice af a.final.length cf) (.slice ao a.opens.length co) (.slice ac a.closes.length cc) (.slice an a.inners.length cn)).toArray).cells.toList 0 none false (some 30))).put (nx + 1) (.cells zeroN 0 none false (some 30)) := ⟨_, rfl⟩
 have hx0 : Ext nx H (nx + 1 + 1) G := by rw [hG]; exact Ext.newPut.trans Ext.newPut
 have hokG : ∀ id o, G id = some o → id < nx + 1 + 1 := by rw [hG]; exact ok_new (ok_new hok)
 have gx : G nx = some (.cells (autV a (.slice ai a.init.length ci) (.slice af a.final.length cf) (.slice ao a.opens.length co) (.slice ac a.closes.length cc) (.slice an a.inners.length cn)) 0 none false (some 30)) := by rw [hG, Heap.put_ne (by omega), Heap.put_eq]; rfl
 have gy : G (nx + 1) = some (.cells zeroN 0 none false (some 30)) := by rw [hG, Heap.put_eq]
 replace ha := ha.ext hx0 hok
 rw [← hG]
 clear hG e0
 repeat (first | refine Trip.seq ?_ | (refine OpsL.nil ?_; (change Trip _ _ _ _ _)))
 refine OpsR.drawn [6, 9, 12, 15, 18, 20] (K := fun nx1 H1 => H1 nx = some (.cells (autV a (.slice ai a.init.length ci) (.slice af a.final.length cf) (.slice ao a.opens.length co) (.slice ac a.closes.length cc) (.slice an a.inners.length cn)) 0 none false (some 30))) mixedO (by kernel_rfl) (by kernel_rfl) [0, 1, 2, 3, 4, 5, 7, 8, 10, 11, 13, 14, 16, 17, 6, 9, 12, 15, 18, 19, 20] (by kernel_rfl) gx ?_
 refine OpsR.one rfl rfl rfl (by kernel_rfl) ?_
 repeat (first | refine OpsL.q (by exact ofa) ?_ | (refine OpsL.nil ?_; (dsimp only)))
 refine OpsR.sp (v := .int .i64 a.N) rfl (by kernel_rfl) (by subst_vars; decide) gx (fun H2 nx2 hK => aop_load (by simp only [ASt.ev, tmPut, ↓reduceIte, Nat.reduceEqDiff, *]; rfl) (by exact rfl) rfl (by rw [Nat.zero_add]; exact cell_of hK rfl)) ?_
 refine OpsR.one rfl rfl rfl (by kernel_rfl) ?_
 repeat (first | refine OpsL.q (by exact ofa) ?_ | (refine OpsL.nil ?_; (dsimp only)))
 refine OpsR.sp (v := .int .i64 a.G) rfl (by kernel_rfl) (by subst_vars; decide) gx (fun H2 nx2 hK => aop_load (by simp only [ASt.ev, tmPut, ↓reduceIte, Nat.reduceEqDiff, *]; rfl) (by exact rfl) rfl (by rw [Nat.zero_add]; exact cell_of hK rfl)) ?_
 refine OpsR.one rfl rfl rfl (by kernel_rfl) ?_
 repeat (first | refine OpsL.q (by exact ofa) ?_ | (refine OpsL.nil ?_; (dsimp only)))
 refine OpsR.sp (v := .slice ai a.init.length ci) rfl (by kernel_rfl) (by subst_vars; decide) gx (fun H2 nx2 hK => aop_load (by simp only [ASt.ev, tmPut, ↓reduceIte, Nat.reduceEqDiff, *]; rfl) (by exact rfl) rfl (by rw [Nat.zero_add]; exact cell_of hK rfl)) ?_
 refine OpsR.one rfl rfl rfl (by kernel_rfl) ?_
 repeat (first | refine OpsL.q (by exact ofa) ?_ | (refine OpsL.nil ?_; (dsimp only)))
 refine OpsR.sp (v := .slice af a.final.length cf) rfl (by kernel_rfl) (by subst_vars; decide) gx (fun H2 nx2 hK => aop_load (by simp only [ASt.ev, tmPut, ↓reduceIte, Nat.reduceEqDiff, *]; rfl) (by exact rfl) rfl (by rw [Nat.zero_add]; exact cell_of hK rfl)) ?_
 refine OpsR.one rfl rfl rfl (by kernel_rfl) ?_
 repeat (first | refine OpsL.q (by exact ofa) ?_ | (refine OpsL.nil ?_; (dsimp only)))
 refine OpsR.sp (v := .slice ao a.opens.length co) rfl (by kernel_rfl) (by subst_vars; decide) gx (fun H2 nx2 hK => aop_load (by simp only [ASt.ev, tmPut, ↓reduceIte, Nat.reduceEqDiff, *]; rfl) (by exact rfl) rfl (by rw [Nat.zero_add]; exact cell_of hK rfl)) ?_
 refine OpsR.one rfl rfl rfl (by kernel_rfl) ?_
 repeat (first | refine OpsL.q (by exact ofa) ?_ | (refine OpsL.nil ?_; (dsimp only)))
 refine OpsR.sp (v := .slice ac a.closes.length cc) rfl (by kernel_rfl) (by subst_vars; decide) gx (fun H2 nx2 hK => aop_load (by simp only [ASt.ev, tmPut, ↓reduceIte, Nat.reduceEqDiff, *]; rfl) (by exact rfl) rfl (by rw [Nat.zero_add]; exact cell_of hK rfl)) ?_
 refine OpsR.one rfl rfl rfl (by kernel_rfl) ?_
 repeat (first | refine OpsL.q (by exact ofa) ?_ | (refine OpsL.nil ?_; (dsimp only)))
 refine OpsR.sp (v := .slice an a.inners.length cn) rfl (by kernel_rfl) (by subst_vars; decide) gx (fun H2 nx2 hK => aop_load (by simp only [ASt.ev, tmPut, ↓reduceIte, Nat.reduceEqDiff, *]; rfl) (by exact rfl) rfl (by rw [Nat.zero_add]; exact cell_of hK rfl)) ?_
 refine OpsR.act (by kernel_rfl) (ActStep.call2 rfl rfl (by subst_vars; decide) (by exact rfl) (by simp only [ASt.ev, tmPut, ↓reduceIte, Nat.reduceEqDiff, *]; done) (by simp only [ASt.ev, tmPut, ↓reduceIte, Nat.reduceEqDiff, *]; done) entersTidyI (tidyIC W0 (ints_rowsN ha.init) (by have := hn.init; omega)).ok ?_)
 rintro v1 n1 H1 ⟨⟨o1, w1, x1, b1⟩, ok1⟩
 have hxx1 : Ext (nx + 1 + 1) G n1 H1 := x1
 have gx1 : H1 nx = some (.cells (autV a (.slice ai a.init.length ci) (.slice af a.final.length cf) (.slice ao a.opens.length co) (.slice ac a.closes.length cc) (.slice an a.inners.length cn)) 0 none false (some 30)) := (hxx1.2 nx (by omega)).trans gx
 have ha1 := ha.ext hxx1 hokG
 obtain ⟨a1, c1, hv1⟩ := (w1.at enc1_len).slice
 subst hv1
 refine ⟨gx1, ?_⟩
 refine OpsR.act (by kernel_rfl) (ActStep.call2 rfl rfl (by subst_vars; decide) (by exact rfl) (by simp only [ASt.ev, tmPut, ↓reduceIte, Nat.reduceEqDiff, *]; done) (by simp only [ASt.ev, tmPut, ↓reduceIte, Nat.reduceEqDiff, *]; done) entersTidyI (tidyIC W0 (ints_rowsN ha1.final) (by have := hn.final; omega)).ok ?_)
 rintro v2 n2 H2 ⟨⟨o2, w2, x2, b2⟩, ok2⟩
 have hxx2 : Ext (nx + 1 + 1) G n2 H2 := hxx1.trans x2
 have gx2 : H2 nx = some (.cells (autV a (.slice ai a.init.length ci) (.slice af a.final.length cf) (.slice ao a.opens.length co) (.slice ac a.closes.length cc) (.slice an a.inners.length cn)) 0 none false (some 30)) := (hxx2.2 nx (by omega)).trans gx
 have ha2 := ha.ext hxx2 hokG
 obtain ⟨a2, c2, hv2⟩ := (w2.at enc1_len).slice
 subst hv2
 refine ⟨gx2, ?_⟩
 refine OpsR.act (by kernel_rfl) (ActStep.call2 rfl rfl (by subst_vars; decide) (by exact rfl) (by simp only [ASt.ev, tmPut, ↓reduceIte, Nat.reduceEqDiff, *]; done) (by simp only [ASt.ev, tmPut, ↓reduceIte, Nat.reduceEqDiff, *]; done) entersTidyO (tidyOC W0 ha2.opens (by have := hn.opens; omega)).ok ?_)
 rintro v3 n3 H3 ⟨⟨o3, w3, x3, b3⟩, ok3⟩
 have hxx3 : Ext (nx + 1 + 1) G n3 H3 := hxx2.trans x3
 have gx3 : H3 nx = some (.cells (autV a (.slice ai a.init.length ci) (.slice af a.final.length cf) (.slice ao a.opens.length co) (.slice ac a.closes.length cc) (.slice an a.inners.length cn)) 0 none false (some 30)) := (hxx3.2 nx (by omega)).trans gx
 have ha3 := ha.ext hxx3 hokG
 obtain ⟨a3, c3, hv3⟩ := (w3.at enc4_len).slice
 subst hv3
 refine ⟨gx3, ?_⟩
 refine OpsR.act (by kernel_rfl) (ActStep.call2 rfl rfl (by subst_vars; decide) (by exact rfl) (by simp only [ASt.ev, tmPut, ↓reduceIte, Nat.reduceEqDiff, *]; done) (by simp only [ASt.ev, tmPut, ↓reduceIte, Nat.reduceEqDiff, *]; done) entersTidyC (tidyCC W0 ha3.closes (by have := hn.closes; omega)).ok ?_)
 rintro v4 n4 H4 ⟨⟨o4, w4, x4, b4⟩, ok4⟩
 have hxx4 : Ext (nx + 1 + 1) G n4 H4 := hxx3.trans x4
 have gx4 : H4 nx = some (.cells (autV a (.slice ai a.init.length ci) (.slice af a.final.length cf) (.slice ao a.opens.length co) (.slice ac a.closes.length cc) (.slice an a.inners.length cn)) 0 none false (some 30)) := (hxx4.2 nx (by omega)).trans gx
 have ha4 := ha.ext hxx4 hokG
 obtain ⟨a4, c4, hv4⟩ := (w4.at enc4_len).slice
 subst hv4
 refine ⟨gx4, ?_⟩
 refine OpsR.act (by kernel_rfl) (ActStep.call2 rfl rfl (by subst_vars; decide) (by exact rfl) (by simp only [ASt.ev, tmPut, ↓reduceIte, Nat.reduceEqDiff, *]; done) (by simp only [ASt.ev, tmPut, ↓reduceIte, Nat.reduceEqDiff, *]; done) entersTidyN (tidyNC W0 ha4.inners (by have := hn.inners; omega)).ok ?_)
 rintro v5 n5 H5 ⟨⟨o5, w5, x5, b5⟩, ok5⟩
 have hxx5 : Ext (nx + 1 + 1) G n5 H5 := hxx4.trans x5
 have gx5 : H5 nx = some (.cells (autV a (.slice ai a.init.length ci) (.slice af a.final.length cf) (.slice ao a.opens.length co) (.slice ac a.closes.length cc) (.slice an a.inners.length cn)) 0 none false (some 30)) := (hxx5.2 nx (by omega)).trans gx
 have ha5 := ha.ext hxx5 hokG
 obtain ⟨a5, c5, hv5⟩ := (w5.at enc3_len).slice
 subst hv5
 refine ⟨gx5, ?_⟩
 refine OpsR.one rfl rfl rfl (by kernel_rfl) ?_
 refine OpsL.q (aop_build (v := .agg (autV (normA a) (.slice a1 (tidyL lt1 a.init).length c1) (.slice a2 (tidyL lt1 a.final).length c2) (.slice a3 (tidyL lt4 a.opens).length c3) (.slice a4 (tidyL lt4 a.closes).length c4) (.slice a5 (tidyL lt3 a.inners).length c5)).toArray) (l := [(0, .int .i64 a.N), (1, .int .i64 a.G), (2, .slice a1 (tidyL lt1 a.init).length c1), (3, .slice a2 (tidyL lt1 a.final).length c2), (4, .slice a3 (tidyL lt4 a.opens).length c3), (5, .slice a4 (tidyL lt4 a.closes).length c4), (6, .slice a5 (tidyL lt3 a.inners).length c5)]) (by simp only [evParts, ASt.ev, tmPut, ↓reduceIte, reduceIte, Option.some.injEq, Nat.reduceEqDiff, *]) (by kernel_rfl)) ?_
 refine OpsL.nil ?_
 refine OpsR.act (by kernel_rfl) (ActStep.walk rfl rfl ?_)
 have gy5 : H5 (nx + 1) = some (.cells zeroN 0 none false (some 30)) := (hxx5.2 (nx + 1) (by omega)).trans gy
 refine OpsL.upd (aop_store (k := 7) (by simp only [ASt.ev, tmPut, ↓reduceIte, Nat.reduceEqDiff, *]; rfl) (by simp only [ASt.ev, tmPut, ↓reduceIte, Nat.reduceEqDiff, *]; rfl) (by exact rfl) rfl (o := .cells (autV (normA a) (.slice a1 (tidyL lt1 a.init).length c1) (.slice a2 (tidyL lt1 a.final).length c2) (.slice a3 (tidyL lt4 a.opens).length c3) (.slice a4 (tidyL lt4 a.closes).length c4) (.slice a5 (tidyL lt3 a.inners).length c5)) 0 none false (some 30)) (setc_allN (vs := autV (normA a) (.slice a1 (tidyL lt1 a.init).length c1) (.slice a2 (tidyL lt1 a.final).length c2) (.slice a3 (tidyL lt4 a.opens).length c3) (.slice a4 (tidyL lt4 a.closes).length c4) (.slice a5 (tidyL lt3 a.inners).length c5)) gy5 rfl rfl)) ?_
 refine OpsL.nil ⟨by show Heap.put H5 (nx + 1) _ nx = _; rw [Heap.put_ne (by omega)]; exact gx5, ?_⟩
 refine OpsR.nil ?_
 (change Trip _ _ _ _ _)
 repeat (refine Trip.ret ?_; (dsimp only))
 have hk1 := x1.1
 have hk2 := x2.1
 have hk3 := x3.1
 have hk4 := x4.1
 have hk5 := x5.1
 have hH : ∀ i, i ≠ nx + 1 → (H5.put (nx + 1) (.cells (autV (normA a) (.slice a1 (tidyL lt1 a.init).length c1) (.slice a2 (tidyL lt1 a.final).length c2) (.slice a3 (tidyL lt4 a.opens).length c3) (.slice a4 (tidyL lt4 a.closes).length c4) (.slice a5 (tidyL lt3 a.inners).length c5)) 0 none false (some 30))) i = H5 i := fun i hi => Heap.put_ne hi
 have hrd : readAt Tryz.prog (H5.put (nx + 1) (.cells (autV (normA a) (.slice a1 (tidyL lt1 a.init).length c1) (.slice a2 (tidyL lt1 a.final).length c2) (.slice a3 (tidyL lt4 a.opens).length c3) (.slice a4 (tidyL lt4 a.closes).length c4) (.slice a5 (tidyL lt3 a.inners).length c5)) 0 none false (some 30))) 30 ⟨nx + 1, 0, none⟩ = some (.agg (autV (normA a) (.slice a1 (tidyL lt1 a.init).length c1) (.slice a2 (tidyL lt1 a.final).length c2) (.slice a3 (tidyL lt4 a.opens).length c3) (.slice a4 (tidyL lt4 a.closes).length c4) (.slice a5 (tidyL lt3 a.inners).length c5)).toArray) := readAt_agg (k := 7) (by exact rfl) (by exact rfl) (by exact rfl) (getc_all Heap.put_eq rfl)
 refine ⟨.inr rfl, _, res_cell (a := ⟨nx + 1, 0, none⟩) (by simp [tmPut]) hrd, [o1, o2, o3, o4, o5], _, _, _, _, _, rfl, ⟨rfl, ?_, ?_, ?_, ?_, ?_, ?_, by omega⟩, ?_⟩
 ·exact ⟨_, rfl, OwnRow.same (fun b t h => hH b (by have := b1 b t h; omega)) (OwnOf.ext (((x2.trans x3).trans x4).trans x5) (fun b t h => (b1 b t h).2) w1)⟩
 ·exact ⟨_, rfl, OwnRow.same (fun b t h => hH b (by have := b2 b t h; omega)) (OwnOf.ext ((x3.trans x4).trans x5) (fun b t h => (b2 b t h).2) w2)⟩
 ·exact ⟨_, rfl, OwnRow.same (fun b t h => hH b (by have := b3 b t h; omega)) (OwnOf.ext (x4.trans x5) (fun b t h => (b3 b t h).2) w3)⟩
 ·exact ⟨_, rfl, OwnRow.same (fun b t h => hH b (by have := b4 b t h; omega)) (OwnOf.ext x5 (fun b t h => (b4 b t h).2) w4)⟩
 ·exact ⟨_, rfl, OwnRow.same (fun b t h => hH b (by have := b5 b t h; omega)) w5⟩
 ·refine (sep5 (n0 := nx + 1 + 1) b1 b2 b3 b4 b5 hk1 hk2 hk3 hk4 hk5).base (by omega)
 ·exact ⟨by omega, fun i hi => by rw [hH i (by omega), hxx5.2 i (by omega), hx0.2 i hi]⟩
end Go.Proofs.YtjohiaoepbnicaaGreat
namespace Go.Proofs.YtjohiaoepbnicaaGreat
set_option linter.unusedSimpArgs false
set_option linter.unusedVariables false
open Go.Am Go.RowKit
attribute [local irreducible] aop OpsL Trip blockExit OpsD
set_option maxRecDepth 20000 in
set_option maxHeartbeats 4000000 in
theorem rulesC (W0 : World) {nx : Nat} {H : Heap} {a : Aut} {vi vf vo vc vn : Value} (ha : AutIn H a vi vf vo vc vn) (hl : AutLen a) :
  ACalls Tryz.prog W0 30 [.agg (autV a vi vf vo vc vn).toArray] nx H fun v nx' H' => v = .int .i64 (((a.opens.length : Int) + a.closes.length) + a.inners.length) ∧ Ext nx H nx' H' := by
 obtain ⟨oa, oc, rfl⟩ := ha.opens.slice
 obtain ⟨ca, cc, rfl⟩ := ha.closes.slice
 obtain ⟨na, nc, rfl⟩ := ha.inners.slice
 have q1 := hl.opens
 have q2 := hl.closes
 have q3 := hl.inners
 refine ACalls.by_trip (fn := Tryz.f30) (c := _) Tryz.func30 rfl (fun tm n hn0 htm => ?_)
 have e0 : tm 0 = .agg (autV a vi vf (.slice oa a.opens.length oc) (.slice ca a.closes.length cc) (.slice na a.inners.length nc)).toArray := htm 0
 clear htm
 replace hn0 : n = 14 := hn0
 refine Trip.seq ?_
 refine Trip.ops ?_
 refine OpsL.new (by subst_vars; decide) (aop_box (by simp only [ASt.ev, tmPut, ↓reduceIte, Nat.reduceEqDiff, *]; rfl)) ?_
 obtain ⟨F, hF⟩ : ∃ F, F = H.put nx (.cells (Value.agg (autV a vi vf (.slice oa a.opens.length oc) (.slice ca a.closes.length cc) (.slice na a.inners.length nc)).toArray).cells.toList 0 none false (some 30)) := ⟨_, rfl⟩
 have hx0 : Ext nx H (nx + 1) F := by rw [hF]; exact Ext.newPut
 have hFn : F nx = some (.cells (autV a vi vf (.slice oa a.opens.length oc) (.slice ca a.closes.length cc) (.slice na a.inners.length nc)) 0 none false (some 30)) := by rw [hF, Heap.put_eq]; rfl
 have g4 : cellAt F ⟨nx, 4, none⟩ (.slice oa a.opens.length oc) := cell_of hFn rfl
 have g5 : cellAt F ⟨nx, 5, none⟩ (.slice ca a.closes.length cc) := cell_of hFn rfl
 have g6 : cellAt F ⟨nx, 6, none⟩ (.slice na a.inners.length nc) := cell_of hFn rfl
 rw [← hF]
 clear hF
 repeat' (first | (refine OpsL.q (by first | exact oasg | exact oadd | exact olen | exact ofa | exact old) ?_) | refine Trip.seq ?_ | refine Trip.ops ?_ | (refine Trip.ret ?_; (dsimp only)) | (refine OpsL.nil ?_; (change Trip _ _ _ _ _)))
 exact ⟨.inr rfl, _, res_tmp, by simp [tmPut], hx0⟩
set_option maxRecDepth 20000 in
set_option maxHeartbeats 4000000 in
theorem sizeC (W0 : World) {nx : Nat} {H : Heap} {a : Aut} {vi vf vo vc vn : Value} (ha : AutIn H a vi vf vo vc vn) (hl : AutLen a) :
  ACalls Tryz.prog W0 40 [.agg (autV a vi vf vo vc vn).toArray] nx H fun v nx' H' => v = .bool (sizeF a) ∧ Ext nx H nx' H' := by
 refine ACalls.by_trip (fn := Tryz.f40) (c := _) Tryz.func40 rfl (fun tm n hn0 htm => ?_)
 have e0 : tm 0 = .agg (autV a vi vf vo vc vn).toArray := htm 0
 clear htm
 replace hn0 : n = 16 := hn0
 refine Trip.ok fun hok => ?_
 replace hok : ∀ id o, H id = some o → id < nx := hok
 refine Trip.seq ?_
 refine Trip.ops ?_
 refine OpsL.new (by subst_vars; decide) (aop_box (by simp only [ASt.ev, tmPut, ↓reduceIte, Nat.reduceEqDiff, *]; rfl)) ?_
 obtain ⟨F, hF⟩ : ∃ F, F = H.put nx (.cells (Value.agg (autV a vi vf vo vc vn).toArray).cells.toList 0 none false (some 30)) := ⟨_, rfl⟩
 have hx0 : Ext nx H (nx + 1) F := by rw [hF]; exact Ext.newPut
 have hFn : F nx = some (.cells (autV a vi vf vo vc vn) 0 none false (some 30)) := by rw [hF, Heap.put_eq]; rfl
 have g0 : cellAt F ⟨nx, 0, none⟩ (.int .i64 a.N) := cell_of hFn rfl
 have g1 : cellAt F ⟨nx, 1, none⟩ (.int .i64 a.G) := cell_of hFn rfl
 rw [← hF]
 clear hF
 repeat' (first | (refine OpsL.q (by first | exact oasg | exact ofa | exact old) ?_) | refine Trip.seq ?_ | refine Trip.ops ?_ | (refine OpsL.nil ?_; (change Trip _ _ _ _ _)))
 refine OpsL.c3 (hf := entersBetween) (hc := (betweenC W0 _ _ _)) (h := ?_)
 rintro v2 n2 H2 ⟨rfl, rfl, rfl⟩
 cases hs1 : btF a.N 0 200
 ·repeat' (first | (refine OpsL.q (by first | exact omv | exact oasg | exact opkF) ?_) | (refine Trip.ret ?_; (dsimp only)) | (refine OpsL.nil ?_; (change Trip _ _ _ _ _)) | refine OpsL.skp ?_)
  exact ⟨.inr rfl, _, res_tmp, by simp [tmPut, sizeF, *], hx0⟩
 repeat' (first | (refine OpsL.q (by first | exact omv | exact ofa | exact old) ?_) | refine OpsL.ung ?_)
 refine OpsL.c3 (hf := entersBetween) (hc := (betweenC W0 _ _ _)) (h := ?_)
 rintro v2 n2 H2 ⟨rfl, rfl, rfl⟩
 cases hs2 : btF a.G 0 10000
 ·repeat' (first | (refine OpsL.q (by first | exact omv | exact oasg | exact opkT | exact opkF) ?_) | (refine Trip.ret ?_; (dsimp only)) | (refine OpsL.nil ?_; (change Trip _ _ _ _ _)) | refine OpsL.skp ?_)
  exact ⟨.inr rfl, _, res_tmp, by simp [tmPut, sizeF, *], hx0⟩
 repeat' (first | (refine OpsL.q (by first | exact omv | exact opkT) ?_) | refine OpsL.ung ?_)
 refine OpsL.q (aop_loadAgg (k := 7) (by simp only [ASt.ev, tmPut, ↓reduceIte, Nat.reduceEqDiff, *]; done) (by exact rfl) rfl (by exact rfl) (getc_all hFn rfl)) ?_
 repeat' (refine OpsL.ung ?_)
 refine OpsL.c1 (hf := entersRules) (hc := (rulesC W0 (ha.ext hx0 hok) hl)) (h := ?_)
 rintro v2 n2 H2 ⟨rfl, hx2⟩
 repeat' (first | (refine OpsL.q (by first | exact oasg | exact oleq | exact opkT) ?_) | (refine Trip.ret ?_; (dsimp only)) | (refine OpsL.nil ?_; (change Trip _ _ _ _ _)) | refine OpsL.ung ?_)
 exact ⟨.inr rfl, _, res_tmp, by simp [tmPut, sizeF, *], hx0.trans hx2⟩
theorem entersAllI : Am.Enters Tryz.prog 41 := ⟨Tryz.f41, Tryz.func41, by kernel_rfl, by kernel_rfl⟩
theorem entersAllO : Am.Enters Tryz.prog 42 := ⟨Tryz.f42, Tryz.func42, by kernel_rfl, by kernel_rfl⟩
theorem entersAllC : Am.Enters Tryz.prog 43 := ⟨Tryz.f43, Tryz.func43, by kernel_rfl, by kernel_rfl⟩
theorem entersAllN : Am.Enters Tryz.prog 44 := ⟨Tryz.f44, Tryz.func44, by kernel_rfl, by kernel_rfl⟩
set_option maxRecDepth 20000 in
set_option maxHeartbeats 8000000 in
theorem allIC (W0 : World) {nx : Nat} {H : Heap} {f : FuncId} {cap : Array Value} {p : Int → Bool} {va : Value} {xs : List Int} (hf : Am.Enters Tryz.prog f) (hx : IntsAt H va xs) (hlen : xs.length ≤ 1000)
  (hp : ∀ (x : Int) nx1 H1, Ext nx H nx1 H1 → ACalls Tryz.prog W0 f (.int .i64 x :: cap.toList) nx1 H1 fun v n2 H2 => v = .bool (p x) ∧ Ext nx1 H1 n2 H2) :
  ACalls Tryz.prog W0 41 [va, .func (.func f) #[] cap] nx H fun v nx' H' => v = .bool (xs.all p) ∧ Ext nx H nx' H' := by
 obtain ⟨xa, xc, rfl⟩ := hx.slice
 refine ACalls.by_trip (fn := Tryz.f41) (c := _) Tryz.func41 rfl (fun tm n hn0 htm => ?_)
 have e0 : tm 0 = .slice xa xs.length xc := htm 0
 have e1 : tm 1 = .func (.func f) #[] cap := htm 1
 clear htm
 replace hn0 : n = 18 := hn0
 refine Trip.ok fun hok => ?_
 replace hok : ∀ id o, H id = some o → id < nx := hok
 repeat (first | (refine OpsL.q (by first | exact omv | exact oasg | exact olen) ?_) | refine Trip.seq ?_ | refine Trip.ops ?_ | refine Trip.block ?_ | (refine OpsL.nil ?_; (change Trip _ _ _ _ _)))
 refine Trip.inv (fun (i : Nat) s => ∃ (tm : Nat → Value) (nx' : Nat) (H' : Heap), s = ⟨tm, n, H', nx'⟩ ∧ Ext nx H nx' H' ∧
   tm 1 = .func (.func f) #[] cap ∧ tm 7 = .slice xa xs.length xc ∧ tm 8 = .int .i64 xs.length ∧ tm 9 = .int .i64 i ∧ i ≤ xs.length ∧ (xs.take i).all p = true) (fun i => xs.length - i) 0 ?_ ?_
 ·exact ⟨_, _, _, rfl, Ext.refl, by simp [tmPut, *], by simp [tmPut, *], by simp [tmPut, *], by simp [tmPut, *], by omega, rfl⟩
 ·clear e0 e1
  rintro i s ⟨tm, nx', H', rfl, hext, e1, e7, e8, e9, hi, hall⟩
  repeat (first | refine OpsL.q (by exact olss) ?_ | refine Trip.seq ?_ | refine Trip.ops ?_ | refine Trip.block ?_ | refine Trip.itA (fun _ => ?_) (fun _ => ?_) | (refine Trip.skip ?_; (change Trip _ _ _ _ _)) | (refine OpsL.nil ?_; (change Trip _ _ _ _ _)))
  ·have hlt : i < xs.length := by omega
   obtain ⟨q, rfl, hc⟩ := intsAt_at hx hlt
   replace hc := cell_ext hext hok hc
   repeat (first | (refine OpsL.q (by first | exact omv | exact oasg | exact oixa | exact old) ?_) | refine Trip.seq ?_ | refine Trip.ops ?_ | (refine OpsL.nil ?_; (change Trip _ _ _ _ _)))
   refine OpsL.callV1 (cap := cap) (by subst_vars; decide) (by simp only [ASt.ev, tmPut, ↓reduceIte, Nat.reduceEqDiff, *]; done) (by simp only [ASt.ev, tmPut, ↓reduceIte, Nat.reduceEqDiff, *]; rfl) hf (hp _ _ _ hext) ?_
   rintro v2 n2 H2 ⟨rfl, hx2⟩
   cases hs : p xs[i]
   ·repeat (first | refine OpsL.q (by exact onot) ?_ | (refine OpsL.nil ?_; (change Trip _ _ _ _ _)))
    refine Trip.ifT ?_
    repeat (first | refine OpsL.q (by exact oasg) ?_ | refine Trip.seq ?_ | refine Trip.ops ?_ | (refine Trip.ret ?_; ((repeat (refine blockExit_ret ?_)); dsimp only)) | (refine OpsL.nil ?_; (change Trip _ _ _ _ _)))
    exact ⟨.inr rfl, _, res_tmp, by simp [tmPut, all_no hlt hs], hext.trans hx2⟩
   ·repeat (first | refine OpsL.q (by exact onot) ?_ | (refine OpsL.nil ?_; (change Trip _ _ _ _ _)))
    refine Trip.ifF ?_
    repeat (first | (refine OpsL.q (by first | exact omv | exact oadd) ?_) | refine Trip.ops ?_ | (refine Trip.skip ?_; ((repeat (refine blockExit_normal ?_)); change Trip _ _ _ _ _)) | (refine OpsL.nil ?_; (dsimp only)))
    exact ⟨i + 1, ⟨_, _, _, rfl, hext.trans hx2, by simp [tmPut, *], by simp [tmPut, *], by simp [tmPut, *], by simp [tmPut, *], by omega, all_take hlt hall hs⟩, by omega⟩
  ·repeat (first | refine OpsL.q (by exact oasg) ?_ | refine Trip.seq ?_ | refine Trip.ops ?_ | (refine Trip.exit ?_; ((repeat (refine blockExit_eq ?_)); change Trip _ _ _ _ _)) | (refine Trip.ret ?_; (dsimp only)) | (refine OpsL.nil ?_; (change Trip _ _ _ _ _)))
   have hi2 : i = xs.length := by omega
   subst hi2
   rw [List.take_length] at hall
   exact ⟨.inr rfl, _, res_tmp, by simp [tmPut, hall], hext⟩
set_option maxRecDepth 20000 in
set_option maxHeartbeats 8000000 in
theorem allOC (W0 : World) {nx : Nat} {H : Heap} {f : FuncId} {cap : Array Value} {p : R4 → Bool} {va : Value} {xs : List R4} (hf : Am.Enters Tryz.prog f) (hx : RowsAt e4 4 H va xs) (hlen : xs.length ≤ 1000)
  (hp : ∀ (x : R4) nx1 H1, Ext nx H nx1 H1 → ACalls Tryz.prog W0 f (.agg (e4 x).toArray :: cap.toList) nx1 H1 fun v n2 H2 => v = .bool (p x) ∧ Ext nx1 H1 n2 H2) :
  ACalls Tryz.prog W0 42 [va, .func (.func f) #[] cap] nx H fun v nx' H' => v = .bool (xs.all p) ∧ Ext nx H nx' H' := by
 obtain ⟨xa, xc, rfl⟩ := hx.slice
 refine ACalls.by_trip (fn := Tryz.f42) (c := _) Tryz.func42 rfl (fun tm n hn0 htm => ?_)
 have e0 : tm 0 = .slice xa xs.length xc := htm 0
 have e1 : tm 1 = .func (.func f) #[] cap := htm 1
 clear htm
 replace hn0 : n = 18 := hn0
 refine Trip.ok fun hok => ?_
 replace hok : ∀ id o, H id = some o → id < nx := hok
 repeat (first | (refine OpsL.q (by first | exact omv | exact oasg | exact olen) ?_) | refine Trip.seq ?_ | refine Trip.ops ?_ | refine Trip.block ?_ | (refine OpsL.nil ?_; (change Trip _ _ _ _ _)))
 refine Trip.inv (fun (i : Nat) s => ∃ (tm : Nat → Value) (nx' : Nat) (H' : Heap), s = ⟨tm, n, H', nx'⟩ ∧ Ext nx H nx' H' ∧
   tm 1 = .func (.func f) #[] cap ∧ tm 7 = .slice xa xs.length xc ∧ tm 8 = .int .i64 xs.length ∧ tm 9 = .int .i64 i ∧ i ≤ xs.length ∧ (xs.take i).all p = true) (fun i => xs.length - i) 0 ?_ ?_
 ·exact ⟨_, _, _, rfl, Ext.refl, by simp [tmPut, *], by simp [tmPut, *], by simp [tmPut, *], by simp [tmPut, *], by omega, rfl⟩
 ·clear e0 e1
  rintro i s ⟨tm, nx', H', rfl, hext, e1, e7, e8, e9, hi, hall⟩
  repeat (first | refine OpsL.q (by exact olss) ?_ | refine Trip.seq ?_ | refine Trip.ops ?_ | refine Trip.block ?_ | refine Trip.itA (fun _ => ?_) (fun _ => ?_) | (refine Trip.skip ?_; (change Trip _ _ _ _ _)) | (refine OpsL.nil ?_; (change Trip _ _ _ _ _)))
  ·have hlt : i < xs.length := by omega
   obtain ⟨q, rfl, hc⟩ := rows_at hx hlt
   replace hc := getc_ext hext hok hc
   repeat (refine OpsL.q (by exact oixa) ?_)
   refine OpsL.q (aop_loadAgg (k := 4) (by simp only [ASt.ev, tmPut, ↓reduceIte, Nat.reduceEqDiff, *]; rfl) (by exact rfl) rfl (by exact rfl) hc) ?_
   refine OpsL.new (by subst_vars; decide) (aop_alloc (l := rep 4 [.int .i64 0]) (by exact rfl)) ?_
   refine OpsL.upd (aop_store (k := 4) (by simp only [ASt.ev, tmPut, ↓reduceIte, Nat.reduceEqDiff, *]; rfl) (by simp only [ASt.ev, tmPut, ↓reduceIte, Nat.reduceEqDiff, *]; rfl) (by exact rfl) rfl (o := .cells (e4 xs[i]) 0 none false (some 44)) (by simp [setc, Heap.put, Value.cells, e4, rep, Value.oneCell'])) ?_
   repeat (first | refine OpsL.q (by exact omv) ?_ | refine Trip.seq ?_ | refine Trip.ops ?_ | (refine OpsL.nil ?_; (change Trip _ _ _ _ _)))
   refine OpsL.q (aop_loadAgg (k := 4) (vs := e4 xs[i]) (by simp only [ASt.ev, tmPut, ↓reduceIte, Nat.reduceEqDiff, *]; done) (by exact rfl) rfl (by exact rfl) (getc_all Heap.put_eq rfl)) ?_
   refine OpsL.callV1 (cap := cap) (by subst_vars; decide) (by simp only [ASt.ev, tmPut, ↓reduceIte, Nat.reduceEqDiff, *]; done) (by simp only [ASt.ev, tmPut, ↓reduceIte, Nat.reduceEqDiff, *]; rfl) hf (hp _ _ _ (hext.trans (Ext.newPut.put (Nat.le_refl _)))) ?_
   rintro v2 n2 H2 ⟨rfl, hx2⟩
   replace hx2 := (hext.trans (Ext.newPut.put (Nat.le_refl _))).trans hx2
   cases hs : p xs[i]
   ·repeat (first | refine OpsL.q (by exact onot) ?_ | (refine OpsL.nil ?_; (change Trip _ _ _ _ _)))
    refine Trip.ifT ?_
    repeat (first | refine OpsL.q (by exact oasg) ?_ | refine Trip.seq ?_ | refine Trip.ops ?_ | (refine Trip.ret ?_; ((repeat (refine blockExit_ret ?_)); dsimp only)) | (refine OpsL.nil ?_; (change Trip _ _ _ _ _)))
    exact ⟨.inr rfl, _, res_tmp, by simp [tmPut, all_no hlt hs], hx2⟩
   ·repeat (first | refine OpsL.q (by exact onot) ?_ | (refine OpsL.nil ?_; (change Trip _ _ _ _ _)))
    refine Trip.ifF ?_
    repeat (first | (refine OpsL.q (by first | exact omv | exact oadd) ?_) | refine Trip.ops ?_ | (refine Trip.skip ?_; ((repeat (refine blockExit_normal ?_)); change Trip _ _ _ _ _)) | (refine OpsL.nil ?_; (dsimp only)))
    exact ⟨i + 1, ⟨_, _, _, rfl, hx2, by simp [tmPut, *], by simp [tmPut, *], by simp [tmPut, *], by simp [tmPut, *], by omega, all_take hlt hall hs⟩, by omega⟩
  ·repeat (first | refine OpsL.q (by exact oasg) ?_ | refine Trip.seq ?_ | refine Trip.ops ?_ | (refine Trip.exit ?_; ((repeat (refine blockExit_eq ?_)); change Trip _ _ _ _ _)) | (refine Trip.ret ?_; (dsimp only)) | (refine OpsL.nil ?_; (change Trip _ _ _ _ _)))
   have hi2 : i = xs.length := by omega
   subst hi2
   rw [List.take_length] at hall
   exact ⟨.inr rfl, _, res_tmp, by simp [tmPut, hall], hext⟩
set_option maxRecDepth 20000 in
set_option maxHeartbeats 8000000 in
theorem allCC (W0 : World) {nx : Nat} {H : Heap} {f : FuncId} {cap : Array Value} {p : R4 → Bool} {va : Value} {xs : List R4} (hf : Am.Enters Tryz.prog f) (hx : RowsAt e4 4 H va xs) (hlen : xs.length ≤ 1000)
  (hp : ∀ (x : R4) nx1 H1, Ext nx H nx1 H1 → ACalls Tryz.prog W0 f (.agg (e4 x).toArray :: cap.toList) nx1 H1 fun v n2 H2 => v = .bool (p x) ∧ Ext nx1 H1 n2 H2) :
  ACalls Tryz.prog W0 43 [va, .func (.func f) #[] cap] nx H fun v nx' H' => v = .bool (xs.all p) ∧ Ext nx H nx' H' := by
 obtain ⟨xa, xc, rfl⟩ := hx.slice
 refine ACalls.by_trip (fn := Tryz.f43) (c := _) Tryz.func43 rfl (fun tm n hn0 htm => ?_)
 have e0 : tm 0 = .slice xa xs.length xc := htm 0
 have e1 : tm 1 = .func (.func f) #[] cap := htm 1
 clear htm
 replace hn0 : n = 18 := hn0
 refine Trip.ok fun hok => ?_
 replace hok : ∀ id o, H id = some o → id < nx := hok
 repeat (first | (refine OpsL.q (by first | exact omv | exact oasg | exact olen) ?_) | refine Trip.seq ?_ | refine Trip.ops ?_ | refine Trip.block ?_ | (refine OpsL.nil ?_; (change Trip _ _ _ _ _)))
 refine Trip.inv (fun (i : Nat) s => ∃ (tm : Nat → Value) (nx' : Nat) (H' : Heap), s = ⟨tm, n, H', nx'⟩ ∧ Ext nx H nx' H' ∧
   tm 1 = .func (.func f) #[] cap ∧ tm 7 = .slice xa xs.length xc ∧ tm 8 = .int .i64 xs.length ∧ tm 9 = .int .i64 i ∧ i ≤ xs.length ∧ (xs.take i).all p = true) (fun i => xs.length - i) 0 ?_ ?_
 ·exact ⟨_, _, _, rfl, Ext.refl, by simp [tmPut, *], by simp [tmPut, *], by simp [tmPut, *], by simp [tmPut, *], by omega, rfl⟩
 ·clear e0 e1
  rintro i s ⟨tm, nx', H', rfl, hext, e1, e7, e8, e9, hi, hall⟩
  repeat (first | refine OpsL.q (by exact olss) ?_ | refine Trip.seq ?_ | refine Trip.ops ?_ | refine Trip.block ?_ | refine Trip.itA (fun _ => ?_) (fun _ => ?_) | (refine Trip.skip ?_; (change Trip _ _ _ _ _)) | (refine OpsL.nil ?_; (change Trip _ _ _ _ _)))
  ·have hlt : i < xs.length := by omega
   obtain ⟨q, rfl, hc⟩ := rows_at hx hlt
   replace hc := getc_ext hext hok hc
   repeat (refine OpsL.q (by exact oixa) ?_)
   refine OpsL.q (aop_loadAgg (k := 4) (by simp only [ASt.ev, tmPut, ↓reduceIte, Nat.reduceEqDiff, *]; rfl) (by exact rfl) rfl (by exact rfl) hc) ?_
   refine OpsL.new (by subst_vars; decide) (aop_alloc (l := rep 4 [.int .i64 0]) (by exact rfl)) ?_
   refine OpsL.upd (aop_store (k := 4) (by simp only [ASt.ev, tmPut, ↓reduceIte, Nat.reduceEqDiff, *]; rfl) (by simp only [ASt.ev, tmPut, ↓reduceIte, Nat.reduceEqDiff, *]; rfl) (by exact rfl) rfl (o := .cells (e4 xs[i]) 0 none false (some 46)) (by simp [setc, Heap.put, Value.cells, e4, rep, Value.oneCell'])) ?_
   repeat (first | refine OpsL.q (by exact omv) ?_ | refine Trip.seq ?_ | refine Trip.ops ?_ | (refine OpsL.nil ?_; (change Trip _ _ _ _ _)))
   refine OpsL.q (aop_loadAgg (k := 4) (vs := e4 xs[i]) (by simp only [ASt.ev, tmPut, ↓reduceIte, Nat.reduceEqDiff, *]; done) (by exact rfl) rfl (by exact rfl) (getc_all Heap.put_eq rfl)) ?_
   refine OpsL.callV1 (cap := cap) (by subst_vars; decide) (by simp only [ASt.ev, tmPut, ↓reduceIte, Nat.reduceEqDiff, *]; done) (by simp only [ASt.ev, tmPut, ↓reduceIte, Nat.reduceEqDiff, *]; rfl) hf (hp _ _ _ (hext.trans (Ext.newPut.put (Nat.le_refl _)))) ?_
   rintro v2 n2 H2 ⟨rfl, hx2⟩
   replace hx2 := (hext.trans (Ext.newPut.put (Nat.le_refl _))).trans hx2
   cases hs : p xs[i]
   ·repeat (first | refine OpsL.q (by exact onot) ?_ | (refine OpsL.nil ?_; (change Trip _ _ _ _ _)))
    refine Trip.ifT ?_
    repeat (first | refine OpsL.q (by exact oasg) ?_ | refine Trip.seq ?_ | refine Trip.ops ?_ | (refine Trip.ret ?_; ((repeat (refine blockExit_ret ?_)); dsimp only)) | (refine OpsL.nil ?_; (change Trip _ _ _ _ _)))
    exact ⟨.inr rfl, _, res_tmp, by simp [tmPut, all_no hlt hs], hx2⟩
   ·repeat (first | refine OpsL.q (by exact onot) ?_ | (refine OpsL.nil ?_; (change Trip _ _ _ _ _)))
    refine Trip.ifF ?_
    repeat (first | (refine OpsL.q (by first | exact omv | exact oadd) ?_) | refine Trip.ops ?_ | (refine Trip.skip ?_; ((repeat (refine blockExit_normal ?_)); change Trip _ _ _ _ _)) | (refine OpsL.nil ?_; (dsimp only)))
    exact ⟨i + 1, ⟨_, _, _, rfl, hx2, by simp [tmPut, *], by simp [tmPut, *], by simp [tmPut, *], by simp [tmPut, *], by omega, all_take hlt hall hs⟩, by omega⟩
  ·repeat (first | refine OpsL.q (by exact oasg) ?_ | refine Trip.seq ?_ | refine Trip.ops ?_ | (refine Trip.exit ?_; ((repeat (refine blockExit_eq ?_)); change Trip _ _ _ _ _)) | (refine Trip.ret ?_; (dsimp only)) | (refine OpsL.nil ?_; (change Trip _ _ _ _ _)))
   have hi2 : i = xs.length := by omega
   subst hi2
   rw [List.take_length] at hall
   exact ⟨.inr rfl, _, res_tmp, by simp [tmPut, hall], hext⟩
set_option maxRecDepth 20000 in
set_option maxHeartbeats 8000000 in
theorem allNC (W0 : World) {nx : Nat} {H : Heap} {f : FuncId} {cap : Array Value} {p : R3 → Bool} {va : Value} {xs : List R3} (hf : Am.Enters Tryz.prog f) (hx : RowsAt e3 3 H va xs) (hlen : xs.length ≤ 1000)
  (hp : ∀ (x : R3) nx1 H1, Ext nx H nx1 H1 → ACalls Tryz.prog W0 f (.agg (e3 x).toArray :: cap.toList) nx1 H1 fun v n2 H2 => v = .bool (p x) ∧ Ext nx1 H1 n2 H2) :
  ACalls Tryz.prog W0 44 [va, .func (.func f) #[] cap] nx H fun v nx' H' => v = .bool (xs.all p) ∧ Ext nx H nx' H' := by
 obtain ⟨xa, xc, rfl⟩ := hx.slice
 refine ACalls.by_trip (fn := Tryz.f44) (c := _) Tryz.func44 rfl (fun tm n hn0 htm => ?_)
 have e0 : tm 0 = .slice xa xs.length xc := htm 0
 have e1 : tm 1 = .func (.func f) #[] cap := htm 1
 clear htm
 replace hn0 : n = 18 := hn0
 refine Trip.ok fun hok => ?_
 replace hok : ∀ id o, H id = some o → id < nx := hok
 repeat (first | (refine OpsL.q (by first | exact omv | exact oasg | exact olen) ?_) | refine Trip.seq ?_ | refine Trip.ops ?_ | refine Trip.block ?_ | (refine OpsL.nil ?_; (change Trip _ _ _ _ _)))
 refine Trip.inv (fun (i : Nat) s => ∃ (tm : Nat → Value) (nx' : Nat) (H' : Heap), s = ⟨tm, n, H', nx'⟩ ∧ Ext nx H nx' H' ∧
   tm 1 = .func (.func f) #[] cap ∧ tm 7 = .slice xa xs.length xc ∧ tm 8 = .int .i64 xs.length ∧ tm 9 = .int .i64 i ∧ i ≤ xs.length ∧ (xs.take i).all p = true) (fun i => xs.length - i) 0 ?_ ?_
 ·exact ⟨_, _, _, rfl, Ext.refl, by simp [tmPut, *], by simp [tmPut, *], by simp [tmPut, *], by simp [tmPut, *], by omega, rfl⟩
 ·clear e0 e1
  rintro i s ⟨tm, nx', H', rfl, hext, e1, e7, e8, e9, hi, hall⟩
  repeat (first | refine OpsL.q (by exact olss) ?_ | refine Trip.seq ?_ | refine Trip.ops ?_ | refine Trip.block ?_ | refine Trip.itA (fun _ => ?_) (fun _ => ?_) | (refine Trip.skip ?_; (change Trip _ _ _ _ _)) | (refine OpsL.nil ?_; (change Trip _ _ _ _ _)))
  ·have hlt : i < xs.length := by omega
   obtain ⟨q, rfl, hc⟩ := rows_at hx hlt
   replace hc := getc_ext hext hok hc
   repeat (refine OpsL.q (by exact oixa) ?_)
   refine OpsL.q (aop_loadAgg (k := 3) (by simp only [ASt.ev, tmPut, ↓reduceIte, Nat.reduceEqDiff, *]; rfl) (by exact rfl) rfl (by exact rfl) hc) ?_
   refine OpsL.new (by subst_vars; decide) (aop_alloc (l := rep 3 [.int .i64 0]) (by exact rfl)) ?_
   refine OpsL.upd (aop_store (k := 3) (by simp only [ASt.ev, tmPut, ↓reduceIte, Nat.reduceEqDiff, *]; rfl) (by simp only [ASt.ev, tmPut, ↓reduceIte, Nat.reduceEqDiff, *]; rfl) (by exact rfl) rfl (o := .cells (e3 xs[i]) 0 none false (some 48)) (by simp [setc, Heap.put, Value.cells, e3, rep, Value.oneCell'])) ?_
   repeat (first | refine OpsL.q (by exact omv) ?_ | refine Trip.seq ?_ | refine Trip.ops ?_ | (refine OpsL.nil ?_; (change Trip _ _ _ _ _)))
   refine OpsL.q (aop_loadAgg (k := 3) (vs := e3 xs[i]) (by simp only [ASt.ev, tmPut, ↓reduceIte, Nat.reduceEqDiff, *]; done) (by exact rfl) rfl (by exact rfl) (getc_all Heap.put_eq rfl)) ?_
   refine OpsL.callV1 (cap := cap) (by subst_vars; decide) (by simp only [ASt.ev, tmPut, ↓reduceIte, Nat.reduceEqDiff, *]; done) (by simp only [ASt.ev, tmPut, ↓reduceIte, Nat.reduceEqDiff, *]; rfl) hf (hp _ _ _ (hext.trans (Ext.newPut.put (Nat.le_refl _)))) ?_
   rintro v2 n2 H2 ⟨rfl, hx2⟩
   replace hx2 := (hext.trans (Ext.newPut.put (Nat.le_refl _))).trans hx2
   cases hs : p xs[i]
   ·repeat (first | refine OpsL.q (by exact onot) ?_ | (refine OpsL.nil ?_; (change Trip _ _ _ _ _)))
    refine Trip.ifT ?_
    repeat (first | refine OpsL.q (by exact oasg) ?_ | refine Trip.seq ?_ | refine Trip.ops ?_ | (refine Trip.ret ?_; ((repeat (refine blockExit_ret ?_)); dsimp only)) | (refine OpsL.nil ?_; (change Trip _ _ _ _ _)))
    exact ⟨.inr rfl, _, res_tmp, by simp [tmPut, all_no hlt hs], hx2⟩
   ·repeat (first | refine OpsL.q (by exact onot) ?_ | (refine OpsL.nil ?_; (change Trip _ _ _ _ _)))
    refine Trip.ifF ?_
    repeat (first | (refine OpsL.q (by first | exact omv | exact oadd) ?_) | refine Trip.ops ?_ | (refine Trip.skip ?_; ((repeat (refine blockExit_normal ?_)); change Trip _ _ _ _ _)) | (refine OpsL.nil ?_; (dsimp only)))
    exact ⟨i + 1, ⟨_, _, _, rfl, hx2, by simp [tmPut, *], by simp [tmPut, *], by simp [tmPut, *], by simp [tmPut, *], by omega, all_take hlt hall hs⟩, by omega⟩
  ·repeat (first | refine OpsL.q (by exact oasg) ?_ | refine Trip.seq ?_ | refine Trip.ops ?_ | (refine Trip.exit ?_; ((repeat (refine blockExit_eq ?_)); change Trip _ _ _ _ _)) | (refine Trip.ret ?_; (dsimp only)) | (refine OpsL.nil ?_; (change Trip _ _ _ _ _)))
   have hi2 : i = xs.length := by omega
   subst hi2
   rw [List.take_length] at hall
   exact ⟨.inr rfl, _, res_tmp, by simp [tmPut, hall], hext⟩
end Go.Proofs.YtjohiaoepbnicaaGreat
namespace Go.Am
set_option linter.unusedSimpArgs false
set_option linter.unusedVariables false
def cueO (r : R4) : R3 := (r.1, r.2.1, 0)
def cueC (r : R4) : R3 := (r.1, r.2.1, r.2.2.1)
def cueN (r : R3) : R3 := (r.1, r.2.1, 0)
def cuesOf (a : Aut) : List R3 := a.opens.map cueO ++ a.closes.map cueC ++ a.inners.map cueN
def cuV (c : R3) : Value := .agg (e3 c).toArray
structure Dist (C l : List R3) : Prop where
 nodup : C.Nodup
 all : ∀ c, c ∈ C ↔ c ∈ l
theorem Dist.old {C l : List R3} {c : R3} (h : Dist C l) (hc : c ∈ C) : Dist C (l ++ [c]) := ⟨h.nodup, fun x => by
 rw [h.all, List.mem_append, List.mem_singleton]
 constructor
 ·exact .inl
 ·rintro (q | rfl)
  ·exact q
  ·exact (h.all _).1 hc⟩
theorem Dist.new {C l : List R3} {c : R3} (h : Dist C l) (hc : c ∉ C) : Dist (C ++ [c]) (l ++ [c]) := ⟨by
 rw [List.nodup_append]
 refine ⟨h.nodup, by simp, fun x hx y hy => ?_⟩
 rw [List.mem_singleton] at hy
 subst hy
 exact fun e => hc (e ▸ hx), fun x => by rw [List.mem_append, List.mem_append, h.all]⟩
theorem nodup_le {α : Type} [DecidableEq α] : ∀ (l m : List α), l.Nodup → (∀ x ∈ l, x ∈ m) → l.length ≤ m.length := by
 intro l
 induction l with
 | nil => intro m _ _; simp
 | cons x l ih =>
  intro m hn h
  obtain ⟨h1, h2⟩ := List.nodup_cons.1 hn
  have hx := h x (by simp)
  have := ih (m.erase x) h2 (fun y hy => by
   have hne : y ≠ x := fun e => h1 (e ▸ hy)
   exact (List.mem_erase_of_ne hne).2 (h y (by simp [hy])))
  rw [List.length_erase_of_mem hx] at this
  have := List.length_pos_of_mem hx
  simp only [List.length_cons]
  omega
def dist (l : List R3) : Nat := l.eraseDups.length
theorem eraseDups_nodup : ∀ (n : Nat) (l : List R3), l.length ≤ n → l.eraseDups.Nodup := by
 intro n
 induction n with
 | zero => intro l h; have : l = [] := List.eq_nil_of_length_eq_zero (by omega); subst this; simp
 | succ n ih =>
  intro l h
  cases l with
  | nil => simp
  | cons x l =>
   rw [List.eraseDups_cons, List.nodup_cons]
   refine ⟨fun hm => ?_, ih _ (Nat.le_trans (List.length_filter_le _ _) (by simpa using h))⟩
   rw [List.mem_eraseDups] at hm
   simp at hm
theorem Dist.len {C l : List R3} (h : Dist C l) : C.length = dist l := by
 have h2 := eraseDups_nodup l.length l (Nat.le_refl _)
 refine Nat.le_antisymm (nodup_le C _ h.nodup fun x hx => ?_) (nodup_le _ C h2 fun x hx => ?_)
 ·rw [List.mem_eraseDups]; exact (h.all x).1 hx
 ·rw [List.mem_eraseDups] at hx; exact (h.all x).2 hx
theorem take_map {α : Type} {f : α → R3} {l : List α} {i : Nat} (h : i < l.length) : (l.take (i + 1)).map f = (l.take i).map f ++ [f l[i]] := by
 rw [List.take_succ_eq_append_getElem h, List.map_append]
 rfl
end Go.Am
namespace Go.Proofs.YtjohiaoepbnicaaGreat
set_option linter.unusedSimpArgs false
set_option linter.unusedVariables false
open Go.RowKit Go.Am
attribute [local irreducible] aop OpsL Trip blockExit OpsD OpsK OpsR
theorem entersCues : Am.Enters Tryz.prog 29 := ⟨Tryz.f29, Tryz.func29, by kernel_rfl, by kernel_rfl⟩
set_option maxRecDepth 20000 in
theorem cuEq (H : Heap) (x y : R3) : aEq Tryz.prog H 60 113 (cuV x) (cuV y) = some (decide (x = y)) := by
 have h1 : Tryz.prog.stoodInHeld 113 = false := by kernel_rfl
 obtain ⟨a, b, c⟩ := x
 obtain ⟨d, e, f⟩ := y
 have key : aEq Tryz.prog H 60 113 (cuV (a, b, c)) (cuV (d, e, f)) = some ((a == d) && ((b == e) && (c == f))) := by
  cases h : (a == d) <;> cases h2 : (b == e) <;> cases h3 : (c == f) <;> simp [cuV, Go.Am.e3, aEq, eqFields, getPart, isAggD, h, h2, h3, h1, Tryz.underlying113, Tryz.underlying3]
 rw [key]
 congr 1
 rw [Bool.eq_iff_iff]
 simp
theorem findC_none {v : R3 → Value} (H : Heap) (k : R3) : ∀ (l : List R3) (i : Nat), k ∉ l → aFind Tryz.prog H 113 (cuV k) (l.map fun t => (cuV t, v t)) i = some none := by
 intro l
 induction l with
 | nil => intro i _; rfl
 | cons t l ih =>
  intro i h
  simp only [List.mem_cons, not_or] at h
  simp only [List.map_cons, aFind, cuEq, decide_eq_false h.1]
  exact ih (i + 1) h.2
theorem findC_some {v : R3 → Value} (H : Heap) (k : R3) : ∀ (l : List R3) (i : Nat), k ∈ l → ∃ j, aFind Tryz.prog H 113 (cuV k) (l.map fun t => (cuV t, v t)) i = some (some (i + j, v k)) ∧ l[j]? = some k := by
 intro l
 induction l with
 | nil => intro i h; cases h
 | cons t l ih =>
  intro i h
  by_cases e : k = t
  ·subst e
   exact ⟨0, by simp only [List.map_cons, aFind, cuEq, decide_true]; rfl, rfl⟩
  ·obtain ⟨j, h1, h2⟩ := ih (i + 1) ((List.mem_cons.1 h).resolve_left e)
   refine ⟨j + 1, ?_, h2⟩
   simp only [List.map_cons, aFind, cuEq, decide_eq_false e]
   rw [h1]
   congr 3
   omega
theorem cu_key (k : R3) (H : Heap) : aCheckKey Tryz.prog 60 113 (cuV k) = true ∧ keyOk H (cuV k) = true := ⟨by kernel_rfl, by kernel_rfl⟩
theorem cu_veq (k : R3) : aMapUpdate.veqk (cuV k) (cuV k) = true := by
 obtain ⟨a, b, c⟩ := k
 simp [cuV, Go.Am.e3, aMapUpdate.veqk, aMapUpdate.eqs, aMapUpdate.eq1]
set_option maxRecDepth 20000 in
theorem cues_put {H : Heap} {m : Nat} {bs : List Nat} {clk : Nat} {C l : List R3} (hm : H m = some (.map (C.map fun t => (cuV t, .agg #[])) bs clk)) (hd : Dist C l) (k : R3) :
  ∃ C' bs' clk', Dist C' (l ++ [k]) ∧ aMapUpdate Tryz.prog H 61 (.map (some m)) (cuV k) (.agg #[]) = some (.upd m (.map (C'.map fun t => (cuV t, .agg #[])) bs' clk')) := by
 obtain ⟨c1, c2⟩ := cu_key k H
 by_cases hk : k ∈ C
 ·obtain ⟨j, h1, h2⟩ := findC_some (v := fun _ => .agg #[]) H k C 0 hk
  refine ⟨C, bs, clk, hd.old hk, ?_⟩
  have h3 : (C.map fun t => ((cuV t, .agg #[]) : Value × Value))[0 + j]? = some (cuV k, .agg #[]) := by rw [List.getElem?_map, Nat.zero_add, h2]; rfl
  have h4 : (C.map fun t => ((cuV t, .agg #[]) : Value × Value)).set (0 + j) (cuV k, .agg #[]) = C.map fun t => ((cuV t, .agg #[]) : Value × Value) := by
   obtain ⟨hj, he⟩ := List.getElem?_eq_some_iff.1 h3
   rw [← he, List.set_getElem_self]
  unfold aMapUpdate
  simp only [Tryz.underlying61, hm, c1, c2, show (Tryz.prog.underlying 113).isSome = true from rfl, and_self, if_true, h1, h3, cu_veq, h4]
 ·refine ⟨C ++ [k], bs ++ [clk], clk + 1, hd.new hk, ?_⟩
  unfold aMapUpdate
  simp only [Tryz.underlying61, hm, c1, c2, show (Tryz.prog.underlying 113).isSome = true from rfl, and_self, if_true, findC_none (v := fun _ => .agg #[]) H k C 0 hk, List.map_append, List.map_cons, List.map_nil]
set_option maxRecDepth 20000 in
set_option maxHeartbeats 16000000 in
theorem cuesC (W0 : World) {nx : Nat} {H : Heap} {a : Aut} {vi vf vo vc vn : Value} (ha : AutIn H a vi vf vo vc vn) (hn : AutLen a) :
  ACalls Tryz.prog W0 29 [.agg (autV a vi vf vo vc vn).toArray] nx H fun v nx' H' => ∃ m C bs clk, v = .map (some m) ∧ H' m = some (.map (C.map fun t => (cuV t, .agg #[])) bs clk) ∧ Dist C (cuesOf a) ∧ Ext nx H nx' H' := by
 obtain ⟨oa, oc, rfl⟩ := ha.opens.slice
 obtain ⟨ca, cc, rfl⟩ := ha.closes.slice
 obtain ⟨na, nc, rfl⟩ := ha.inners.slice
 refine ACalls.by_trip (fn := Tryz.f29) (c := _) Tryz.func29 rfl (fun tm n hn0 htm => ?_)
 have e0 : tm 0 = .agg (autV a vi vf (.slice oa a.opens.length oc) (.slice ca a.closes.length cc) (.slice na a.inners.length nc)).toArray := htm 0
 clear htm
 replace hn0 : n = 59 := hn0
 refine Trip.ok fun hok => ?_
 replace hok : ∀ id o, H id = some o → id < nx := hok
 refine Trip.seq ?_
 refine Trip.ops ?_
 refine OpsL.new (by subst_vars; decide) (aop_box (by simp only [ASt.ev, tmPut, ↓reduceIte, Nat.reduceEqDiff, *]; rfl)) ?_
 obtain ⟨G, hG⟩ : ∃ G, G = H.put nx (.cells (Value.agg (autV a vi vf (.slice oa a.opens.length oc) (.slice ca a.closes.length cc) (.slice na a.inners.length nc)).toArray).cells.toList 0 none false (some 30)) := ⟨_, rfl⟩
 have hx0 : Ext nx H (nx + 1) G := by rw [hG]; exact Ext.newPut
 have ok0 : ∀ id o, G id = some o → id < nx + 1 := by rw [hG]; exact ok_new hok
 have g0 : G nx = some (.cells (autV a vi vf (.slice oa a.opens.length oc) (.slice ca a.closes.length cc) (.slice na a.inners.length nc)) 0 none false (some 30)) := by rw [hG, Heap.put_eq]; rfl
 rw [← hG]
 clear hG e0
 repeat (first | refine OpsL.q (by exact oasg) ?_ | refine Trip.seq ?_ | refine Trip.ops ?_ | (refine OpsL.nil ?_; (change Trip _ _ _ _ _)))
 refine OpsL.new (by subst_vars; decide) aop_makeMap3 ?_
 obtain ⟨G1, hG1⟩ : ∃ G1, G1 = G.put (nx + 1) (.map [] [] 0) := ⟨_, rfl⟩
 have x1 : Ext (nx + 1) G (nx + 1 + 1) G1 := by rw [hG1]; exact Ext.newPut
 have ok1 : ∀ id o, G1 id = some o → id < nx + 1 + 1 := by rw [hG1]; exact ok_new ok0
 have gm : G1 (nx + 1) = some (.map [] [] 0) := by rw [hG1, Heap.put_eq]
 have g1 := (x1.2 nx (by omega)).trans g0
 rw [← hG1]
 clear hG1 g0
 have hx1 := hx0.trans x1
 have q4 := hn.opens
 have q5 := hn.closes
 have q6 := hn.inners
 clear hx0 x1 ok0
 have cl0 : cellAt G1 ⟨nx, 0 + 4, none⟩ (.slice oa a.opens.length oc) := by rw [Nat.zero_add]; exact cell_of g1 rfl
 repeat (first | (refine OpsL.q (by first | exact omv | exact oasg | exact olen | exact ofa | exact old) ?_) | refine Trip.seq ?_ | refine Trip.ops ?_ | refine Trip.block ?_ | (refine OpsL.nil ?_; (change Trip _ _ _ _ _)))
 refine Trip.mono (Q := fun e st => e = .exit 0 ∧ ∃ (tm' : Nat → Value) (J : Heap) (m : Nat) (C : List R3) (bs : List Nat) (clk : Nat), st = ⟨tm', n, J, m⟩ ∧ nx + 1 + 1 ≤ m ∧ (∀ j, j < nx + 1 → J j = G1 j) ∧ (∀ id o, J id = some o → id < m) ∧ J (nx + 1) = some (.map (C.map fun t => (cuV t, .agg #[])) bs clk) ∧ Dist C (a.opens.map cueO) ∧ tm' 1 = .pointer (some ⟨nx, 0, none⟩) ∧ tm' 3 = .map (some (nx + 1))) ?_ ?_
 ·refine Trip.inv (fun (i : Nat) st => ∃ (tm' : Nat → Value) (J : Heap) (m : Nat) (C : List R3) (bs : List Nat) (clk : Nat), st = ⟨tm', n, J, m⟩ ∧ nx + 1 + 1 ≤ m ∧ (∀ j, j < nx + 1 → J j = G1 j) ∧ (∀ id o, J id = some o → id < m) ∧ J (nx + 1) = some (.map (C.map fun t => (cuV t, .agg #[])) bs clk) ∧ Dist C ((a.opens.take i).map cueO) ∧ tm' 1 = .pointer (some ⟨nx, 0, none⟩) ∧ tm' 3 = .map (some (nx + 1)) ∧ tm' 12 = .slice oa a.opens.length oc ∧ tm' 13 = .int .i64 (a.opens.length : Int) ∧ tm' 14 = .int .i64 (i : Int) ∧ i ≤ a.opens.length) (fun i => a.opens.length - i) 0 ?_ ?_
  ·exact ⟨_, _, _, [], [], 0, rfl, Nat.le_refl _, fun _ _ => rfl, ok1, gm, ⟨List.nodup_nil, fun c => by simp⟩, by simp [tmPut, *], by simp [tmPut, *], by simp [tmPut, *], by simp [tmPut, *], by simp [tmPut, *], Nat.zero_le _⟩
  ·skip
   rintro i st ⟨tm', J, m, C, bs, clk, rfl, hm, fr, okJ, hM, hd, e1, e3, ea, el, ei, hi⟩
   have gJ := (fr nx (by omega)).trans g1
   by_cases hlt : i < a.opens.length
   case neg =>
    have hie : i = a.opens.length := by omega
    subst hie
    rw [List.take_length] at hd
    repeat (first | refine Trip.seq ?_ | refine Trip.ops ?_)
    refine OpsL.lssF ?_
    repeat (first | refine Trip.seq ?_ | (refine OpsL.nil ?_; (change Trip _ _ _ _ _)))
    refine Trip.ifF ?_
    repeat (refine Trip.exit ?_; (dsimp only))
    exact ⟨rfl, _, J, m, C, bs, clk, rfl, hm, fr, okJ, hM, hd, by simp [tmPut, *], by simp [tmPut, *]⟩
   case pos =>
    obtain ⟨p, hp, gr⟩ := rows_at (ha.ext (⟨by omega, fun j hj => (fr j (by omega)).trans (hx1.2 j hj)⟩ : Ext nx H m J) hok).opens hlt
    subst hp
    have htk := take_map (f := cueO) hlt
    obtain ⟨r, hr⟩ : ∃ r, a.opens[i] = r := ⟨_, rfl⟩
    rw [hr] at gr htk
    repeat (first | refine Trip.seq ?_ | refine Trip.ops ?_)
    refine OpsL.lssT ?_
    repeat (first | refine Trip.seq ?_ | (refine OpsL.nil ?_; (change Trip _ _ _ _ _)))
    refine Trip.ifT ?_
    repeat (first | refine OpsL.q (by exact oixa) ?_ | refine Trip.seq ?_ | refine Trip.ops ?_ | refine Trip.block ?_ | (refine Trip.skip ?_; (change Trip _ _ _ _ _)))
    refine OpsL.q (aop_loadAgg (k := 4) (vs := Go.Am.e4 r) (by simp only [ASt.ev, tmPut, ↓reduceIte, Nat.reduceEqDiff, *]; rfl) (by exact rfl) rfl (by exact rfl) gr) ?_
    refine OpsL.new (by subst_vars; decide) (aop_alloc (l := [.int .i64 0, .int .i64 0, .int .i64 0, .int .i64 0]) (by kernel_rfl)) ?_
    refine OpsL.upd (aop_store (k := 4) (u := .agg (Go.Am.e4 r).toArray) (by simp only [ASt.ev, tmPut, ↓reduceIte, Nat.reduceEqDiff, *]; done) (by simp only [ASt.ev, tmPut, ↓reduceIte, Nat.reduceEqDiff, *]; done) (by exact rfl) rfl (o := .cells (Go.Am.e4 r) 0 none false (some 44)) (setc_allN (vs := (Go.Am.e4 r)) Heap.put_eq rfl rfl)) ?_
    obtain ⟨G4, hG4⟩ : ∃ G0, G0 = (J.put m (.cells [.int .i64 0, .int .i64 0, .int .i64 0, .int .i64 0] 0 none false (some 44))).put m (.cells (Go.Am.e4 r) 0 none false (some 44)) := ⟨_, rfl⟩
    have xG4 : Ext m J (m + 1) G4 := ⟨Nat.le_succ _, fun j hj => by rw [hG4, Heap.put_ne (by omega), Heap.put_ne (by omega)]⟩
    have kG4 : ∀ id o, G4 id = some o → id < m + 1 := by rw [hG4]; exact ok_put3 (ok_new okJ) Heap.put_eq
    have bG4 : G4 m = some (.cells (Go.Am.e4 r) 0 none false (some 44)) := by rw [hG4, Heap.put_eq]
    first | rw [← hG4] | skip
    clear hG4
    clear gr
    have c0 : cellAt G4 ⟨m, 0 + 0, none⟩ (.int .i64 r.1) := by rw [Nat.zero_add]; exact cell_of bG4 rfl
    have c1 : cellAt G4 ⟨m, 0 + 1, none⟩ (.int .i64 r.2.1) := by rw [Nat.zero_add]; exact cell_of bG4 rfl
    have hM4 := (xG4.2 (nx + 1) (by omega)).trans hM
    obtain ⟨C', bs', clk', hd', hu⟩ := cues_put hM4 hd (cueO r)
    repeat (first | (refine OpsL.q (by first | exact omv | exact ofa | exact old) ?_) | refine Trip.ops ?_ | (refine OpsL.nil ?_; (change Trip _ _ _ _ _)))
    refine OpsL.q (aop_build (v := cuV (cueO r)) (l := [(0, .int .i64 r.1), (1, .int .i64 r.2.1)]) (by simp only [evParts, ASt.ev, tmPut, ↓reduceIte, reduceIte, Option.some.injEq, Nat.reduceEqDiff, plainC, plain1, *]) (by kernel_rfl)) ?_
    refine OpsL.q (aop_build (v := .agg #[]) (l := []) (by simp only [evParts]) (by kernel_rfl)) ?_
    refine OpsL.upd (aop_mapUpdate3 (by simp only [ASt.ev, tmPut, ↓reduceIte, Nat.reduceEqDiff, *]; done) (by simp only [ASt.ev, tmPut, ↓reduceIte, Nat.reduceEqDiff, *]; done) (by simp only [ASt.ev, tmPut, ↓reduceIte, Nat.reduceEqDiff, *]; done) hu) ?_
    repeat (first | (refine OpsL.q (by first | exact omv | exact oadd) ?_) | refine Trip.ops ?_ | (refine OpsL.nil ?_; ((repeat (refine blockExit_normal ?_)); first | (change Trip _ _ _ _ _) | (dsimp only))))
    exact ⟨i + 1, ⟨_, _, _, C', bs', clk', rfl, by omega, fun j hj => by rw [Heap.put_ne (by omega), xG4.2 j (by omega)]; exact fr j hj, ok_put3 kG4 hM4, Heap.put_eq, by rw [htk]; exact hd', by simp [tmPut, *], by simp [tmPut, *], by simp [tmPut, *], by simp [tmPut, *], by simp [tmPut, *], by omega⟩, by omega⟩
 rintro e st ⟨rfl, tm1, J1, m1, C1, bs1, clk1, rfl, hm1, fr1, ok1d, hM1, hd1, e1, e3⟩
 ((repeat (refine blockExit_eq ?_)); change Trip _ _ _ _ _)
 have g11 := (fr1 nx (by omega)).trans g1
 have cl1 : cellAt J1 ⟨nx, 0 + 5, none⟩ (.slice ca a.closes.length cc) := by rw [Nat.zero_add]; exact cell_of g11 rfl
 repeat (first | (refine OpsL.q (by first | exact omv | exact olen | exact ofa | exact old) ?_) | refine Trip.seq ?_ | refine Trip.ops ?_ | refine Trip.block ?_ | (refine OpsL.nil ?_; (change Trip _ _ _ _ _)))
 refine Trip.mono (Q := fun e st => e = .exit 2 ∧ ∃ (tm' : Nat → Value) (J : Heap) (m : Nat) (C : List R3) (bs : List Nat) (clk : Nat), st = ⟨tm', n, J, m⟩ ∧ nx + 1 + 1 ≤ m ∧ (∀ j, j < nx + 1 → J j = G1 j) ∧ (∀ id o, J id = some o → id < m) ∧ J (nx + 1) = some (.map (C.map fun t => (cuV t, .agg #[])) bs clk) ∧ Dist C (a.opens.map cueO ++ a.closes.map cueC) ∧ tm' 1 = .pointer (some ⟨nx, 0, none⟩) ∧ tm' 3 = .map (some (nx + 1))) ?_ ?_
 ·refine Trip.inv (fun (i : Nat) st => ∃ (tm' : Nat → Value) (J : Heap) (m : Nat) (C : List R3) (bs : List Nat) (clk : Nat), st = ⟨tm', n, J, m⟩ ∧ nx + 1 + 1 ≤ m ∧ (∀ j, j < nx + 1 → J j = G1 j) ∧ (∀ id o, J id = some o → id < m) ∧ J (nx + 1) = some (.map (C.map fun t => (cuV t, .agg #[])) bs clk) ∧ Dist C (a.opens.map cueO ++ (a.closes.take i).map cueC) ∧ tm' 1 = .pointer (some ⟨nx, 0, none⟩) ∧ tm' 3 = .map (some (nx + 1)) ∧ tm' 27 = .slice ca a.closes.length cc ∧ tm' 28 = .int .i64 (a.closes.length : Int) ∧ tm' 29 = .int .i64 (i : Int) ∧ i ≤ a.closes.length) (fun i => a.closes.length - i) 0 ?_ ?_
  ·exact ⟨_, _, _, C1, bs1, clk1, rfl, hm1, fr1, ok1d, hM1, by simpa using hd1, by simp [tmPut, *], by simp [tmPut, *], by simp [tmPut, *], by simp [tmPut, *], by simp [tmPut, *], Nat.zero_le _⟩
  ·clear e1 e3
   rintro i st ⟨tm', J, m, C, bs, clk, rfl, hm, fr, okJ, hM, hd, e1, e3, ea, el, ei, hi⟩
   have gJ := (fr nx (by omega)).trans g1
   by_cases hlt : i < a.closes.length
   case neg =>
    have hie : i = a.closes.length := by omega
    subst hie
    rw [List.take_length] at hd
    repeat (first | refine Trip.seq ?_ | refine Trip.ops ?_)
    refine OpsL.lssF ?_
    repeat (first | refine Trip.seq ?_ | (refine OpsL.nil ?_; (change Trip _ _ _ _ _)))
    refine Trip.ifF ?_
    repeat (refine Trip.exit ?_; (dsimp only))
    exact ⟨rfl, _, J, m, C, bs, clk, rfl, hm, fr, okJ, hM, hd, by simp [tmPut, *], by simp [tmPut, *]⟩
   case pos =>
    obtain ⟨p, hp, gr⟩ := rows_at (ha.ext (⟨by omega, fun j hj => (fr j (by omega)).trans (hx1.2 j hj)⟩ : Ext nx H m J) hok).closes hlt
    subst hp
    have htk := take_map (f := cueC) hlt
    obtain ⟨r, hr⟩ : ∃ r, a.closes[i] = r := ⟨_, rfl⟩
    rw [hr] at gr htk
    repeat (first | refine Trip.seq ?_ | refine Trip.ops ?_)
    refine OpsL.lssT ?_
    repeat (first | refine Trip.seq ?_ | (refine OpsL.nil ?_; (change Trip _ _ _ _ _)))
    refine Trip.ifT ?_
    repeat (first | refine OpsL.q (by exact oixa) ?_ | refine Trip.seq ?_ | refine Trip.ops ?_ | refine Trip.block ?_ | (refine Trip.skip ?_; (change Trip _ _ _ _ _)))
    refine OpsL.q (aop_loadAgg (k := 4) (vs := Go.Am.e4 r) (by simp only [ASt.ev, tmPut, ↓reduceIte, Nat.reduceEqDiff, *]; rfl) (by exact rfl) rfl (by exact rfl) gr) ?_
    refine OpsL.new (by subst_vars; decide) (aop_alloc (l := [.int .i64 0, .int .i64 0, .int .i64 0, .int .i64 0]) (by kernel_rfl)) ?_
    refine OpsL.upd (aop_store (k := 4) (u := .agg (Go.Am.e4 r).toArray) (by simp only [ASt.ev, tmPut, ↓reduceIte, Nat.reduceEqDiff, *]; done) (by simp only [ASt.ev, tmPut, ↓reduceIte, Nat.reduceEqDiff, *]; done) (by exact rfl) rfl (o := .cells (Go.Am.e4 r) 0 none false (some 46)) (setc_allN (vs := (Go.Am.e4 r)) Heap.put_eq rfl rfl)) ?_
    obtain ⟨G4, hG4⟩ : ∃ G0, G0 = (J.put m (.cells [.int .i64 0, .int .i64 0, .int .i64 0, .int .i64 0] 0 none false (some 46))).put m (.cells (Go.Am.e4 r) 0 none false (some 46)) := ⟨_, rfl⟩
    have xG4 : Ext m J (m + 1) G4 := ⟨Nat.le_succ _, fun j hj => by rw [hG4, Heap.put_ne (by omega), Heap.put_ne (by omega)]⟩
    have kG4 : ∀ id o, G4 id = some o → id < m + 1 := by rw [hG4]; exact ok_put3 (ok_new okJ) Heap.put_eq
    have bG4 : G4 m = some (.cells (Go.Am.e4 r) 0 none false (some 46)) := by rw [hG4, Heap.put_eq]
    first | rw [← hG4] | skip
    clear hG4
    clear gr
    have c0 : cellAt G4 ⟨m, 0 + 0, none⟩ (.int .i64 r.1) := by rw [Nat.zero_add]; exact cell_of bG4 rfl
    have c1 : cellAt G4 ⟨m, 0 + 1, none⟩ (.int .i64 r.2.1) := by rw [Nat.zero_add]; exact cell_of bG4 rfl
    have c2 : cellAt G4 ⟨m, 0 + 2, none⟩ (.int .i64 r.2.2.1) := by rw [Nat.zero_add]; exact cell_of bG4 rfl
    have hM4 := (xG4.2 (nx + 1) (by omega)).trans hM
    obtain ⟨C', bs', clk', hd', hu⟩ := cues_put hM4 hd (cueC r)
    repeat (first | (refine OpsL.q (by first | exact omv | exact ofa | exact old) ?_) | refine Trip.ops ?_ | (refine OpsL.nil ?_; (change Trip _ _ _ _ _)))
    refine OpsL.q (aop_build (v := cuV (cueC r)) (l := [(0, .int .i64 r.1), (1, .int .i64 r.2.1), (2, .int .i64 r.2.2.1)]) (by simp only [evParts, ASt.ev, tmPut, ↓reduceIte, reduceIte, Option.some.injEq, Nat.reduceEqDiff, plainC, plain1, *]) (by kernel_rfl)) ?_
    refine OpsL.q (aop_build (v := .agg #[]) (l := []) (by simp only [evParts]) (by kernel_rfl)) ?_
    refine OpsL.upd (aop_mapUpdate3 (by simp only [ASt.ev, tmPut, ↓reduceIte, Nat.reduceEqDiff, *]; done) (by simp only [ASt.ev, tmPut, ↓reduceIte, Nat.reduceEqDiff, *]; done) (by simp only [ASt.ev, tmPut, ↓reduceIte, Nat.reduceEqDiff, *]; done) hu) ?_
    repeat (first | (refine OpsL.q (by first | exact omv | exact oadd) ?_) | refine Trip.ops ?_ | (refine OpsL.nil ?_; ((repeat (refine blockExit_normal ?_)); first | (change Trip _ _ _ _ _) | (dsimp only))))
    exact ⟨i + 1, ⟨_, _, _, C', bs', clk', rfl, by omega, fun j hj => by rw [Heap.put_ne (by omega), xG4.2 j (by omega)]; exact fr j hj, ok_put3 kG4 hM4, Heap.put_eq, by rw [htk, ← List.append_assoc]; exact hd', by simp [tmPut, *], by simp [tmPut, *], by simp [tmPut, *], by simp [tmPut, *], by simp [tmPut, *], by omega⟩, by omega⟩
 rintro e st ⟨rfl, tm2, J2, m2, C2, bs2, clk2, rfl, hm2, fr2, ok2d, hM2, hd2, e1, e3⟩
 ((repeat (refine blockExit_eq ?_)); change Trip _ _ _ _ _)
 have g12 := (fr2 nx (by omega)).trans g1
 have cl2 : cellAt J2 ⟨nx, 0 + 6, none⟩ (.slice na a.inners.length nc) := by rw [Nat.zero_add]; exact cell_of g12 rfl
 repeat (first | (refine OpsL.q (by first | exact omv | exact olen | exact ofa | exact old) ?_) | refine Trip.seq ?_ | refine Trip.ops ?_ | refine Trip.block ?_ | (refine OpsL.nil ?_; (change Trip _ _ _ _ _)))
 refine Trip.mono (Q := fun e st => e = .exit 4 ∧ ∃ (tm' : Nat → Value) (J : Heap) (m : Nat) (C : List R3) (bs : List Nat) (clk : Nat), st = ⟨tm', n, J, m⟩ ∧ nx + 1 + 1 ≤ m ∧ (∀ j, j < nx + 1 → J j = G1 j) ∧ (∀ id o, J id = some o → id < m) ∧ J (nx + 1) = some (.map (C.map fun t => (cuV t, .agg #[])) bs clk) ∧ Dist C (a.opens.map cueO ++ a.closes.map cueC ++ a.inners.map cueN) ∧ tm' 1 = .pointer (some ⟨nx, 0, none⟩) ∧ tm' 3 = .map (some (nx + 1))) ?_ ?_
 ·refine Trip.inv (fun (i : Nat) st => ∃ (tm' : Nat → Value) (J : Heap) (m : Nat) (C : List R3) (bs : List Nat) (clk : Nat), st = ⟨tm', n, J, m⟩ ∧ nx + 1 + 1 ≤ m ∧ (∀ j, j < nx + 1 → J j = G1 j) ∧ (∀ id o, J id = some o → id < m) ∧ J (nx + 1) = some (.map (C.map fun t => (cuV t, .agg #[])) bs clk) ∧ Dist C (a.opens.map cueO ++ a.closes.map cueC ++ (a.inners.take i).map cueN) ∧ tm' 1 = .pointer (some ⟨nx, 0, none⟩) ∧ tm' 3 = .map (some (nx + 1)) ∧ tm' 44 = .slice na a.inners.length nc ∧ tm' 45 = .int .i64 (a.inners.length : Int) ∧ tm' 46 = .int .i64 (i : Int) ∧ i ≤ a.inners.length) (fun i => a.inners.length - i) 0 ?_ ?_
  ·exact ⟨_, _, _, C2, bs2, clk2, rfl, hm2, fr2, ok2d, hM2, by simpa using hd2, by simp [tmPut, *], by simp [tmPut, *], by simp [tmPut, *], by simp [tmPut, *], by simp [tmPut, *], Nat.zero_le _⟩
  ·clear e1 e3
   rintro i st ⟨tm', J, m, C, bs, clk, rfl, hm, fr, okJ, hM, hd, e1, e3, ea, el, ei, hi⟩
   have gJ := (fr nx (by omega)).trans g1
   by_cases hlt : i < a.inners.length
   case neg =>
    have hie : i = a.inners.length := by omega
    subst hie
    rw [List.take_length] at hd
    repeat (first | refine Trip.seq ?_ | refine Trip.ops ?_)
    refine OpsL.lssF ?_
    repeat (first | refine Trip.seq ?_ | (refine OpsL.nil ?_; (change Trip _ _ _ _ _)))
    refine Trip.ifF ?_
    repeat (refine Trip.exit ?_; (dsimp only))
    exact ⟨rfl, _, J, m, C, bs, clk, rfl, hm, fr, okJ, hM, hd, by simp [tmPut, *], by simp [tmPut, *]⟩
   case pos =>
    obtain ⟨p, hp, gr⟩ := rows_at (ha.ext (⟨by omega, fun j hj => (fr j (by omega)).trans (hx1.2 j hj)⟩ : Ext nx H m J) hok).inners hlt
    subst hp
    have htk := take_map (f := cueN) hlt
    obtain ⟨r, hr⟩ : ∃ r, a.inners[i] = r := ⟨_, rfl⟩
    rw [hr] at gr htk
    repeat (first | refine Trip.seq ?_ | refine Trip.ops ?_)
    refine OpsL.lssT ?_
    repeat (first | refine Trip.seq ?_ | (refine OpsL.nil ?_; (change Trip _ _ _ _ _)))
    refine Trip.ifT ?_
    repeat (first | refine OpsL.q (by exact oixa) ?_ | refine Trip.seq ?_ | refine Trip.ops ?_ | refine Trip.block ?_ | (refine Trip.skip ?_; (change Trip _ _ _ _ _)))
    refine OpsL.q (aop_loadAgg (k := 3) (vs := Go.Am.e3 r) (by simp only [ASt.ev, tmPut, ↓reduceIte, Nat.reduceEqDiff, *]; rfl) (by exact rfl) rfl (by exact rfl) gr) ?_
    refine OpsL.new (by subst_vars; decide) (aop_alloc (l := [.int .i64 0, .int .i64 0, .int .i64 0]) (by kernel_rfl)) ?_
    refine OpsL.upd (aop_store (k := 3) (u := .agg (Go.Am.e3 r).toArray) (by simp only [ASt.ev, tmPut, ↓reduceIte, Nat.reduceEqDiff, *]; done) (by simp only [ASt.ev, tmPut, ↓reduceIte, Nat.reduceEqDiff, *]; done) (by exact rfl) rfl (o := .cells (Go.Am.e3 r) 0 none false (some 48)) (setc_allN (vs := (Go.Am.e3 r)) Heap.put_eq rfl rfl)) ?_
    obtain ⟨G4, hG4⟩ : ∃ G0, G0 = (J.put m (.cells [.int .i64 0, .int .i64 0, .int .i64 0] 0 none false (some 48))).put m (.cells (Go.Am.e3 r) 0 none false (some 48)) := ⟨_, rfl⟩
    have xG4 : Ext m J (m + 1) G4 := ⟨Nat.le_succ _, fun j hj => by rw [hG4, Heap.put_ne (by omega), Heap.put_ne (by omega)]⟩
    have kG4 : ∀ id o, G4 id = some o → id < m + 1 := by rw [hG4]; exact ok_put3 (ok_new okJ) Heap.put_eq
    have bG4 : G4 m = some (.cells (Go.Am.e3 r) 0 none false (some 48)) := by rw [hG4, Heap.put_eq]
    first | rw [← hG4] | skip
    clear hG4
    clear gr
    have c0 : cellAt G4 ⟨m, 0 + 0, none⟩ (.int .i64 r.1) := by rw [Nat.zero_add]; exact cell_of bG4 rfl
    have c1 : cellAt G4 ⟨m, 0 + 1, none⟩ (.int .i64 r.2.1) := by rw [Nat.zero_add]; exact cell_of bG4 rfl
    have hM4 := (xG4.2 (nx + 1) (by omega)).trans hM
    obtain ⟨C', bs', clk', hd', hu⟩ := cues_put hM4 hd (cueN r)
    repeat (first | (refine OpsL.q (by first | exact omv | exact ofa | exact old) ?_) | refine Trip.ops ?_ | (refine OpsL.nil ?_; (change Trip _ _ _ _ _)))
    refine OpsL.q (aop_build (v := cuV (cueN r)) (l := [(0, .int .i64 r.1), (1, .int .i64 r.2.1)]) (by simp only [evParts, ASt.ev, tmPut, ↓reduceIte, reduceIte, Option.some.injEq, Nat.reduceEqDiff, plainC, plain1, *]) (by kernel_rfl)) ?_
    refine OpsL.q (aop_build (v := .agg #[]) (l := []) (by simp only [evParts]) (by kernel_rfl)) ?_
    refine OpsL.upd (aop_mapUpdate3 (by simp only [ASt.ev, tmPut, ↓reduceIte, Nat.reduceEqDiff, *]; done) (by simp only [ASt.ev, tmPut, ↓reduceIte, Nat.reduceEqDiff, *]; done) (by simp only [ASt.ev, tmPut, ↓reduceIte, Nat.reduceEqDiff, *]; done) hu) ?_
    repeat (first | (refine OpsL.q (by first | exact omv | exact oadd) ?_) | refine Trip.ops ?_ | (refine OpsL.nil ?_; ((repeat (refine blockExit_normal ?_)); first | (change Trip _ _ _ _ _) | (dsimp only))))
    exact ⟨i + 1, ⟨_, _, _, C', bs', clk', rfl, by omega, fun j hj => by rw [Heap.put_ne (by omega), xG4.2 j (by omega)]; exact fr j hj, ok_put3 kG4 hM4, Heap.put_eq, by rw [htk, ← List.append_assoc]; exact hd', by simp [tmPut, *], by simp [tmPut, *], by simp [tmPut, *], by simp [tmPut, *], by simp [tmPut, *], by omega⟩, by omega⟩
 rintro e st ⟨rfl, tm3, J3, m3, C3, bs3, clk3, rfl, hm3, fr3, ok3d, hM3, hd3, e1, e3⟩
 ((repeat (refine blockExit_eq ?_)); change Trip _ _ _ _ _)
 have hx3 : Ext nx H m3 J3 := ⟨by omega, fun j hj => (fr3 j (by omega)).trans (hx1.2 j hj)⟩
 repeat (first | (refine OpsL.q (by first | exact omv | exact oasg) ?_) | refine Trip.seq ?_ | refine Trip.ops ?_ | (refine Trip.ret ?_; (dsimp only)) | (refine OpsL.nil ?_; (change Trip _ _ _ _ _)))
 exact ⟨.inr rfl, _, res_tmp, nx + 1, C3, bs3, clk3, by simp [tmPut, *], hM3, hd3, hx3⟩
end Go.Proofs.YtjohiaoepbnicaaGreat
namespace Go.Am
set_option linter.unusedSimpArgs false
set_option linter.unusedVariables false
open Go.RowKit
section
variable {P : Program} {H : Heap} {nx : Nat} {ev : Operand → Option Value} {dst : Option Tmp} {type : TypeId} {pos : String} {after : Array Edge} {guard : Option (Nat × Bool)}
theorem aop_mapEntry3 {t : TypeId} {m k : Operand} {a b : Value} {r : Value × Eff} (hm : ev m = some a) (hk : ev k = some b) (h : aMapEntry P H t a b = some r) : aop P H nx ev ⟨dst, .mapEntry t m k, type, pos, after, guard⟩ = some r := by simp [aop, hm, hk, h]
theorem aop_entryStore3 {t : TypeId} {m s x : Operand} {a b c : Value} {e : Eff} (hm : ev m = some a) (hs : ev s = some b) (hx : ev x = some c) (h : aEntryStore H a b c = some e) : aop P H nx ev ⟨dst, .entryStore t m s x, type, pos, after, guard⟩ = some (undef, e) := by simp [aop, hm, hs, hx, h]
end
theorem OpsL.updV {P : Program} {W0 : World} {ops : Array Oper} {H : Heap} {nx n d k : Nat} {op : Op} {type : TypeId} {pos : String} {after : Array Edge} {l : List Oper} {tm : Nat → Value} {QQ : ASt → Prop} {v : Value} {o : AObj} (hd : d < n) (hop : aop P H nx (ASt.ev ⟨tm, n, H, nx⟩) ⟨some d, op, type, pos, after, none⟩ = some (v, .upd k o)) (h : OpsL P W0 ops l ⟨tmPut tm (some d) v, n, H.put k o, nx⟩ QQ) : OpsL P W0 ops (⟨some d, op, type, pos, after, none⟩ :: l) ⟨tm, n, H, nx⟩ QQ :=
 OpsL.e hd hop h
structure WE where
 k : Thg
 v : Value
 ob : Option (Nat × Nat)
 l : List R4
def weV (x : WE) : Value × Value := (thV x.k, x.v)
def waitW (ms : List R4) (t : Thg) : List R4 := ms.filter fun m => decide (t ∈ needsT m)
def waitM (ms : List R4) (m : R4) (j : Nat) (t : Thg) : List R4 := waitW ms t ++ if t ∈ (needsT m).take j then [m] else []
theorem waitM_zero (ms : List R4) (m : R4) : waitM ms m 0 = waitW ms := by funext t; simp [waitM]
theorem waitM_two (ms : List R4) (m : R4) : waitM ms m 2 = waitW (ms ++ [m]) := by
 funext t
 unfold waitM waitW
 rw [List.filter_append]
 by_cases h : t ∈ needsT m
 ·simp [h, List.take_of_length_le (show (needsT m).length ≤ 2 from Nat.le_refl _)]
 ·simp [h, List.take_of_length_le (show (needsT m).length ≤ 2 from Nat.le_refl _)]
theorem waitM_len (ms : List R4) (m : R4) (j : Nat) (t : Thg) : (waitM ms m j t).length ≤ ms.length + 1 := by
 unfold waitM waitW
 have := List.length_filter_le (fun m => decide (t ∈ needsT m)) ms
 rw [List.length_append]
 split <;> simp <;> omega
def updF (f : Thg → List R4) (t : Thg) (l : List R4) : Thg → List R4 := fun x => if x = t then l else f x
theorem waitM_succ (ms : List R4) (m : R4) {j : Nat} (hj : j < 2) : waitM ms m (j + 1) = updF (waitM ms m j) ((needsT m)[j]'hj) (waitM ms m j ((needsT m)[j]'hj) ++ [m]) := by
 funext t
 obtain ⟨a, b, c, d⟩ := m
 match j, hj with
 | 0, _ => by_cases h : t = (0, a) <;> simp [waitM, updF, needsT, h]
 | 1, _ =>
  by_cases h : t = (1, b)
  ·subst h; simp [waitM, updF, needsT]
  ·by_cases h2 : t = (0, a) <;> simp [waitM, updF, needsT, h, h2]
end Go.Am
namespace Go.Proofs.YtjohiaoepbnicaaGreat
set_option linter.unusedSimpArgs false
set_option linter.unusedVariables false
open Go.RowKit Go.Am
attribute [local irreducible] aop OpsL Trip blockExit OpsD OpsK OpsR
theorem entersWaiting : Am.Enters Tryz.prog 59 := ⟨Tryz.f59, Tryz.func59, by kernel_rfl, by kernel_rfl⟩
theorem find_wn (H : Heap) (k : Thg) : ∀ (W : List WE) (i : Nat), k ∉ W.map (·.k) → aFind Tryz.prog H 102 (thV k) (W.map weV) i = some none := by
 intro W
 induction W with
 | nil => intro i _; rfl
 | cons t W ih =>
  intro i h
  simp only [List.map_cons, List.mem_cons, not_or] at h
  simp only [List.map_cons, weV, aFind, thEq, decide_eq_false h.1]
  exact ih (i + 1) h.2
theorem find_ws (H : Heap) : ∀ (W : List WE) (i j : Nat) (hj : j < W.length), (W.map (·.k)).Nodup → aFind Tryz.prog H 102 (thV W[j].k) (W.map weV) i = some (some (i + j, W[j].v)) := by
 intro W
 induction W with
 | nil => intro i j hj; simp at hj
 | cons t W ih =>
  intro i j hj hn
  rw [List.map_cons, List.nodup_cons] at hn
  cases j with
  | zero => simp only [List.map_cons, weV, aFind, thEq, List.getElem_cons_zero, decide_true, Nat.add_zero]
  | succ j =>
   have hj' : j < W.length := by simpa using hj
   have hne : W[j].k ≠ t.k := fun e => hn.1 (by rw [← e]; exact List.mem_map.2 ⟨_, List.getElem_mem hj', rfl⟩)
   simp only [List.map_cons, weV, aFind, thEq, List.getElem_cons_succ, decide_eq_false hne]
   rw [show i + (j + 1) = i + 1 + j by omega]
   exact ih (i + 1) j hj' hn.2
structure WaitIn (H : Heap) (base mr nx : Nat) (f : Thg → List R4) (W : List WE) : Prop where
 cell : H mr = some (.map (W.map weV) (List.range W.length) W.length)
 nodup : (W.map (·.k)).Nodup
 own : ∀ x ∈ W, OwnM H x.ob x.v x.l
 val : ∀ x ∈ W, x.l = f x.k
 out : ∀ t, t ∉ W.map (·.k) → f t = []
 blk : ∀ x ∈ W, ∀ b t, x.ob = some (b, t) → base ≤ b ∧ b < nx ∧ b ≠ mr
 sep : ∀ (i j : Nat) (hi : i < W.length) (hj : j < W.length), i ≠ j → ∀ b t b' t', W[i].ob = some (b, t) → W[j].ob = some (b', t') → b ≠ b'
 hmr : base ≤ mr ∧ mr < nx
theorem WaitIn.ext {H H' : Heap} {base mr nx nx' : Nat} {f : Thg → List R4} {W : List WE} (h : WaitIn H base mr nx f W) (hx : Ext nx H nx' H') : WaitIn H' base mr nx' f W :=
 ⟨by rw [hx.2 mr h.hmr.2]; exact h.cell, h.nodup, fun x hm => OwnOf.ext hx (fun b t e => (h.blk x hm b t e).2.1) (h.own x hm), h.val, h.out, fun x hm b t e => by have := h.blk x hm b t e; have := hx.1; omega, h.sep, by have := h.hmr; have := hx.1; omega⟩
set_option maxRecDepth 20000 in
theorem WaitIn.entry {H : Heap} {base mr nx : Nat} {f : Thg → List R4} {W : List WE} (h : WaitIn H base mr nx f W) (t : Thg) :
  ∃ (W' : List WE) (j : Nat) (hj : j < W'.length), W'[j].k = t ∧ aMapEntry Tryz.prog H 97 (.map (some mr)) (thV t) = some (.tuple #[W'[j].v, .int .i64 j], .upd mr (.map (W'.map weV) (List.range W'.length) W'.length)) ∧
   WaitIn (H.put mr (.map (W'.map weV) (List.range W'.length) W'.length)) base mr nx f W' ∧ ∀ x ∈ W', ∀ b t, x.ob = some (b, t) → ∃ y ∈ W, y.ob = some (b, t) := by
 obtain ⟨c1, c2, c3⟩ := th_key t H
 have hrow : ∀ (W' : List WE), (∀ x ∈ W', ∀ b t, x.ob = some (b, t) → base ≤ b ∧ b < nx ∧ b ≠ mr) → ∀ x ∈ W', OwnM H x.ob x.v x.l → OwnM (H.put mr (.map (W'.map weV) (List.range W'.length) W'.length)) x.ob x.v x.l := fun W' hb x hx ho => OwnRow.same (fun b t e => Heap.put_ne (hb x hx b t e).2.2) ho
 by_cases hin : t ∈ W.map (·.k)
 ·obtain ⟨x, hx, hxk⟩ := List.mem_map.1 hin
  obtain ⟨j, hj, hje⟩ := List.getElem_of_mem hx
  have hk : W[j].k = t := by rw [hje]; exact hxk
  refine ⟨W, j, hj, hk, ?_, ⟨Heap.put_eq, h.nodup, fun x hx => hrow W h.blk x hx (h.own x hx), h.val, h.out, h.blk, h.sep, h.hmr⟩, fun x hx b t e => ⟨x, hx, e⟩⟩
  have hf := find_ws H W 0 j hj h.nodup
  rw [hk, Nat.zero_add] at hf
  have hes : (W.map weV)[j]? = some (thV t, W[j].v) := by rw [List.getElem?_map, List.getElem?_eq_getElem hj]; simp [weV, hk]
  have hbs : (List.range W.length)[j]? = some j := by rw [List.getElem?_range hj]
  have hset : (W.map weV).set j (thV t, W[j].v) = W.map weV := by
   apply List.ext_getElem?
   intro i
   rw [List.getElem?_set]
   split
   ·rename_i e
    subst e
    rw [hes]
    split
    ·rfl
    ·rename_i h'; simp at h'; omega
   ·rfl
  have hv : aMapUpdate.veqk (thV t) (thV t) = true := by obtain ⟨a, b⟩ := t; simp [aMapUpdate.veqk, thV, encT, aMapUpdate.eqs, aMapUpdate.eq1]
  unfold aMapEntry
  simp only [Tryz.underlying97, h.cell, c1, c3, show (Tryz.prog.underlying 102).isSome = true from rfl, and_self, if_true, hf, hes, hbs, hv, hset]
  rfl
 ·have hk : (W ++ [(⟨t, .slice none 0 0, none, []⟩ : WE)]).length = W.length + 1 := by simp
  refine ⟨W ++ [⟨t, .slice none 0 0, none, []⟩], W.length, by omega, by simp, ?_, ?_, fun x hx b t' e => ?_⟩
  rotate_left 2
  ·rcases List.mem_append.1 hx with hx | hx
   ·exact ⟨x, hx, e⟩
   ·rw [List.mem_singleton] at hx; subst hx; cases e
  ·have hf := find_wn H t W 0 hin
   unfold aMapEntry
   simp only [Tryz.underlying97, h.cell, c1, c3, show (Tryz.prog.underlying 102).isSome = true from rfl, and_self, if_true, hf, show zeroV Tryz.prog 99 = some (.slice none 0 0) from rfl]
   simp [weV, List.range_succ]
   rfl
  ·have hbk : ∀ x ∈ W ++ [(⟨t, .slice none 0 0, none, []⟩ : WE)], ∀ b t, x.ob = some (b, t) → base ≤ b ∧ b < nx ∧ b ≠ mr := fun x hx b t' e => by
    rcases List.mem_append.1 hx with hx | hx
    ·exact h.blk x hx b t' e
    ·rw [List.mem_singleton] at hx; subst hx; cases e
   refine ⟨Heap.put_eq, ?_, fun x hx => hrow _ hbk x hx ?_, fun x hx => ?_, fun t' ht' => h.out t' fun hh => ht' (by rw [List.map_append]; exact List.mem_append.2 (.inl hh)), hbk, fun i j hi hj hij b tt b' tt' e1 e2 => ?_, h.hmr⟩
   ·rw [List.map_append, List.nodup_append]
    refine ⟨h.nodup, by simp, fun a ha b hb => ?_⟩
    simp at hb
    subst hb
    exact fun e => hin (by rw [← e]; exact ha)
   ·rcases List.mem_append.1 hx with hx | hx
    ·exact h.own x hx
    ·rw [List.mem_singleton] at hx; subst hx; exact ⟨rfl, rfl, rfl⟩
   ·rcases List.mem_append.1 hx with hx | hx
    ·exact h.val x hx
    ·rw [List.mem_singleton] at hx; subst hx; exact (h.out t hin).symm
   ·by_cases hi' : i < W.length
    ·by_cases hj' : j < W.length
     ·rw [List.getElem_append_left hi'] at e1
      rw [List.getElem_append_left hj'] at e2
      exact h.sep i j hi' hj' hij b tt b' tt' e1 e2
     ·rw [List.getElem_append_right (by omega)] at e2
      simp at e2
    ·rw [List.getElem_append_right (by omega)] at e1
     simp at e1
theorem find_range (n j : Nat) (hj : j < n) : (List.range n).findIdx? (fun (b : Nat) => decide ((b : Int) = (j : Int))) = some j := by
 rw [List.findIdx?_eq_some_iff_getElem]
 refine ⟨by simpa using hj, by simp, fun i hi => ?_⟩
 simp
 omega
theorem WaitIn.store {H HA H1 : Heap} {base mr nx nxA nx1 : Nat} {f : Thg → List R4} {W : List WE} {j : Nat} (h : WaitIn H base mr nx f W) (hj : j < W.length) (hxA : Ext nx H nxA HA) {m : R4} {v' : Value} {ob' : Option (Nat × Nat)}
  (hA : AppO Go.Am.e4 4 107 nxA HA W[j].ob (W[j].l ++ [m]) v' nx1 H1 ob') :
  ∃ W', aEntryStore H1 (.map (some mr)) (.int .i64 j) v' = some (.upd mr (.map (W'.map weV) (List.range W'.length) W'.length)) ∧ WaitIn (H1.put mr (.map (W'.map weV) (List.range W'.length) W'.length)) base mr nx1 (updF f W[j].k (f W[j].k ++ [m])) W' ∧ (∀ i, i < base → H1 i = HA i) ∧ ∀ x ∈ W', ∀ b t, x.ob = some (b, t) → nxA ≤ b ∨ ∃ y ∈ W, ∃ t', y.ob = some (b, t') := by
 have hmr := h.hmr
 have hle := hxA.1
 have hle1 := hA.le
 have hbj := h.blk _ (List.getElem_mem hj)
 have hnm : ∀ b t, ob' = some (b, t) → base ≤ b ∧ b < nx1 ∧ b ≠ mr ∧ (nxA ≤ b ∨ ∃ t', W[j].ob = some (b, t')) := fun b t e => by
  obtain ⟨q1, q2⟩ := hA.blk b t e
  rcases q2 with rfl | ⟨t', h'⟩
  ·exact ⟨by omega, q1, by omega, .inl (Nat.le_refl _)⟩
  ·have := hbj _ _ h'; exact ⟨this.1, q1, this.2.2, .inr ⟨t', h'⟩⟩
 have hcell : H1 mr = some (.map (W.map weV) (List.range W.length) W.length) := by
  rw [hA.same mr (by omega) (fun b t e => (hbj b t e).2.2.symm), hxA.2 mr hmr.2]
  exact h.cell
 refine ⟨W.set j ⟨W[j].k, v', ob', W[j].l ++ [m]⟩, ?_, ?_, fun i hi => hA.same i (by omega) (fun b t e => by have := (hbj b t e).1; omega), fun x hx b t e => ?_⟩
 rotate_left 2
 ·rcases List.mem_or_eq_of_mem_set hx with hx | rfl
  ·exact .inr ⟨x, hx, t, e⟩
  ·rcases (hnm b t e).2.2.2 with hq | ⟨t2, hq⟩
   ·exact .inl hq
   ·exact .inr ⟨_, List.getElem_mem hj, t2, hq⟩
 ·have hes : (W.map weV)[j]? = some (thV W[j].k, W[j].v) := by rw [List.getElem?_map, List.getElem?_eq_getElem hj]; rfl
  unfold aEntryStore
  simp only [hcell, find_range _ _ hj, hes, List.length_set, List.map_set]
  rfl
 ·have hkeys : (W.set j (⟨W[j].k, v', ob', W[j].l ++ [m]⟩ : WE)).map (·.k) = W.map (·.k) := by
   rw [List.map_set]
   apply List.ext_getElem?
   intro i
   rw [List.getElem?_set]
   split
   ·rename_i e
    subst e
    rw [List.getElem?_map, List.getElem?_eq_getElem hj]
    simp [hj]
   ·rfl
  have hget : ∀ (i : Nat) (hi : i < (W.set j (⟨W[j].k, v', ob', W[j].l ++ [m]⟩ : WE)).length), (i = j ∧ (W.set j (⟨W[j].k, v', ob', W[j].l ++ [m]⟩ : WE))[i] = ⟨W[j].k, v', ob', W[j].l ++ [m]⟩) ∨ (i ≠ j ∧ (W.set j (⟨W[j].k, v', ob', W[j].l ++ [m]⟩ : WE))[i] = W[i]'(by simpa using hi)) := fun i hi => by
   rw [List.getElem_set]
   by_cases e : j = i
   ·exact .inl ⟨e.symm, by rw [if_pos e]⟩
   ·exact .inr ⟨fun e' => e e'.symm, by rw [if_neg e]⟩
  have hpm : ∀ {x : WE} , OwnM H1 x.ob x.v x.l → (∀ b t, x.ob = some (b, t) → b ≠ mr) → ∀ o, OwnM (H1.put mr o) x.ob x.v x.l := fun {x} h1 h2 o => OwnRow.same (fun b t e => Heap.put_ne (h2 b t e)) h1
  refine ⟨Heap.put_eq, by rw [hkeys]; exact h.nodup, fun x hx => ?_, fun x hx => ?_, fun t ht => ?_, fun x hx b t e => ?_, fun a c ha hc hac b t b' t' e1 e2 => ?_, by omega⟩
  ·obtain ⟨i, hi, rfl⟩ := List.getElem_of_mem hx
   have hi' : i < W.length := by simpa using hi
   rcases hget i hi with ⟨e, hg⟩ | ⟨e, hg⟩
   ·rw [hg]; exact hpm (x := ⟨W[j].k, v', ob', W[j].l ++ [m]⟩) hA.own (fun b t e => (hnm b t e).2.2.1) _
   ·rw [hg]
    refine hpm ?_ (fun b t e => (h.blk _ (List.getElem_mem hi') b t e).2.2) _
    refine OwnRow.same (fun b t e1 => ?_) (h.own _ (List.getElem_mem hi'))
    have hb := h.blk _ (List.getElem_mem hi') b t e1
    rw [hA.same b (by omega) (fun b' t' e2 => h.sep i j hi' hj e b t b' t' e1 e2), hxA.2 b hb.2.1]
  ·obtain ⟨i, hi, rfl⟩ := List.getElem_of_mem hx
   have hi' : i < W.length := by simpa using hi
   rcases hget i hi with ⟨e, hg⟩ | ⟨e, hg⟩
   ·rw [hg]
    simp [updF, h.val _ (List.getElem_mem hj)]
   ·rw [hg, h.val _ (List.getElem_mem hi')]
    have hne : W[i].k ≠ W[j].k := fun ek => by
     have h1 : (W.map (·.k))[i]'(by simpa using hi') = W[i].k := by simp
     have h2 : (W.map (·.k))[j]'(by simpa using hj) = W[j].k := by simp
     have hp := List.pairwise_iff_getElem.1 h.nodup
     rcases Nat.lt_or_gt_of_ne e with hl | hl
     ·exact hp i j (by simpa using hi') (by simpa using hj) hl (by rw [h1, h2]; exact ek)
     ·exact hp j i (by simpa using hj) (by simpa using hi') hl (by rw [h1, h2]; exact ek.symm)
    simp [updF, hne]
  ·rw [hkeys] at ht
   have hne : t ≠ W[j].k := fun e => ht (by rw [e]; exact List.mem_map.2 ⟨_, List.getElem_mem hj, rfl⟩)
   simp [updF, hne, h.out t ht]
  ·obtain ⟨i, hi, rfl⟩ := List.getElem_of_mem hx
   have hi' : i < W.length := by simpa using hi
   rcases hget i hi with ⟨e', hg⟩ | ⟨e', hg⟩
   ·rw [hg] at e; have := hnm b t e; exact ⟨this.1, this.2.1, this.2.2.1⟩
   ·rw [hg] at e; have := h.blk _ (List.getElem_mem hi') b t e; exact ⟨this.1, by omega, this.2.2⟩
  ·have ha' : a < W.length := by simpa using ha
   have hc' : c < W.length := by simpa using hc
   rcases hget a ha with ⟨ea, ga⟩ | ⟨ea, ga⟩ <;> rcases hget c hc with ⟨ec, gc⟩ | ⟨ec, gc⟩
   ·omega
   ·rw [ga] at e1; rw [gc] at e2
    have hb2 := h.blk _ (List.getElem_mem hc') b' t' e2
    rcases (hnm b t e1).2.2.2 with hq | ⟨t2, hq⟩
    ·omega
    ·exact h.sep j c hj hc' (fun e => ec e.symm) b t2 b' t' hq e2
   ·rw [ga] at e1; rw [gc] at e2
    have hb2 := h.blk _ (List.getElem_mem ha') b t e1
    rcases (hnm b' t' e2).2.2.2 with hq | ⟨t2, hq⟩
    ·omega
    ·exact h.sep a j ha' hj ea b t b' t2 e1 hq
   ·rw [ga] at e1; rw [gc] at e2
    exact h.sep a c ha' hc' hac b t b' t' e1 e2
set_option maxRecDepth 20000 in
set_option maxHeartbeats 8000000 in
theorem waitingC (W0 : World) {nx : Nat} {H : Heap} {v : Value} {ms : List R4} (hr : RowsAt Go.Am.e4 4 H v ms) (hm : ms.length ≤ 3000) :
  ACalls Tryz.prog W0 59 [v] nx H fun v' nx' H' => ∃ W, v' = .map (some nx) ∧ WaitIn H' nx nx nx' (waitW ms) W ∧ Ext nx H nx' H' := by
 obtain ⟨va, vc, rfl⟩ := hr.slice
 refine ACalls.by_trip (fn := Tryz.f59) (c := _) Tryz.func59 rfl (fun tm n hn0 htm => ?_)
 have q0 : tm 0 = .slice va ms.length vc := htm 0
 clear htm
 replace hn0 : n = 31 := hn0
 refine Trip.ok fun hok => ?_
 replace hok : ∀ id o, H id = some o → id < nx := hok
 repeat (first | refine OpsL.q (by exact oasg) ?_ | refine Trip.seq ?_ | refine Trip.ops ?_ | (refine OpsL.nil ?_; (change Trip _ _ _ _ _)))
 refine OpsL.new (by subst_vars; decide) aop_makeMap3 ?_
 have hx0 : Ext nx H (nx + 1) (H.put nx (.map [] [] 0)) := Ext.newPut
 have hok0 := ok_new (o := .map [] [] 0) hok
 have hw0 : WaitIn (H.put nx (.map [] [] 0)) nx nx (nx + 1) (waitW []) [] := ⟨Heap.put_eq, List.nodup_nil, fun x h => (by cases h), fun x h => (by cases h), fun _ _ => rfl, fun x h => (by cases h), fun i j hi => by simp at hi, ⟨Nat.le_refl _, Nat.lt_succ_self _⟩⟩
 generalize H.put nx (.map [] [] 0) = G at *
 repeat (first | (refine OpsL.q (by first | exact omv | exact oasg | exact olen) ?_) | refine Trip.seq ?_ | refine Trip.ops ?_ | refine Trip.block ?_ | (refine OpsL.nil ?_; (change Trip _ _ _ _ _)))
 refine Trip.inv (fun (i : Nat) st => ∃ (tm' : Nat → Value) (nx' : Nat) (H' : Heap) (W : List WE), st = ⟨tm', n, H', nx'⟩ ∧ Ext nx H nx' H' ∧ (∀ id o, H' id = some o → id < nx') ∧ WaitIn H' nx nx nx' (waitW (ms.take i)) W ∧ tm' 3 = .map (some nx) ∧ tm' 9 = .slice va ms.length vc ∧ tm' 10 = .int .i64 ms.length ∧ tm' 11 = .int .i64 i ∧ i ≤ ms.length) (fun i => ms.length - i) 0 ?_ ?_
 ·exact ⟨_, _, _, [], rfl, hx0, hok0, hw0, by simp [tmPut, *], by simp [tmPut, *], by simp [tmPut, *], by simp [tmPut, *], Nat.zero_le _⟩
 ·clear q0
  rintro i st ⟨tm, nx', H', W, rfl, hx, hok', hw, q3, q9, q10, q11, hi⟩
  by_cases hlt : i < ms.length
  ·obtain ⟨p, rfl, g⟩ := rows_at (hr.ext hx hok) hlt
   have hst : ms.take (i + 1) = ms.take i ++ [ms[i]] := List.take_succ_eq_append_getElem hlt
   have hmr := hw.hmr.2
   generalize ms[i] = m at *
   repeat (first | refine Trip.seq ?_ | refine Trip.ops ?_)
   refine OpsL.lssT ?_
   repeat (first | refine Trip.seq ?_ | (refine OpsL.nil ?_; (change Trip _ _ _ _ _)))
   refine Trip.ifT ?_
   repeat (first | refine OpsL.q (by exact oixa) ?_ | refine Trip.seq ?_ | refine Trip.ops ?_ | refine Trip.block ?_ | (refine Trip.skip ?_; (change Trip _ _ _ _ _)))
   refine OpsL.q (aop_loadAgg (k := 4) (vs := Go.Am.e4 m) (by simp only [ASt.ev, tmPut, ↓reduceIte, Nat.reduceEqDiff, *]; rfl) (by exact rfl) rfl (by exact rfl) g) ?_
   refine OpsL.new (by subst_vars; decide) (aop_alloc (l := rep 4 [.int .i64 0]) (by exact rfl)) ?_
   refine OpsL.upd (aop_store (k := 4) (u := .agg (Go.Am.e4 m).toArray) (by simp only [ASt.ev, tmPut, ↓reduceIte, Nat.reduceEqDiff, *]; done) (by simp only [ASt.ev, tmPut, ↓reduceIte, Nat.reduceEqDiff, *]; done) (by exact rfl) rfl (o := .cells (Go.Am.e4 m) 0 none false (some 107)) (setc_allN (vs := Go.Am.e4 m) Heap.put_eq rfl rfl)) ?_
   obtain ⟨G4, hG4⟩ : ∃ G4, G4 = (H'.put nx' (.cells (rep 4 [.int .i64 0]) 0 none false (some 107))).put nx' (.cells (Go.Am.e4 m) 0 none false (some 107)) := ⟨_, rfl⟩
   have hx4 : Ext nx' H' (nx' + 1) G4 := ⟨Nat.le_succ _, fun j hj => by rw [hG4, Heap.put_ne (by omega), Heap.put_ne (by omega)]⟩
   have hok4 : ∀ id o, G4 id = some o → id < nx' + 1 := by rw [hG4]; exact ok_put3 (ok_new hok') Heap.put_eq
   have hb4 : G4 nx' = some (.cells (Go.Am.e4 m) 0 none false (some 107)) := by rw [hG4, Heap.put_eq]
   first | rw [← hG4] | skip
   clear hG4
   repeat (first | refine Trip.seq ?_ | refine Trip.ops ?_ | (refine OpsL.nil ?_; (change Trip _ _ _ _ _)))
   refine OpsL.q (aop_loadAgg (k := 4) (vs := Go.Am.e4 m) (by simp only [ASt.ev, tmPut, ↓reduceIte, Nat.reduceEqDiff, *]; done) (by exact rfl) rfl (by exact rfl) (getc_all hb4 rfl)) ?_
   refine OpsL.c1 (hf := entersNeeds) (hc := (needsC W0 m).ok) (h := ?_)
   rintro v1 n1 H1 ⟨⟨rfl, x1⟩, ok1⟩
   have hx1 := (hx.trans hx4).trans x1
   have hw1 := (hw.ext hx4).ext x1
   have hb1 : H1 nx' = some (.cells (Go.Am.e4 m) 0 none false (some 107)) := (x1.2 nx' (Nat.lt_succ_self _)).trans hb4
   have hob1 : ∀ x ∈ W, ∀ b t, x.ob = some (b, t) → b ≠ nx' := fun x hx b t e => by have := hw.blk x hx b t e; omega
   have hle1 := x1.1
   have hn2 : (needsT m).length = 2 := rfl
   clear hw hb4 hx4 x1 hok4 g
   repeat (first | refine OpsL.q (by exact omv) ?_ | refine Trip.block ?_ | (refine OpsL.nil ?_; (change Trip _ _ _ _ _)))
   refine Trip.mono (Q := fun e st => e = .exit 2 ∧ ∃ (tm' : Nat → Value) (nx2 : Nat) (H2 : Heap) (W2 : List WE), st = ⟨tm', n, H2, nx2⟩ ∧ Ext nx H nx2 H2 ∧ (∀ id o, H2 id = some o → id < nx2) ∧ WaitIn H2 nx nx nx2 (waitM (ms.take i) m 2) W2 ∧ tm' 3 = .map (some nx) ∧ tm' 9 = .slice (some p) ms.length vc ∧ tm' 10 = .int .i64 ms.length ∧ tm' 11 = .int .i64 i) ?_ ?_
   ·refine Trip.inv (fun (j : Nat) st => ∃ (tm' : Nat → Value) (nx2 : Nat) (H2 : Heap) (W2 : List WE), st = ⟨tm', n, H2, nx2⟩ ∧ Ext nx H nx2 H2 ∧ (∀ id o, H2 id = some o → id < nx2) ∧ WaitIn H2 nx nx nx2 (waitM (ms.take i) m j) W2 ∧ (∀ x ∈ W2, ∀ b t, x.ob = some (b, t) → b ≠ nx') ∧ H2 nx' = some (.cells (Go.Am.e4 m) 0 none false (some 107)) ∧ nx' < nx2 ∧
     tm' 3 = .map (some nx) ∧ tm' 5 = .pointer (some ⟨nx', 0, none⟩) ∧ tm' 16 = .agg (twoV (needsT m)).toArray ∧ tm' 17 = .int .i64 j ∧ j ≤ 2 ∧ tm' 9 = .slice (some p) ms.length vc ∧ tm' 10 = .int .i64 ms.length ∧ tm' 11 = .int .i64 i) (fun j => 2 - j) 0 ?_ ?_
    ·exact ⟨_, _, _, W, rfl, hx1, ok1, by rw [waitM_zero]; exact hw1, hob1, hb1, by omega, by simp [tmPut, *], by simp [tmPut, *], by simp [tmPut, *], by simp [tmPut, *], Nat.zero_le _, by simp [tmPut, *], by simp [tmPut, *], by simp [tmPut, *]⟩
    ·clear q3 q9 q10 q11 hw1 hb1 hob1 hx1 ok1
     rintro j st ⟨tm, nx2, H2, W2, rfl, hx2, ok2, hw2, hob2, hb2, hlt2, q3, q5, q16, q17, hj, q9, q10, q11⟩
     by_cases hj2 : j < 2
     ·have hp := two_part (needsT m) hn2 hj2
      have hms := waitM_succ (ms.take i) m hj2
      generalize hte : (needsT m)[j]'(by omega) = t at *
      repeat (first | refine Trip.seq ?_ | refine Trip.ops ?_)
      refine OpsL.lssT ?_
      repeat (first | refine Trip.seq ?_ | (refine OpsL.nil ?_; (change Trip _ _ _ _ _)))
      refine Trip.ifT ?_
      repeat (first | refine Trip.seq ?_ | refine Trip.ops ?_ | refine Trip.block ?_ | (refine Trip.skip ?_; (change Trip _ _ _ _ _)))
      refine OpsL.q (aop_index3 (len := 2) (e := 102) (sz := 2) (v := thV t) (by simp only [ASt.ev, tmPut, ↓reduceIte, Nat.reduceEqDiff, *]; rfl) (by simp only [ASt.ev, tmPut, ↓reduceIte, Nat.reduceEqDiff, *]; rfl) (by exact rfl) (by exact rfl) (by omega) (by omega) (by show getPart _ _ (twoV (needsT m)) ((j : Int).toNat * 2) = _; rw [Int.toNat_natCast]; exact hp)) ?_
      refine OpsL.new (by subst_vars; decide) (aop_alloc (l := rep 2 [.int .i64 0]) (by kernel_rfl)) ?_
      refine OpsL.upd (aop_store (k := 2) (u := thV t) (by simp only [ASt.ev, tmPut, ↓reduceIte, Nat.reduceEqDiff, *]; done) (by simp only [ASt.ev, tmPut, ↓reduceIte, Nat.reduceEqDiff, *]; done) (by exact rfl) rfl (o := .cells (encT t) 0 none false (some 102)) (setc_allN (vs := encT t) Heap.put_eq rfl rfl)) ?_
      obtain ⟨G5, hG5⟩ : ∃ G5, G5 = (H2.put nx2 (.cells (rep 2 [.int .i64 0]) 0 none false (some 102))).put nx2 (.cells (encT t) 0 none false (some 102)) := ⟨_, rfl⟩
      have hx5 : Ext nx2 H2 (nx2 + 1) G5 := ⟨Nat.le_succ _, fun j hj => by rw [hG5, Heap.put_ne (by omega), Heap.put_ne (by omega)]⟩
      have ok5 : ∀ id o, G5 id = some o → id < nx2 + 1 := by rw [hG5]; exact ok_put3 (ok_new ok2) Heap.put_eq
      have hb5 : G5 nx2 = some (.cells (encT t) 0 none false (some 102)) := by rw [hG5, Heap.put_eq]
      first | rw [← hG5] | skip
      clear hG5
      have hbm5 : G5 nx' = some (.cells (Go.Am.e4 m) 0 none false (some 107)) := (hx5.2 nx' hlt2).trans hb2
      repeat (first | refine OpsL.q (by exact omv) ?_ | refine Trip.ops ?_ | (refine OpsL.nil ?_; (change Trip _ _ _ _ _)))
      refine OpsL.q (aop_loadAgg (k := 2) (vs := encT t) (by simp only [ASt.ev, tmPut, ↓reduceIte, Nat.reduceEqDiff, *]; done) (by exact rfl) rfl (by exact rfl) (getc_all hb5 rfl)) ?_
      refine OpsL.q (aop_loadAgg (k := 4) (vs := Go.Am.e4 m) (by simp only [ASt.ev, tmPut, ↓reduceIte, Nat.reduceEqDiff, *]; done) (by exact rfl) rfl (by exact rfl) (getc_all hbm5 rfl)) ?_
      refine OpsL.new (by subst_vars; decide) (aop_buildSlice (l := [(0, .agg (Go.Am.e4 m).toArray)]) (r := (.slice (some ⟨nx2 + 1, 0, none⟩) 1 1, .new (.cells (Go.Am.e4 m) 4 none false (some 107)))) (by simp only [evParts, ASt.ev, tmPut, ↓reduceIte, reduceIte, Option.some.injEq, Nat.reduceEqDiff, *]) (by kernel_rfl)) ?_
      have hx6 : Ext (nx2 + 1) G5 (nx2 + 1 + 1) (G5.put (nx2 + 1) (.cells (Go.Am.e4 m) 4 none false (some 107))) := Ext.newPut
      have ok6 := ok_new (o := .cells (Go.Am.e4 m) 4 none false (some 107)) ok5
      have g6 : (G5.put (nx2 + 1) (.cells (Go.Am.e4 m) 4 none false (some 107))) (nx2 + 1) = some (.cells (Go.Am.e4 m) 4 none false (some 107)) := Heap.put_eq
      generalize G5.put (nx2 + 1) (.cells (Go.Am.e4 m) 4 none false (some 107)) = G6 at *
      have hw6 := (hw2.ext hx5).ext hx6
      have hmr2 := hw2.hmr.2
      obtain ⟨W3, j3, hj3, hk3, he3, hw3, hobs3⟩ := hw6.entry t
      have hle6 : nx2 + 1 + 1 = nx2 + 2 := rfl
      refine OpsL.updV (by subst_vars; decide) (aop_mapEntry3 (by simp only [ASt.ev, tmPut, ↓reduceIte, Nat.reduceEqDiff, *]; done) (by simp only [ASt.ev, tmPut, ↓reduceIte, Nat.reduceEqDiff, *]; rfl) he3) ?_
      have hHA : ∀ q, q ≠ nx → (G6.put nx (.map (W3.map weV) (List.range W3.length) W3.length)) q = G6 q := fun q hq => Heap.put_ne hq
      have okA := ok_put3 (o := .map (W3.map weV) (List.range W3.length) W3.length) ok6 hw6.cell
      generalize G6.put nx (.map (W3.map weV) (List.range W3.length) W3.length) = HA at *
      have hone : RowsAt Go.Am.e4 4 HA (.slice (some ⟨nx2 + 1, 0, none⟩) 1 1) [m] := by
       refine .inr ⟨⟨nx2 + 1, 0, none⟩, 1, rfl, fun q hq => ?_⟩
       have : q = 0 := by simpa using hq
       subst this
       exact getc_all ((hHA (nx2 + 1) (by omega)).trans g6) rfl
      have hbmA : HA nx' = some (.cells (Go.Am.e4 m) 0 none false (some 107)) := by rw [hHA nx' (by omega), hx6.2 nx' (by omega)]; exact hbm5
      have hl3 : (W3[j3].l).length ≤ 3001 := by
       have h1 := hw3.val _ (List.getElem_mem hj3)
       have h2 := waitM_len (ms.take i) m j W3[j3].k
       rw [h1]
       rw [List.length_take] at h2
       omega
      have hblk3 := hw3.blk _ (List.getElem_mem hj3)
      clear he3 g6 hb5 hbm5
      repeat (first | (refine OpsL.q (by exact aop_extract (by simp only [ASt.ev, tmPut, ↓reduceIte, Nat.reduceEqDiff, *]; rfl) (by exact rfl)) ?_))
      refine OpsL.appendO (bytes := 32) (z := rep 4 [.int .i64 0]) e4_len e4_one (by omega) (by subst_vars; decide) (hw3.own _ (List.getElem_mem hj3)) hone (by simp only [ASt.ev, tmPut, ↓reduceIte, Nat.reduceEqDiff, *]; rfl) (by simp only [ASt.ev, tmPut, ↓reduceIte, Nat.reduceEqDiff, *]; done) (fun b t h => by have := hblk3 b t h; omega) (by exact rfl) (by exact rfl) (by exact rfl) (by exact rfl) (by exact rfl) rfl (by simp; omega) (by omega) ?_
      intro v7 nx7 H7 ob7 hA7
      obtain ⟨W4, he4, hw4, hf4, hobs4⟩ := hw3.store hj3 Ext.refl hA7
      have hle7 := hA7.le
      have hc7 : H7 nx = some (.map (W3.map weV) (List.range W3.length) W3.length) := (hA7.same nx (by omega) (fun b t e => (hblk3 b t e).2.2.symm)).trans hw3.cell
      have ok7 := hA7.ok (fun b t h => by have := hblk3 b t h; omega) okA
      have hob3 : ∀ b t, W3[j3].ob = some (b, t) → nx' ≠ b := fun b t e => by
       obtain ⟨y, hy, hye⟩ := hobs3 _ (List.getElem_mem hj3) b t e
       exact (hob2 y hy b t hye).symm
      have hb7 : H7 nx' = some (.cells (Go.Am.e4 m) 0 none false (some 107)) := (hA7.same nx' (by omega) hob3).trans hbmA
      rw [hk3, ← hms] at hw4
      repeat (first | (refine OpsL.q (by exact aop_extract (by simp only [ASt.ev, tmPut, ↓reduceIte, Nat.reduceEqDiff, *]; rfl) (by exact rfl)) ?_))
      refine OpsL.upd (aop_entryStore3 (by simp only [ASt.ev, tmPut, ↓reduceIte, Nat.reduceEqDiff, *]; done) (by simp only [ASt.ev, tmPut, ↓reduceIte, Nat.reduceEqDiff, *]; rfl) (by simp only [ASt.ev, tmPut, ↓reduceIte, Nat.reduceEqDiff, *]; done) he4) ?_
      repeat (first | (refine OpsL.q (by first | exact omv | exact oadd) ?_) | refine Trip.ops ?_ | (refine OpsL.nil ?_; ((repeat (refine blockExit_normal ?_)); first | (change Trip _ _ _ _ _) | (dsimp only))))
      refine ⟨j + 1, ⟨_, nx7, _, W4, rfl, ⟨by have := hx2.1; omega, fun q hq => ?_⟩, ok_put3 ok7 hc7, hw4, fun x hx b t e => ?_, ?_, by omega, by simp [tmPut, *], by simp [tmPut, *], by simp [tmPut, *], by simp [tmPut, *], by omega, by simp [tmPut, *], by simp [tmPut, *], by simp [tmPut, *]⟩, by omega⟩
      ·show Heap.put H7 nx _ q = _
       have := hx2.1
       rw [Heap.put_ne (by omega), hf4 q hq, hHA q (by omega), hx6.2 q (by omega), hx5.2 q (by omega), hx2.2 q hq]
      ·rcases hobs4 x hx b t e with h | ⟨y, hy, t2, hye⟩
       ·omega
       ·obtain ⟨z, hz, hze⟩ := hobs3 y hy b t2 hye
        exact hob2 z hz b t2 hze
      ·show Heap.put H7 nx _ nx' = _
       rw [Heap.put_ne (by omega)]
       exact hb7
     ·have h2 : j = 2 := by omega
      subst h2
      repeat (first | refine Trip.seq ?_ | refine Trip.ops ?_)
      refine OpsL.lssF ?_
      repeat (first | refine Trip.seq ?_ | (refine OpsL.nil ?_; (change Trip _ _ _ _ _)))
      refine Trip.ifF ?_
      repeat (refine Trip.exit ?_; (dsimp only))
      exact ⟨rfl, _, nx2, H2, W2, rfl, hx2, ok2, hw2, by simp [tmPut, *], by simp [tmPut, *], by simp [tmPut, *], by simp [tmPut, *]⟩
   ·clear q3 q9 q10 q11
    rintro e st ⟨rfl, tm', nx2, H2, W2, rfl, hx2, ok2, hw2, q3, q9, q10, q11⟩
    ((repeat (first | refine blockExit_eq ?_ | refine blockExit_normal ?_)); change Trip _ _ _ _ _)
    rw [waitM_two, ← hst] at hw2
    repeat (first | (refine OpsL.q (by first | exact omv | exact oadd) ?_) | refine Trip.ops ?_ | (refine OpsL.nil ?_; (dsimp only)))
    exact ⟨i + 1, ⟨_, nx2, H2, W2, rfl, hx2, ok2, hw2, by simp [tmPut, *], by simp [tmPut, *], by simp [tmPut, *], by simp [tmPut, *], by omega⟩, by omega⟩
  ·have hin : i = ms.length := by omega
   subst hin
   rw [List.take_length] at hw
   repeat (first | refine Trip.seq ?_ | refine Trip.ops ?_)
   refine OpsL.lssF ?_
   repeat (first | refine Trip.seq ?_ | (refine OpsL.nil ?_; (change Trip _ _ _ _ _)))
   refine Trip.ifF ?_
   repeat (first | (refine OpsL.q (by first | exact omv | exact oasg) ?_) | refine Trip.seq ?_ | refine Trip.ops ?_ | (refine Trip.exit ?_; ((repeat (refine blockExit_eq ?_)); change Trip _ _ _ _ _)) | (refine Trip.ret ?_; (dsimp only)) | (refine OpsL.nil ?_; (change Trip _ _ _ _ _)))
   exact ⟨.inr rfl, _, res_tmp, W, by simp [tmPut, *], hw, hx⟩
end Go.Proofs.YtjohiaoepbnicaaGreat
