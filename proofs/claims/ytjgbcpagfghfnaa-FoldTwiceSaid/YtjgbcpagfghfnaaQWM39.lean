import Derived.Test.YtjgbcpagfghfnaaQWM38
import Derived.Test.YtjgbcpagfghfnaaQWM16
set_option linter.unusedVariables false
set_option linter.unusedSimpArgs false
set_option linter.unnecessarySimpa false
namespace Go.Proofs.Ytjgbcpagfghfnaa
open Go.Am Go.RowKit
attribute [local irreducible] aop OpsL Trip blockExit OpsD OpsK OpsR OpsQ
theorem entersFirst : Am.Enters Try.prog 50 := ⟨Try.f50, Try.func50, by kernel_rfl, by kernel_rfl⟩
set_option maxRecDepth 20000 in
set_option maxHeartbeats 16000000 in
theorem firstC (W0 : World) {nx : Nat} {H : Heap} {m : Mo} {V : MoV} (hm : MoIn H m V) (hmod : ModOk m) :
    ACalls Try.prog W0 50 [.agg (moV m V).toArray] nx H fun v nx' H' => v = .agg (c60 (firstL m)).toArray ∧ Ext nx H nx' H' := by
  refine ACalls.by_trip (fn := Try.f50) (c := _) Try.func50 rfl (fun tm n hn0 htm => ?_)
  have e0 : tm 0 = .agg (moV m V).toArray := htm 0
  clear htm
  replace hn0 : n = 33 := hn0
  refine Trip.ok fun hok => ?_
  replace hok : ∀ id o, H id = some o → id < nx := hok
  refine Trip.seq ?_
  refine Trip.ops ?_
  refine OpsL.boxM hm hok ?_ (by (first | (simp only [ASt.ev, tmPut, ↓reduceIte, Nat.reduceEqDiff, *]; done))) (by subst_vars; decide)
  intro G x0 okG hb hG
  clear e0
  have hn60 := hmod.n.2
  obtain ⟨oa, oc, ov⟩ := hG.of.slice
  have oh := hG.of
  obtain ⟨fa, fc, fv⟩ := hG.final.slice
  have fh := hG.final
  rw [ov] at oh
  rw [fv] at fh
  refine OpsL.newC (σ := ⟨nx + 1, fun _ => .old, G⟩) .tmp (aop_alloc (l := c60 []) (by exact rfl)) (by subst_vars; decide) ?_
  intro σ1 hR x1
  have ho1 := OldC.keep x1 (by simp) OldC.refl
  obtain ⟨R, hRn⟩ : ∃ R, (CH.nx ⟨nx + 1, fun _ => .old, G⟩) = R := ⟨_, rfl⟩
  rw [hRn] at hR ⊢
  clear hRn x1
  refine OpsL.nil ?_
  (change Trip _ _ _ _ _)
  refine Trip.seq ?_
  refine Trip.ops ?_
  refine OpsL.newC .self (aop_alloc (l := c60 []) (by exact rfl)) (by subst_vars; decide) ?_
  intro σ2 hA x2
  have ho2 := ho1.keep x2 (by simp)
  replace hR := hR.keep x2 (by simp)
  obtain ⟨A, hAn⟩ : ∃ A, σ1.nx = A := ⟨_, rfl⟩
  rw [hAn] at hA ⊢
  clear hAn x2 ho1
  refine OpsL.nil ?_
  (change Trip _ _ _ _ _)
  refine Trip.seq ?_
  refine Trip.ops ?_
  refine OpsL.newC .table aop_makeMap13 (by subst_vars; decide) ?_
  intro σ3 hM x3
  have ho3 := ho2.keep x3 (by simp)
  replace hR := hR.keep x3 (by simp)
  replace hA := hA.keep x3 (by simp)
  obtain ⟨M, hMn⟩ : ∃ M, σ2.nx = M := ⟨_, rfl⟩
  rw [hMn] at hM ⊢
  clear hMn x3 ho2
  have hP : PtS ⟨nx + 1, fun _ => .old, G⟩ σ3 R A M [] [] := ⟨ho3, ⟨_, rfl, hR⟩, hA, hM.1, hM.2.1, fun _ h => by simp at h, [], 0, hM.2.2⟩
  have g2 := (hb.ext ho3.ext okG).c2
  rw [ov] at g2
  clear ho3 hR hA hM
  repeat (first | (refine OpsL.q (by first | exact oasg | exact ofa | exact old | exact omv | exact olen) ?_) | (refine Trip.seq ?_) | (refine Trip.ops ?_) | (refine Trip.block ?_) | (refine OpsL.nil ?_; (change Trip _ _ _ _ _)))
  clear g2
  refine Trip.inv (fun (p : Nat) s => ∃ tm σ, s = ⟨tm, n, σ.H, σ.nx⟩ ∧ tm 1 = .pointer (some ⟨nx, 0, none⟩) ∧ tm 2 = .pointer (some ⟨R, 0, none⟩) ∧ tm 3 = .pointer (some ⟨A, 0, none⟩) ∧ tm 4 = .map (some M) ∧ tm 10 = .slice oa m.of.length oc ∧ tm 11 = .int .i64 m.of.length ∧ tm 12 = .int .i64 p ∧ p ≤ m.of.length ∧ PtS ⟨nx + 1, fun _ => .old, G⟩ σ R A M (numQ ((List.range p).map (firstK m))).1 (numL ((List.range p).map (firstK m)))) (fun p => m.of.length - p) 0 ?_ ?_
  · exact ⟨_, σ3, rfl, by simp [tmPut, *], by simp [tmPut, *], by simp [tmPut, *], by simp [tmPut, *], by simp [tmPut, *], by simp [tmPut, *], by simp [tmPut, *], Nat.zero_le _, hP⟩
  clear hP
  rintro p s ⟨tm, σ, rfl, t1, t2, t3, t4, t10, t11, t12, hp, h⟩
  repeat (first | (refine OpsL.q (by first | exact omv | exact olss) ?_) | (refine Trip.seq ?_) | (refine Trip.ops ?_) | (refine Trip.block ?_) | (refine Trip.itA (fun _ => ?_) (fun _ => ?_)) | (refine Trip.skip ?_; (change Trip _ _ _ _ _)) | (refine OpsL.nil ?_; (change Trip _ _ _ _ _)))
  · have hlt : p < m.of.length := by omega
    obtain ⟨q1, rfl, hc1⟩ := IntsAt.atI oh (show (0 : Int) ≤ p by omega) (show (p : Int) < m.of.length by omega)
    rw [Int.toNat_natCast] at hc1
    replace hc1 := cell_ext h.old.ext okG hc1
    have hfl := Nat.le_of_eq hmod.fl.symm
    obtain ⟨q2, rfl, hc2⟩ := BoolsAt.atI fh (show (0 : Int) ≤ p by omega) (show (p : Int) < m.final.length by omega)
    rw [Int.toNat_natCast] at hc2
    have g4 := (hb.ext h.old.ext okG).c4
    rw [fv] at g4
    have hof := hmod.of p hlt
    have hk := hmod.k.2
    have hsn : (List.range (p + 1)).map (firstK m) = (List.range p).map (firstK m) ++ [firstK m p] := by rw [List.range_succ, List.map_append]; rfl
    have hnl : (numL ((List.range p).map (firstK m))).length = p := by unfold numL; rw [num_len]; simp
    have hkl : (numQ ((List.range p).map (firstK m))).1.length ≤ p := by have := num_keys ((List.range p).map (firstK m)); simpa using this
    have hsS := numQ_snoc ((List.range p).map (firstK m)) (firstK m p)
    rw [← hsn] at hsS
    unfold numL at hnl h
    clear hsn
    obtain ⟨N, hN⟩ : ∃ N, numQ ((List.range p).map (firstK m)) = N := ⟨_, rfl⟩
    rw [hN] at hnl hkl hsS h
    clear hN
    have hw : IntKind.i8.wrap (m.of.getD p 0) = m.of.getD p 0 := wrap_i8 _ (by omega)
    repeat (first | (refine OpsL.q (by first | exact omv | exact oixa | exact old | exact oasg) ?_) | (refine Trip.seq ?_) | (refine Trip.ops ?_) | (refine OpsL.nil ?_; (change Trip _ _ _ _ _)))
    refine OpsL.p (by subst_vars; decide) (aop_conv (by (first | (simp only [ASt.ev, tmPut, ↓reduceIte, Nat.reduceEqDiff, *]; rfl))) (by exact rfl) (by exact rfl)) ?_
    rw [hw]
    clear hw
    refine OpsL.p (by subst_vars; decide) (aop_build (l := [(0, .int .i8 (m.of.getD p 0))]) (v := .agg (i8 (view0 (m.of.getD p 0) [])).toArray) (by simp [evParts, ASt.ev, tmPut]) (by kernel_rfl)) ?_
    refine OpsL.newC .next (aop_alloc (l := i8 (view0 0 [])) (by exact rfl)) (by subst_vars; decide) ?_
    intro σ4 hv x4
    obtain ⟨B, hBn⟩ : ∃ B, σ.nx = B := ⟨_, rfl⟩
    rw [hBn] at hv ⊢
    clear hBn
    replace h := h.keep x4 (by simp) (by simp) (by simp) (by simp)
    refine OpsL.setAllC (vs := i8 (view0 (m.of.getD p 0) [])) hv (by exact rfl) rfl rfl (i8_one _) (by (first | (simp only [ASt.ev, tmPut, ↓reduceIte, Nat.reduceEqDiff, *]; done))) (by (first | (simp only [ASt.ev, tmPut, ↓reduceIte, Nat.reduceEqDiff, *]; done))) ?_
    intro σ5 hv5 x5
    replace h := h.keep x5 (by simp) (by simp) (by simp) (by simp)
    clear hv hc1 x4 x5
    replace hc2 := cell_ext h.old.ext okG hc2
    have g4 := (hb.ext h.old.ext okG).c4
    rw [fv] at g4
    refine OpsL.nil ?_
    (change Trip _ _ _ _ _)
    obtain ⟨fb, hfb⟩ : ∃ b, m.final.getD p false = b := ⟨_, rfl⟩
    rw [hfb] at hc2
    repeat (first | (refine OpsL.q (by first | exact ofa | exact old | exact omv | exact oixa) ?_) | (refine Trip.seq ?_) | (refine Trip.ops ?_) | (refine OpsL.nil ?_; (change Trip _ _ _ _ _)))
    clear hc2 g4
    cases fb
    · refine Trip.ifF ?_
      repeat (first | (refine OpsL.q (by exact omv) ?_) | (refine Trip.ops ?_) | (refine Trip.skip ?_; (change Trip _ _ _ _ _)))
      have hvl : (view0 (m.of.getD p 0) [0]).length = 61 := rfl
      have hall : getc σ5.H ⟨B, 0, none⟩ 61 = some (i8 (view0 (m.of.getD p 0) [0])) := getc_all hv5.2.2 rfl
      have hkl2 : N.1.length ≤ 100 := by omega
      have hkey : firstK m p = view0 (m.of.getD p 0) [0] := by simp only [firstK, hfb]; rfl
      rw [hkey] at hsS
      clear hkey
      refine OpsL.p (by subst_vars; decide) (aop_loadAgg (k := 61) (by (first | (simp only [ASt.ev, tmPut, ↓reduceIte, Nat.reduceEqDiff, *]; done))) (by exact rfl) rfl (by exact rfl) hall) ?_
      refine OpsL.c2 (hf := entersTally) (hc := (tallyC W0 h.t3 h.t1 hvl hkl2)) (h := ?_)
      rintro v nx1 H1 ⟨rfl, hle, hs, ht⟩
      obtain ⟨σ6, rfl, rfl, h⟩ := h.tab hle hs ht
      clear hall hle hs ht hvl
      refine OpsL.p (by subst_vars; decide) (aop_indexAddr13 (sz := 1) (by (first | (simp only [ASt.ev, tmPut, ↓reduceIte, Nat.reduceEqDiff, *]; rfl))) (by (first | (simp only [ASt.ev, tmPut, ↓reduceIte, Nat.reduceEqDiff, *]; rfl))) (by exact rfl) (by exact rfl) (by omega) (by omega)) ?_
      refine OpsL.setC (k := p) (v := .int .i8 (N.1.idxOf (view0 (m.of.getD p 0) [0]))) (cs' := c60 (N.2 ++ [(N.1.idxOf (view0 (m.of.getD p 0) [0]) : Int)])) h.a (by rw [c60_len (by omega)]; omega) (c60_snoc hnl (by omega)) (by exact rfl) rfl rfl (by (first | (simp only [ASt.ev, tmPut, ↓reduceIte, Nat.reduceEqDiff, *]; rfl))) (by (first | (simp only [ASt.ev, tmPut, ↓reduceIte, Nat.reduceEqDiff, *]; done))) (by show (⟨A, 0 + (p : Int).toNat * 1, none⟩ : Addr) = _; congr 1; omega) ?_
      intro τ hA xt _
      replace h := h.setA xt hA
      refine OpsL.nil ?_
      ((repeat (refine blockExit_normal ?_)); change Trip _ _ _ _ _)
      repeat (first | (refine OpsL.q (by first | exact omv | exact oadd) ?_) | (refine Trip.ops ?_) | (refine OpsL.nil ?_; (dsimp only)))
      exact ⟨p + 1, ⟨_, τ, rfl, by simp [tmPut, *], by simp [tmPut, *], by simp [tmPut, *], by simp [tmPut, *], by simp [tmPut, *], by simp [tmPut, *], by simp [tmPut, *], by omega, by unfold numL; rw [hsS, num1_li]; exact h⟩, by omega⟩
    · refine Trip.ifT ?_
      refine Trip.ops ?_
      refine OpsL.p (by subst_vars; decide) (aop_indexAddr13 (sz := 1) (by (first | (simp only [ASt.ev, tmPut, ↓reduceIte, Nat.reduceEqDiff, *]; rfl))) (by (first | (simp only [ASt.ev, tmPut, ↓reduceIte, Nat.reduceEqDiff, *]; rfl))) (by exact rfl) (by exact rfl) (by omega) (by omega)) ?_
      refine OpsL.setC (k := 1) (v := .int .i8 1) (cs' := i8 (view0 (m.of.getD p 0) [1])) hv5 (by show 1 < 61; omega) rfl (by exact rfl) rfl rfl (by (first | (simp only [ASt.ev, tmPut, ↓reduceIte, Nat.reduceEqDiff, *]; rfl))) (by rfl) rfl ?_
      intro σ7 hv7 x7 _
      replace h := h.keep x7 (by simp) (by simp) (by simp) (by simp)
      clear hv5
      refine OpsL.nil ?_
      (change Trip _ _ _ _ _)
      repeat (first | (refine OpsL.q (by exact omv) ?_) | (refine Trip.ops ?_))
      have hvl : (view0 (m.of.getD p 0) [1]).length = 61 := rfl
      have hall : getc σ7.H ⟨B, 0, none⟩ 61 = some (i8 (view0 (m.of.getD p 0) [1])) := getc_all hv7.2.2 rfl
      have hkl2 : N.1.length ≤ 100 := by omega
      have hkey : firstK m p = view0 (m.of.getD p 0) [1] := by simp only [firstK, hfb]; rfl
      rw [hkey] at hsS
      clear hkey
      refine OpsL.p (by subst_vars; decide) (aop_loadAgg (k := 61) (by (first | (simp only [ASt.ev, tmPut, ↓reduceIte, Nat.reduceEqDiff, *]; done))) (by exact rfl) rfl (by exact rfl) hall) ?_
      refine OpsL.c2 (hf := entersTally) (hc := (tallyC W0 h.t3 h.t1 hvl hkl2)) (h := ?_)
      rintro v nx1 H1 ⟨rfl, hle, hs, ht⟩
      obtain ⟨σ6, rfl, rfl, h⟩ := h.tab hle hs ht
      clear hall hle hs ht hvl
      refine OpsL.p (by subst_vars; decide) (aop_indexAddr13 (sz := 1) (by (first | (simp only [ASt.ev, tmPut, ↓reduceIte, Nat.reduceEqDiff, *]; rfl))) (by (first | (simp only [ASt.ev, tmPut, ↓reduceIte, Nat.reduceEqDiff, *]; rfl))) (by exact rfl) (by exact rfl) (by omega) (by omega)) ?_
      refine OpsL.setC (k := p) (v := .int .i8 (N.1.idxOf (view0 (m.of.getD p 0) [1]))) (cs' := c60 (N.2 ++ [(N.1.idxOf (view0 (m.of.getD p 0) [1]) : Int)])) h.a (by rw [c60_len (by omega)]; omega) (c60_snoc hnl (by omega)) (by exact rfl) rfl rfl (by (first | (simp only [ASt.ev, tmPut, ↓reduceIte, Nat.reduceEqDiff, *]; rfl))) (by (first | (simp only [ASt.ev, tmPut, ↓reduceIte, Nat.reduceEqDiff, *]; done))) (by show (⟨A, 0 + (p : Int).toNat * 1, none⟩ : Addr) = _; congr 1; omega) ?_
      intro τ hA xt _
      replace h := h.setA xt hA
      refine OpsL.nil ?_
      ((repeat (refine blockExit_normal ?_)); change Trip _ _ _ _ _)
      repeat (first | (refine OpsL.q (by first | exact omv | exact oadd) ?_) | (refine Trip.ops ?_) | (refine OpsL.nil ?_; (dsimp only)))
      exact ⟨p + 1, ⟨_, τ, rfl, by simp [tmPut, *], by simp [tmPut, *], by simp [tmPut, *], by simp [tmPut, *], by simp [tmPut, *], by simp [tmPut, *], by simp [tmPut, *], by omega, by unfold numL; rw [hsS, num1_li]; exact h⟩, by omega⟩
  · have hp2 : p = m.of.length := by omega
    subst hp2
    obtain ⟨cs, hcs, hR⟩ := h.r
    have hnl : (numL ((List.range m.of.length).map (firstK m))).length ≤ 60 := by unfold numL; rw [num_len]; simpa using hn60
    have hall : getc σ.H ⟨A, 0, none⟩ 60 = some (c60 (numL ((List.range m.of.length).map (firstK m)))) := getc_all h.a.2.2 (c60_len hnl)
    repeat (first | (refine Trip.seq ?_) | (refine Trip.ops ?_) | (refine Trip.exit ?_; ((repeat (refine blockExit_eq ?_)); change Trip _ _ _ _ _)))
    refine OpsL.p (by subst_vars; decide) (aop_loadAgg (k := 60) (by (first | (simp only [ASt.ev, tmPut, ↓reduceIte, Nat.reduceEqDiff, *]; done))) (by exact rfl) rfl (by exact rfl) hall) ?_
    refine OpsL.setAllC (vs := c60 (numL ((List.range m.of.length).map (firstK m)))) hR (by exact rfl) (c60_len hnl) (by rw [hcs, c60_len hnl]) (i8_one _) (by (first | (simp only [ASt.ev, tmPut, ↓reduceIte, Nat.reduceEqDiff, *]; done))) (by (first | (simp only [ASt.ev, tmPut, ↓reduceIte, Nat.reduceEqDiff, *]; done))) ?_
    intro τ ho hx
    refine OpsL.nil ?_
    (change Trip _ _ _ _ _)
    refine Trip.ret ?_
    exact ⟨.inr rfl, _, res_cell (by simp [tmPut, *]) (readAt_agg (by exact rfl) rfl (by exact rfl) (getc_all ho.2.2 (c60_len hnl))), rfl, x0.trans (h.old.keep hx (by simp)).ext⟩
theorem entersNumbers13 : Am.Enters Try.prog 42 := ⟨Try.f42, Try.func42, by kernel_rfl, by kernel_rfl⟩
set_option maxRecDepth 20000 in
set_option maxHeartbeats 16000000 in
theorem numbersC (W0 : World) {nx : Nat} {H : Heap} {c : List Int} (hk : c.length ≤ 60) (hcb : ∀ x ∈ c, 0 ≤ x ∧ x ≤ 100) :
    ACalls Try.prog W0 42 [.agg (c60 c).toArray, .int .i64 c.length] nx H fun v nx' H' => NewP 3 nx nx' H' v (c.map (.int .i64 ·)) ∧ Ext nx H nx' H' := by
  refine ACalls.by_trip (fn := Try.f42) (c := _) Try.func42 rfl (fun tm n hn0 htm => ?_)
  have e0 : tm 0 = .agg (c60 c).toArray := htm 0
  have e1 : tm 1 = .int .i64 c.length := htm 1
  clear htm
  replace hn0 : n = 23 := hn0
  refine Trip.ok fun hok => ?_
  replace hok : ∀ id o, H id = some o → id < nx := hok
  refine Trip.seq ?_
  refine Trip.ops ?_
  refine OpsL.new (by subst_vars; decide) (aop_box (v := .agg (c60 c).toArray) (by (first | (simp only [ASt.ev, tmPut, ↓reduceIte, Nat.reduceEqDiff, *]; done)))) ?_
  obtain ⟨G, hG⟩ : ∃ G, (H.put nx (.cells (c60 c) 0 none false (some 72))) = G := ⟨_, rfl⟩
  have hb : G nx = some (.cells (c60 c) 0 none false (some 72)) := by rw [← hG]; exact Heap.put_eq
  have x0 : Ext nx H (nx + 1) G := by rw [← hG]; exact Ext.newPut
  change OpsL _ _ _ _ ⟨_, _, H.put nx (.cells (c60 c) 0 none false (some 72)), _⟩ _
  rw [hG]
  clear hG e0
  repeat (first | (refine OpsL.q (by first | exact oasg | exact omv) ?_) | (refine Trip.seq ?_) | (refine Trip.ops ?_) | (refine OpsL.nil ?_; (change Trip _ _ _ _ _)))
  refine OpsL.new (by subst_vars; decide) (aop_makeSlice (by (first | (simp only [ASt.ev, tmPut, ↓reduceIte, Nat.reduceEqDiff, *]; done))) (by (first | (simp only [ASt.ev, tmPut, ↓reduceIte, Nat.reduceEqDiff, *]; done))) (aMakeSlice_one (m := c.length) (bytes := 8) (z := .int .i64 0) (by exact rfl) (by exact rfl) (by exact rfl) (by exact rfl) (by omega) (by omega))) ?_
  have hF0 : (G.put (nx + 1) (.cells (List.replicate c.length (.int .i64 0)) 1 none false (some 3))) (nx + 1) = some (.cells ((([] : List Int) ++ List.replicate (c.length - 0) 0).map (.int .i64 ·)) 1 none false (some 3)) := by rw [Heap.put_eq]; simp
  have x1 : Ext (nx + 1) G (nx + 1 + 1) (G.put (nx + 1) (.cells (List.replicate c.length (.int .i64 0)) 1 none false (some 3))) := Ext.newPut
  repeat (first | (refine OpsL.q (by first | exact oasg | exact omv | exact olen) ?_) | (refine Trip.seq ?_) | (refine Trip.ops ?_) | (refine Trip.block ?_) | (refine OpsL.nil ?_; (change Trip _ _ _ _ _)))
  refine Trip.inv (fun (i : Nat) s => ∃ (tm : Nat → Value) (F : Heap), s = ⟨tm, n, F, nx + 1 + 1⟩ ∧ Ext (nx + 1) G (nx + 1 + 1) F ∧ F (nx + 1) = some (.cells ((c.take i ++ List.replicate (c.length - i) 0).map (.int .i64 ·)) 1 none false (some 3)) ∧ tm 2 = .pointer (some ⟨nx, 0, none⟩) ∧ tm 5 = .slice (some ⟨nx + 1, 0, none⟩) c.length c.length ∧ tm 10 = .int .i64 c.length ∧ tm 11 = .int .i64 i ∧ i ≤ c.length) (fun i => c.length - i) 0 ?_ ?_
  · exact ⟨_, _, rfl, x1, hF0, by simp [tmPut, *], by simp [tmPut, *], by simp [tmPut, *], by simp [tmPut, *], by omega⟩
  clear hF0 x1 e1
  rintro i s ⟨tm, F, rfl, hx, hF, t2, t5, t10, t11, hi⟩
  repeat (first | (refine OpsL.q (by first | exact omv | exact olss) ?_) | (refine Trip.seq ?_) | (refine Trip.ops ?_) | (refine Trip.block ?_) | (refine Trip.itA (fun _ => ?_) (fun _ => ?_)) | (refine Trip.skip ?_; (change Trip _ _ _ _ _)) | (refine OpsL.nil ?_; (change Trip _ _ _ _ _)))
  · have hlt : i < c.length := by omega
    have hci : i < c.length := by omega
    have ci : cellAt F ⟨nx, 0 + (i : Int).toNat * 1, none⟩ (.int .i8 (c.getD i 0)) := by
      rw [Int.toNat_natCast, Nat.mul_one, Nat.zero_add]
      refine cell_of (by rw [hx.2 nx (by omega)]; exact hb) ?_
      exact c60_get (by omega) (by omega)
    have hsn : c.take (i + 1) = c.take i ++ [c.getD i 0] := by rw [List.take_succ_eq_append_getElem hci, List.getD_eq_getElem?_getD, List.getElem?_eq_getElem hci]; rfl
    have htl : (c.take i).length = i := by rw [List.length_take]; omega
    have hset := rep_snoc (n := c.length) (z := (0 : Int)) (x := c.getD i 0) htl hlt
    rw [← hsn] at hset
    have hcx := hcb _ (getD_memI hci)
    have hw : IntKind.i64.wrap (c.getD i 0) = c.getD i 0 := by rw [wrap_i64]; omega
    have hcl : i < ((c.take i ++ List.replicate (c.length - i) 0).map (Value.int .i64 ·)).length := by simp; omega
    clear htl hsn hcx
    repeat (first | (refine OpsL.q (by first | exact omv | exact oasg) ?_) | (refine Trip.ops ?_) | (refine OpsL.nil ?_; (change Trip _ _ _ _ _)))
    refine OpsL.p (by subst_vars; decide) (aop_indexAddr13 (sz := 1) (by (first | (simp only [ASt.ev, tmPut, ↓reduceIte, Nat.reduceEqDiff, *]; rfl))) (by (first | (simp only [ASt.ev, tmPut, ↓reduceIte, Nat.reduceEqDiff, *]; rfl))) (by exact rfl) (by exact rfl) (by omega) (by omega)) ?_
    repeat (first | (refine OpsL.q (by exact old) ?_))
    refine OpsL.p (by subst_vars; decide) (aop_conv (by (first | (simp only [ASt.ev, tmPut, ↓reduceIte, Nat.reduceEqDiff, *]; rfl))) (by exact rfl) (by exact rfl)) ?_
    rw [hw]
    clear hw ci
    repeat (first | (refine OpsL.q (by exact oixa) ?_))
    refine OpsL.storeAt (a := ⟨nx + 1, 0 + (i : Int).toNat * 1, none⟩) (v := .int .i64 (c.getD i 0)) (cs' := (c.take (i + 1) ++ List.replicate (c.length - (i + 1)) 0).map (.int .i64 ·)) i (by (first | (simp only [ASt.ev, tmPut, ↓reduceIte, Nat.reduceEqDiff, *]; rfl))) (by (first | (simp only [ASt.ev, tmPut, ↓reduceIte, Nat.reduceEqDiff, *]; done))) (by exact rfl) rfl rfl hF (by simp) hcl (by rw [set_ints, hset]) ?_
    repeat (first | (refine OpsL.q (by first | exact omv | exact oadd) ?_) | (refine Trip.ops ?_) | (refine OpsL.nil ?_; ((repeat (refine blockExit_normal ?_)); first | (change Trip _ _ _ _ _) | (dsimp only))))
    exact ⟨i + 1, ⟨_, _, rfl, ⟨hx.1, fun j hj => by rw [Heap.put_ne (by omega)]; exact hx.2 j hj⟩, Heap.put_eq, by simp [tmPut, *], by simp [tmPut, *], by simp [tmPut, *], by simp [tmPut, *], by omega⟩, by omega⟩
  · have hi2 : i = c.length := by omega
    subst hi2
    repeat (first | (refine OpsL.q (by first | exact omv | exact oasg) ?_) | (refine Trip.seq ?_) | (refine Trip.ops ?_) | (refine Trip.exit ?_; ((repeat (refine blockExit_eq ?_)); change Trip _ _ _ _ _)) | (refine Trip.ret ?_; (dsimp only)) | (refine OpsL.nil ?_; (change Trip _ _ _ _ _)))
    rw [List.take_length, Nat.sub_self, List.replicate_zero, List.append_nil] at hF
    exact ⟨.inr rfl, _, res_tmp, ⟨nx + 1, by omega, by omega, by simp [tmPut, *], hF⟩, x0.trans hx⟩
end Go.Proofs.Ytjgbcpagfghfnaa
namespace Go.Am
open Go.RowKit
def abT (m : Mo) (j p : Nat) : List Int := if m.of.getD p 0 = 0 then [] else (m.ret.getD p []).getD j []
theorem aboveF_eq (m : Mo) (j : Nat) : aboveF m j = (List.range m.of.length).map (abT m j) := rfl
def belT (m : Mo) (j i q : Nat) : List Int := ((List.range i).filter fun p => decide (m.of.getD p 0 ≠ 0)).map fun p => ((m.ret.getD p []).getD j []).getD q 0
theorem belowF_eq (m : Mo) (j : Nat) : belowF m j = (List.range m.of.length).map (belT m j m.of.length) := rfl
theorem belT_succ (m : Mo) (j i q : Nat) : belT m j (i + 1) q = belT m j i q ++ (if m.of.getD i 0 = 0 then [] else [((m.ret.getD i []).getD j []).getD q 0]) := by
  unfold belT
  rw [List.range_succ, List.filter_append, List.map_append]
  congr 1
  by_cases h : m.of.getD i 0 = 0
  · rw [if_pos h]; simp at h; simp [h]
  · rw [if_neg h]; simp at h; simp [h]
theorem belT_len (m : Mo) (j i q : Nat) : (belT m j i q).length ≤ i := by
  unfold belT
  rw [List.length_map]
  have := List.length_filter_le (fun p => decide (m.of.getD p 0 ≠ 0)) (List.range i)
  simpa using this
def RowsV (H : Heap) (vs : List SV) (T : Nat → List Int) : Prop := ∀ q, q < vs.length → ∃ u, vs[q]? = some u ∧ IntsAt H (slV u) (T q)
theorem RowsV.at {G0 H : Heap} {b e : Nat} {tg : Option Nat} {ro : Bool} {el : Option TypeId} {vs : List SV} {T : Nat → List Int} {n : Nat} (h : RowsV G0 vs T) (hG : ∀ u l, IntsAt G0 u l → IntsAt H u l) (hn : vs.length = n) (hb : H b = some (.cells (vs.map slV) e tg ro el)) : L2At H (.slice (some ⟨b, 0, tg⟩) n n) ((List.range n).map T) := by
  refine .inr ⟨⟨b, 0, tg⟩, n, by simp, fun i hi => ?_⟩
  simp only [List.length_map, List.length_range] at hi
  obtain ⟨u, h1, h2⟩ := h i (by omega)
  refine ⟨slV u, ?_, by simpa using hG _ _ h2⟩
  rw [Nat.zero_add]
  exact cell_of hb (by rw [List.getElem?_map, h1]; rfl)
def Stab (B nx nx' : Nat) (H' : Heap) (P : Heap → Prop) : Prop := ∀ H2, (∀ i, i < B → H2 i = H' i) → (∀ i, nx ≤ i → i < nx' → H2 i = H' i) → P H2
theorem Stab.now {B nx nx' : Nat} {H' : Heap} {P : Heap → Prop} (h : Stab B nx nx' H' P) : P H' := h H' (fun _ _ => rfl) (fun _ _ _ => rfl)
end Go.Am
namespace Go.Proofs.Ytjgbcpagfghfnaa
open Go.Am Go.RowKit
attribute [local irreducible] aop OpsL Trip blockExit OpsD OpsK OpsR OpsQ
theorem entersAbove : Am.Enters Try.prog 55 := ⟨Try.f55, Try.func55, by kernel_rfl, by kernel_rfl⟩
set_option maxRecDepth 20000 in
set_option maxHeartbeats 16000000 in
theorem aboveC (W0 : World) {nx B0 : Nat} {H G0 : Heap} {m : Mo} {V : MoV} {j : Nat} (hm0 : MoIn G0 m V) (ok0 : ∀ id o, G0 id = some o → id < B0) (hx0 : Ext B0 G0 nx H) (hmod : ModOk m) (hj : (j : Int) < m.closings) :
    ACalls Try.prog W0 55 [.agg (moV m V).toArray, .int .i64 j] nx H fun v nx' H' => Stab B0 nx nx' H' (fun H2 => L2At H2 v (aboveF m j)) ∧ Ext nx H nx' H' := by
  have hm := hm0.ext hx0 ok0
  refine ACalls.by_trip (fn := Try.f55) (c := _) Try.func55 rfl (fun tm n hn0 htm => ?_)
  have e0 : tm 0 = .agg (moV m V).toArray := htm 0
  have e1 : tm 1 = .int .i64 j := htm 1
  clear htm
  replace hn0 : n = 35 := hn0
  refine Trip.ok fun hok => ?_
  replace hok : ∀ id o, H id = some o → id < nx := hok
  refine Trip.seq ?_
  refine Trip.ops ?_
  refine OpsL.boxM hm hok ?_ (by (first | (simp only [ASt.ev, tmPut, ↓reduceIte, Nat.reduceEqDiff, *]; done))) (by subst_vars; decide)
  intro G x0 okG hb hG
  clear e0
  have y0 := hx0.trans x0
  have hn60 := hmod.n.2
  obtain ⟨oa, oc, ov⟩ := hG.of.slice
  have oh := hG.of
  have g2 := hb.c2
  rw [ov] at oh g2
  repeat (first | (refine OpsL.q (by first | exact oasg | exact ofa | exact old | exact olen) ?_) | (refine Trip.seq ?_) | (refine Trip.ops ?_) | (refine OpsL.nil ?_; (change Trip _ _ _ _ _)))
  refine OpsL.new (by subst_vars; decide) (aop_makeSlice (by (first | (simp only [ASt.ev, tmPut, ↓reduceIte, Nat.reduceEqDiff, *]; done))) (by (first | (simp only [ASt.ev, tmPut, ↓reduceIte, Nat.reduceEqDiff, *]; done))) (aMakeSlice_one (m := m.of.length) (bytes := 24) (z := .slice none 0 0) (by exact rfl) (by exact rfl) (by exact rfl) (by exact rfl) (by omega) (by omega))) ?_
  obtain ⟨F, hF⟩ : ∃ F, (G.put (nx + 1) (.cells (List.replicate m.of.length (.slice none 0 0)) 1 none false (some 22))) = F := ⟨_, rfl⟩
  have hf : F (nx + 1) = some (.cells ((List.replicate m.of.length ((none, 0, 0) : SV)).map slV) 1 none false (some 22)) := by rw [← hF, Heap.put_eq, List.map_replicate]; rfl
  have x1 : Ext (nx + 1) G (nx + 1 + 1) F := by rw [← hF]; exact Ext.newPut
  rw [hF]
  clear hF
  replace g2 := cell_ext x1 okG g2
  repeat (first | (refine OpsL.q (by first | exact oasg | exact ofa | exact old | exact omv | exact olen) ?_) | (refine Trip.seq ?_) | (refine Trip.ops ?_) | (refine Trip.block ?_) | (refine OpsL.nil ?_; (change Trip _ _ _ _ _)))
  clear g2
  refine Trip.inv (fun (p : Nat) s => ∃ (tm : Nat → Value) (F : Heap) (vs : List SV), s = ⟨tm, n, F, nx + 1 + 1⟩ ∧ Ext (nx + 1) G (nx + 1 + 1) F ∧ F (nx + 1) = some (.cells (vs.map slV) 1 none false (some 22)) ∧ vs.length = m.of.length ∧ RowsV G0 vs (fun q => if q < p then abT m j q else []) ∧ tm 1 = .int .i64 j ∧ tm 2 = .pointer (some ⟨nx, 0, none⟩) ∧ tm 5 = .slice (some ⟨nx + 1, 0, none⟩) m.of.length m.of.length ∧ tm 13 = .slice oa m.of.length oc ∧ tm 14 = .int .i64 m.of.length ∧ tm 15 = .int .i64 p ∧ p ≤ m.of.length) (fun p => m.of.length - p) 0 ?_ ?_
  · refine ⟨_, _, _, rfl, x1, hf, by simp, fun q hq => ?_, by simp [tmPut, *], by simp [tmPut, *], by simp [tmPut, *], by simp [tmPut, *], by simp [tmPut, *], by simp [tmPut, *], by omega⟩
    rw [List.length_replicate] at hq
    exact ⟨(none, 0, 0), by rw [List.getElem?_replicate, if_pos hq], .inl ⟨0, rfl, rfl⟩⟩
  clear hf x1 e1
  rintro p s ⟨tm, F, vs, rfl, hx, hf, hvl, hv, t1, t2, t5, t13, t14, t15, hp⟩
  replace hvl : PLift (vs.length = m.of.length) := ⟨hvl⟩
  repeat (first | (refine OpsL.q (by first | exact omv | exact olss) ?_) | (refine Trip.seq ?_) | (refine Trip.ops ?_) | (refine Trip.block ?_) | (refine Trip.itA (fun _ => ?_) (fun _ => ?_)) | (refine Trip.skip ?_; (change Trip _ _ _ _ _)) | (refine OpsL.nil ?_; (change Trip _ _ _ _ _)))
  · have hlt : p < m.of.length := by omega
    obtain ⟨q1, rfl, hc1⟩ := IntsAt.atI oh (show (0 : Int) ≤ p by omega) (show (p : Int) < m.of.length by omega)
    rw [Int.toNat_natCast] at hc1
    replace hc1 := cell_ext hx okG hc1
    obtain ⟨k, hk⟩ : ∃ k, m.of.getD p 0 = k := ⟨_, rfl⟩
    rw [hk] at hc1
    have hstep : ∀ {vs' : List SV} {u : SV}, (∀ q, q ≠ p → vs'[q]? = vs[q]?) → vs'.length = vs.length → (p < vs.length → vs'[p]? = some u) → IntsAt G0 (slV u) (abT m j p) → RowsV G0 vs' (fun q => if q < p + 1 then abT m j q else []) := by
      intro vs' u h1 h2 h3 h5 q hq
      by_cases e : q = p
      · subst e
        exact ⟨u, h3 (by omega), by simp only [Nat.lt_succ_self, if_true]; exact h5⟩
      · obtain ⟨w, w1, w2⟩ := hv q (by omega)
        refine ⟨w, by rw [h1 q e]; exact w1, ?_⟩
        have : (if q < p + 1 then abT m j q else []) = if q < p then abT m j q else [] := by
          by_cases e2 : q < p
          · rw [if_pos e2, if_pos (by omega)]
          · rw [if_neg e2, if_neg (by omega)]
        show IntsAt G0 (slV w) (if q < p + 1 then abT m j q else [])
        rw [this]
        exact w2
    repeat (first | (refine OpsL.q (by first | exact omv | exact oixa | exact old | exact oasg) ?_) | (refine Trip.seq ?_) | (refine Trip.ops ?_) | (refine OpsL.nil ?_; (change Trip _ _ _ _ _)))
    clear hc1
    by_cases h0 : k = 0
    · refine OpsL.neqF ?_ (c := h0)
      have hab : abT m j p = [] := by unfold abT; rw [hk, if_pos h0]
      clear h0 hk
      repeat (first | (refine OpsL.nil ?_; (change Trip _ _ _ _ _)))
      refine Trip.ifF ?_
      repeat (first | (refine OpsL.q (by first | exact omv | exact oadd) ?_) | (refine Trip.ops ?_) | (refine Trip.skip ?_; ((repeat (refine blockExit_normal ?_)); change Trip _ _ _ _ _)) | (refine OpsL.nil ?_; (dsimp only)))
      obtain ⟨u, u1, u2⟩ := hv p (by have := hvl.down; omega)
      refine ⟨p + 1, ⟨_, F, vs, rfl, hx, hf, hvl.down, hstep (u := u) (fun _ _ => rfl) rfl (fun _ => u1) ?_, by simp [tmPut, *], by simp [tmPut, *], by simp [tmPut, *], by simp [tmPut, *], by simp [tmPut, *], by simp [tmPut, *], by omega⟩, by omega⟩
      rw [hab]
      have : (if p < p then abT m j p else []) = [] := if_neg (by omega)
      simp only [this] at u2
      exact u2
    · refine OpsL.neqT ?_ (c := h0)
      have hz : m.of.getD p 0 ≠ 0 := by rw [hk]; exact h0
      have hab : abT m j p = (m.ret.getD p []).getD j [] := by unfold abT; rw [if_neg hz]
      have hr1 := (hmod.ret1 p hlt hz).1
      clear h0 hk
      obtain ⟨ra, rc, rv⟩ := hm0.ret.slice
      have rh := hm0.ret
      have g7 := (hb.ext hx okG).c7
      rw [rv] at rh g7
      have hpr := Nat.lt_of_lt_of_eq hlt hmod.rl.symm
      obtain ⟨q2, rb, rk, rfl, hc2, hrow⟩ := L3At.atI rh (show (0 : Int) ≤ p by omega) (show (p : Int) < m.ret.length by omega)
      rw [Int.toNat_natCast] at hc2 hrow
      replace hc2 := cell_ext (y0.trans hx) ok0 hc2
      obtain ⟨Rw, hRw⟩ : ∃ R, m.ret.getD p [] = R := ⟨_, rfl⟩
      rw [hRw] at hc2 hrow hab hr1
      clear hRw
      obtain ⟨q3, sb, sk, rfl, hc3, hrw⟩ := L2At.atI hrow (show (0 : Int) ≤ j by omega) (show (j : Int) < Rw.length by omega)
      rw [Int.toNat_natCast] at hc3 hrw
      replace hc3 := cell_ext (y0.trans hx) ok0 hc3
      have hjr : (j : Int) < Rw.length := by omega
      obtain ⟨rw', hrw'⟩ : ∃ r, Rw.getD j [] = r := ⟨_, rfl⟩
      rw [hrw'] at hc3 hrw hab
      clear hrw' hr1
      repeat (first | (refine OpsL.nil ?_; (change Trip _ _ _ _ _)))
      refine Trip.ifT ?_
      repeat (first | (refine OpsL.q (by first | exact omv | exact ofa | exact old | exact oixa) ?_) | (refine Trip.ops ?_))
      refine OpsL.storeAt (a := ⟨nx + 1, 0 + (p : Int).toNat * 1, none⟩) (v := .slice sb rw'.length sk) (cs' := (vs.set p (sb, rw'.length, sk)).map slV) p (by (first | (simp only [ASt.ev, tmPut, ↓reduceIte, Nat.reduceEqDiff, *]; rfl))) (by (first | (simp only [ASt.ev, tmPut, ↓reduceIte, Nat.reduceEqDiff, *]; done))) (by exact rfl) rfl rfl hf (by simp) (by rw [List.length_map, hvl.down]; exact hlt) (by rw [List.map_set]; rfl) ?_
      have hx2 : Ext (nx + 1) G (nx + 1 + 1) (F.put (nx + 1) (.cells ((vs.set p (sb, rw'.length, sk)).map slV) 1 none false (some 22))) := ⟨hx.1, fun i hi => by rw [Heap.put_ne (by omega)]; exact hx.2 i hi⟩
      clear hc2 hc3 g7
      repeat (first | (refine OpsL.q (by first | exact omv | exact oadd) ?_) | (refine Trip.ops ?_) | (refine OpsL.nil ?_; ((repeat (refine blockExit_normal ?_)); first | (change Trip _ _ _ _ _) | (dsimp only))))
      refine ⟨p + 1, ⟨_, _, vs.set p (sb, rw'.length, sk), rfl, hx2, Heap.put_eq, by rw [List.length_set]; exact hvl.down, hstep (u := (sb, rw'.length, sk)) (fun q hq => List.getElem?_set_ne (fun e => hq e.symm)) (by rw [List.length_set]) (fun h => List.getElem?_set_self h) (by rw [hab]; exact hrw), by simp [tmPut, *], by simp [tmPut, *], by simp [tmPut, *], by simp [tmPut, *], by simp [tmPut, *], by simp [tmPut, *], by omega⟩, by omega⟩
  · have hp2 : p = m.of.length := by omega
    subst hp2
    repeat (first | (refine OpsL.q (by first | exact omv | exact oasg) ?_) | (refine Trip.seq ?_) | (refine Trip.ops ?_) | (refine Trip.exit ?_; ((repeat (refine blockExit_eq ?_)); change Trip _ _ _ _ _)) | (refine Trip.ret ?_; (dsimp only)) | (refine OpsL.nil ?_; (change Trip _ _ _ _ _)))
    have e : (List.range m.of.length).map (fun q => if q < m.of.length then abT m j q else []) = aboveF m j := by
      rw [aboveF_eq]
      refine List.map_congr_left fun q hq => if_pos (List.mem_range.1 hq)
    refine ⟨.inr rfl, _, res_tmp, fun H2 h1 h2 => ?_, x0.trans hx⟩
    have hxx : Ext B0 G0 (nx + 1 + 1) H2 := ⟨Nat.le_trans y0.1 hx.1, fun i hi => by rw [h1 i hi]; exact (y0.trans hx).2 i hi⟩
    have hat := hv.at (fun u l h => IntsAt.ext hxx ok0 h) hvl.down (show H2 (nx + 1) = _ by rw [h2 (nx + 1) (by omega) (by show nx + 1 < nx + 1 + 1; omega)]; exact hf)
    rw [e] at hat
    simpa [tmPut, *] using hat
end Go.Proofs.Ytjgbcpagfghfnaa
