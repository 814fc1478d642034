import Derived.Test.YtmijhkclfoadaaaDoorQEM41
import Derived.Test.YtmijhkclfoadaaaDoorQEM21
namespace Go.Am
set_option linter.unusedSimpArgs false
set_option linter.unusedVariables false
open Go.RowKit
section
variable {P : Program} {W0 : World} {ops : Array Oper} {acts : List Nat} {K : Nat → Heap → Prop}
theorem OpsR.spg {m i j : Nat} {l : List Nat} {d d' : Tmp} {op : Op} {type : TypeId} {pos : String} {after : Array Edge} {tm : Nat → Value} {n nx : Nat} {H : Heap} {v : Value} {Q : ASt → Prop} {want : Bool} (ho : ops[i]? = some ⟨some d, op, type, pos, after, some (j, want)⟩) (he : (!acts.contains i && front ops l i) = true) (hd : d < n) (hj : (ops[j]?).bind (·.dst) = some d') (hb : tm d' = .bool want) (hK : K nx H)
    (hop : ∀ H' nx', K nx' H' → aop P H' nx' (ASt.ev ⟨tm, n, H, nx⟩) ⟨some d, op, type, pos, after, none⟩ = some (v, .none)) (h : OpsR P W0 ops acts K m l ⟨tmPut tm (some d) v, n, H, nx⟩ Q) : OpsR P W0 ops acts K (m + 1) (i :: l) ⟨tm, n, H, nx⟩ Q := by
  simp only [Bool.and_eq_true, Bool.not_eq_true'] at he
  exact .inl ⟨he.1, he.2, _, ho, by simp [dstOk, hd], .inr ⟨by simp [wants, hj, hb], v, hop H nx hK, .inr hop, h⟩⟩
end
end Go.Am
namespace Go.Proofs.YtmijhkclfoadaaaDoor
set_option linter.unusedSimpArgs false
set_option linter.unusedVariables false
open Go.Am Go.RowKit
attribute [local irreducible] aop OpsL Trip blockExit OpsD OpsK OpsR
set_option maxRecDepth 20000 in
set_option maxHeartbeats 16000000 in
theorem law (W0 : World) {nx : Nat} {H : Heap} {m which v deep : Int} {nv : Value} {ns : List Int} (hn : IntsAt H nv ns) (hv : -9223372036854775808 ≤ v ∧ v ≤ 9223372036854775807) (hkn : ∀ nx H, ACalls Tryd.prog W0 11 [] nx H fun v nx' H' => v = .bool true ∧ nx' = nx ∧ H' = H) :
    ACalls Tryd.prog W0 3 [.int .i64 m, nv, .int .i64 which, .int .i64 v, .int .i64 deep] nx H fun v _ _ => v = .bool true := by
  refine ACalls.by_trip (fn := Tryd.f3) (c := _) Tryd.func3 rfl (fun tm n hn0 htm => ?_)
  have e0 : tm 0 = .int .i64 m := htm 0
  have e1 : tm 1 = nv := htm 1
  have e2 : tm 2 = .int .i64 which := htm 2
  have e3 : tm 3 = .int .i64 v := htm 3
  have e4 : tm 4 = .int .i64 deep := htm 4
  clear htm
  replace hn0 : n = 127 := hn0
  refine Trip.ok fun hok => ?_
  replace hok : ∀ id o, H id = some o → id < nx := hok
  repeat (first | (refine OpsL.q (by exact oasg) ?_) | (refine Trip.seq ?_) | (refine Trip.ops ?_) | (refine OpsL.nil ?_; (change Trip _ _ _ _ _)))
  refine OpsL.c0 (hf := entersKnown5) (hc := (hkn nx H)) (h := ?_)
  rintro v0 nx0 H0 ⟨rfl, rfl, rfl⟩
  dsimp only
  repeat (first | (refine OpsL.q (by exact onot) ?_) | (refine OpsL.nil ?_; (change Trip _ _ _ _ _)))
  refine Trip.ifF ?_
  repeat (first | (refine OpsL.q (by exact omv) ?_) | (refine Trip.seq ?_) | (refine Trip.ops ?_) | (refine Trip.skip ?_; (change Trip _ _ _ _ _)))
  refine OpsL.c2 (hf := entersSyms) (hc := (symsC W0 hn).ok) (h := ?_)
  rintro lv nx1 H1 ⟨⟨hl, x1⟩, k1⟩
  obtain ⟨hg1, hg2, hg3⟩ := symsF_good m ns
  have hss : (symsF m ns).length ≤ 1000 := by omega
  have hkd : ∀ x ∈ symsF m ns, x.2 ≠ 0 := fun x hx => by have := hg3 x hx; omega
  have hl1 := hl
  clear hg3
  generalize symsF m ns = ss at *
  repeat (first | (refine OpsL.q (by first | exact omv | exact oasg) ?_) | (refine Trip.seq ?_) | (refine Trip.ops ?_) | (refine OpsL.nil ?_; (change Trip _ _ _ _ _)))
  refine OpsL.c3 (hf := entersMakeTop) (hc := (makeTopC W0 hg1 hss (d := 5) hl (hn.ext x1 hok) (by decide)).ok) (h := ?_)
  rintro u nx2 H2 ⟨⟨x2, cs, B, rfl, hxe, hnd, hr⟩, k2⟩
  have hsz := mkX_size ss ns 5 false 0
  generalize (mkX ss ns 5 false 0).1 = e at *
  obtain ⟨k, s, f, l⟩ := e
  obtain ⟨va, vc, rfl⟩ := hxe.cells
  have hsz2 : szX 5 = 1093 := by decide
  rw [hsz2] at hsz
  clear hsz2
  refine OpsL.new (by subst_vars; decide) (aop_alloc (l := [.int .i64 0, .int .i64 0, .int .i64 0, .slice none 0 0]) (by exact rfl)) ?_
  obtain ⟨G, hG⟩ : ∃ G, G = H2.put nx2 (.cells [.int .i64 0, .int .i64 0, .int .i64 0, .slice none 0 0] 0 none false (some 28)) := ⟨_, rfl⟩
  have x3 : Ext nx2 H2 (nx2 + 1) G := by rw [hG]; exact Ext.newPut
  have r3 : G nx2 = some (.cells [.int .i64 0, .int .i64 0, .int .i64 0, .slice none 0 0] 0 none false (some 28)) := by rw [hG]; exact Heap.put_eq
  rw [← hG]
  clear hG
  refine OpsL.storeX ?_ (by (first | (simp only [ASt.ev, tmPut, ↓reduceIte, Nat.reduceEqDiff, *]; done))) (by (first | (simp only [ASt.ev, tmPut, ↓reduceIte, Nat.reduceEqDiff, *]; rfl))) r3 rfl rfl rfl
  intro G4 hA4 hs4
  have x4 : Ext nx2 H2 (nx2 + 1) G4 := ⟨by omega, fun i hi => by rw [hs4 i (by omega)]; exact x3.2 i hi⟩
  clear r3 x3 hs4
  repeat (first | (refine Trip.seq ?_) | (refine Trip.ops ?_) | (refine OpsL.nil ?_; (change Trip _ _ _ _ _)))
  have gA : getc G4 ⟨nx2, 0, none⟩ 4 = some [.int .i64 k, .int .i64 s, .int .i64 f, .slice va l.length vc] := getc_all hA4 rfl
  repeat (first | (refine OpsL.q (by exact aop_loadAgg (k := 4) (by (first | (simp only [ASt.ev, tmPut, ↓reduceIte, Nat.reduceEqDiff, *]; rfl))) (by exact rfl) rfl (by exact rfl) (by assumption)) ?_))
  refine OpsL.new (by subst_vars; decide) (aop_alloc (l := [.int .i64 0, .int .i64 0, .int .i64 0, .slice none 0 0]) (by exact rfl)) ?_
  obtain ⟨G5, hG⟩ : ∃ G5, G5 = G4.put (nx2 + 1) (.cells [.int .i64 0, .int .i64 0, .int .i64 0, .slice none 0 0] 0 none false (some 28)) := ⟨_, rfl⟩
  have x5 : Ext (nx2 + 1) G4 (nx2 + 1 + 1) G5 := by rw [hG]; exact Ext.newPut
  have r5 : G5 (nx2 + 1) = some (.cells [.int .i64 0, .int .i64 0, .int .i64 0, .slice none 0 0] 0 none false (some 28)) := by rw [hG]; exact Heap.put_eq
  rw [← hG]
  clear hG
  refine OpsL.storeX ?_ (by (first | (simp only [ASt.ev, tmPut, ↓reduceIte, Nat.reduceEqDiff, *]; done))) (by (first | (simp only [ASt.ev, tmPut, ↓reduceIte, Nat.reduceEqDiff, *]; rfl))) r5 rfl rfl rfl
  intro G6 hX6 hs6
  have x6 : Ext (nx2 + 1) G4 (nx2 + 1 + 1) G6 := ⟨by omega, fun i hi => by rw [hs6 i (by omega)]; exact x5.2 i hi⟩
  clear r5 x5 hs6 gA
  have hA6 : G6 nx2 = _ := (x6.2 nx2 (by omega)).trans hA4
  have x46 : Ext nx2 H2 (nx2 + 1 + 1) G6 := ⟨by omega, fun i hi => by rw [x6.2 i (by omega)]; exact x4.2 i hi⟩
  have q2 := x2.1
  have hst : XSt H1 nx1 (.node k s f l) G6 (nx2 + 1 + 1) nx2 (nx2 + 1) (.node k s f l) := by
    have hx6 := hxe.same (H' := G6) fun b hb => x46.2 b (hr b hb).2
    exact ⟨x2.trans x46, ⟨by omega, by omega⟩, ⟨by omega, by omega, by omega⟩, ⟨_, B, ⟨hA6, hx6, hnd, fun b hb => by have := hr b hb; omega, fun b hb => by have := hr b hb; omega⟩, fun b hb => by have := hr b hb; omega⟩, _, B, ⟨hX6, hx6, hnd, fun b hb => by have := hr b hb; omega, fun b hb => by have := hr b hb; omega⟩, fun b hb => by have := hr b hb; omega⟩
  clear x4 x6 x46 hA4 hA6 hX6 hxe hnd hr
  generalize Ex.node k s f l = e at *
  refine OpsL.nil ?_
  (change Trip _ _ _ _ _)
  refine Trip.seq ?_
  generalize hq3 : nx2 + 1 = X at *
  refine swT W0 (v := v) (lv := lv) hn0 hst (by simp [tmPut, *]) (by simp [tmPut, *]) (by simp [tmPut, *]) (by simp [tmPut, *]) (fun tm' nx' H' x' a3 a11 a12 a13 h7 hle => ?_) (which := which) (deep := deep) (by simp [tmPut, *]) (by simp [tmPut, *]) hv (by omega)
  clear hst e0 e1 e2 e3 e4
  (change Trip _ _ _ _ _)
  repeat (first | (refine Trip.seq ?_) | (refine Trip.ops ?_))
  refine OpsL.p (by subst_vars; decide) (aop_build (l := [(0, .int .i64 6)]) (by simp [evParts, ASt.ev, tmPut, plainC, plain1, *]) (v := .agg #[.int .i64 6, .int .i64 0, .int .i64 0, .slice none 0 0]) (by exact rfl)) ?_
  refine OpsL.new (by subst_vars; decide) (aop_alloc (l := [.int .i64 0, .int .i64 0, .int .i64 0, .slice none 0 0]) (by exact rfl)) ?_
  obtain ⟨G8, hG⟩ : ∃ G8, G8 = H'.put nx' (.cells [.int .i64 0, .int .i64 0, .int .i64 0, .slice none 0 0] 0 none false (some 28)) := ⟨_, rfl⟩
  have x8 : Ext nx' H' (nx' + 1) G8 := by rw [hG]; exact Ext.newPut
  have r8 : G8 nx' = some (.cells [.int .i64 0, .int .i64 0, .int .i64 0, .slice none 0 0] 0 none false (some 28)) := by rw [hG]; exact Heap.put_eq
  rw [← hG]
  clear hG
  refine OpsL.storeX ?_ (by (first | (simp only [ASt.ev, tmPut, ↓reduceIte, Nat.reduceEqDiff, *]; done))) (by (first | (simp only [ASt.ev, tmPut, ↓reduceIte, Nat.reduceEqDiff, *]; rfl))) r8 rfl rfl rfl
  intro G9 hY9 hs9
  have x9 : Ext nx' H' (nx' + 1) G9 := ⟨by omega, fun i hi => by rw [hs9 i (by omega)]; exact x8.2 i hi⟩
  clear r8 x8 hs9
  refine OpsL.nil ?_
  (change Trip _ _ _ _ _)
  refine Trip.seq ?_
  have p0 := Int.emod_nonneg v (show (20 : Int) ≠ 0 by omega)
  have p1 := Int.emod_lt_of_pos v (show (0 : Int) < 20 by omega)
  obtain ⟨M, hM⟩ : ∃ M : Nat, (M : Int) = 190 + v % 20 := ⟨(190 + v % 20).toNat, by omega⟩
  refine yT W0 (GY := H') (A := nx2) (X := X) (Y := nx') (M := M) (v := v) (lv := lv) hn0 hM (by omega) (by simp [tmPut, *]) (by simp [tmPut, *]) (by simp [tmPut, *]) (by simp [tmPut, *]) (by simp [tmPut, *]) x9 (by omega) hY9 (fun tm nF F vv ob t11 t12 t13 t15 xF hYF rF hown hob => ?_)
  have hy0 : ∃ b t, ob = some (b, t) ∧ vv = .slice (some ⟨b, 0, some t⟩) M M ∧ ExC F [.int .i64 6, .int .i64 0, .int .i64 0, vv] (.node 6 0 0 (List.replicate M leafX)) [b] := by
    obtain ⟨b, t, h1, h2, h3⟩ := (leaves_at F M).node hown (fun h => by have := congrArg List.length h; simp at this; omega) 6 0 0
    have hb : (b :: (List.range (List.replicate M leafX).length).flatMap fun _ => ([] : List Nat)) = [b] := by simp
    rw [hb] at h3
    exact ⟨b, t, h1, by rw [h2]; simp, h3⟩
  obtain ⟨b, t, hbt, hvv, hY⟩ := hy0
  have hbb := hob b t hbt
  subst hvv
  have hcY : CellX F nF nx' (.node 6 0 0 (List.replicate M leafX)) [.int .i64 6, .int .i64 0, .int .i64 0, .slice (some ⟨b, 0, some t⟩) M M] [b] := ⟨rF, hY, by simp, fun x hx => (List.mem_singleton.1 hx) ▸ hbb.1, fun x hx => (List.mem_singleton.1 hx) ▸ Nat.ne_of_gt hbb.2⟩
  have hszY : sizeX (.node 6 0 0 (List.replicate M leafX)) ≤ 1000000 := by
    simp only [sizeX, sizeXL_leaves]
    omega
  clear hY hown rF hob hbt hbb
  generalize Ex.node 6 0 0 (List.replicate M leafX) = y at *
  have hF := h7.next xF
  obtain ⟨⟨cA, BA, hcA, -⟩, cX, BX, hcX, -⟩ := And.intro hF.a hF.x
  obtain ⟨ka, sa, fa, la⟩ := e
  obtain ⟨va, ca, rfl⟩ := hcA.ex.cells
  obtain ⟨kx, sx, fx, lx⟩ := x'
  obtain ⟨vx, cx, rfl⟩ := hcX.ex.cells
  have hnA : sizeX (.node ka sa fa la) ≤ 1000000 := by omega
  have hnX : sizeX (.node kx sx fx lx) ≤ 1000000 := by omega
  have hlF := hl1.ext (hF.ext) k1
  (change Trip _ _ _ _ _)
  refine Trip.seq ?_
  refine Trip.ok fun okF => ?_
  replace okF : ∀ id o, F id = some o → id < nF := okF
  have gA : getc F ⟨nx2, 0, none⟩ 4 = some [.int .i64 ka, .int .i64 sa, .int .i64 fa, .slice va la.length ca] := getc_all hcA.cell rfl
  have gX : getc F ⟨X, 0, none⟩ 4 = some [.int .i64 kx, .int .i64 sx, .int .i64 fx, .slice vx lx.length cx] := getc_all hcX.cell rfl
  have gY : getc F ⟨nx', 0, none⟩ 4 = some [.int .i64 6, .int .i64 0, .int .i64 0, .slice (some ⟨b, 0, some t⟩) M M] := getc_all hcY.cell rfl
  refine OpsR.drawn [2, 5, 10, 13, 19, 22] (K := fun nn HH => Ext nF F nn HH) mixedX (by kernel_rfl) (by kernel_rfl) [0, 1, 3, 4, 2, 5, 6, 7, 8, 9, 11, 12, 10, 13, 14, 15, 16, 17, 18, 20, 21, 19, 22, 23, 24, 25] (by kernel_rfl) Ext.refl ?_
  refine OpsR.one rfl rfl rfl (by kernel_rfl) ?_
  repeat (first | (refine OpsL.q (by exact omv) ?_) | (refine OpsL.nil ?_; (dsimp only)))
  refine OpsR.sp (v := .agg ([.int .i64 ka, .int .i64 sa, .int .i64 fa, .slice va la.length ca]).toArray) rfl (by kernel_rfl) (by subst_vars; decide) Ext.refl (fun H' nx' hK => aop_loadAgg (k := 4) (vs := [.int .i64 ka, .int .i64 sa, .int .i64 fa, .slice va la.length ca]) (by (first | (simp only [ASt.ev, tmPut, ↓reduceIte, Nat.reduceEqDiff, *]; done))) (by exact rfl) rfl (by exact rfl) (getc_ext hK okF gA)) ?_
  refine OpsR.one rfl rfl rfl (by kernel_rfl) ?_
  repeat (first | (refine OpsL.q (by exact omv) ?_) | (refine OpsL.nil ?_; (skip)))
  refine OpsR.sp (v := .agg ([.int .i64 ka, .int .i64 sa, .int .i64 fa, .slice va la.length ca]).toArray) rfl (by kernel_rfl) (by subst_vars; decide) Ext.refl (fun H' nx' hK => aop_loadAgg (k := 4) (vs := [.int .i64 ka, .int .i64 sa, .int .i64 fa, .slice va la.length ca]) (by (first | (simp only [ASt.ev, tmPut, ↓reduceIte, Nat.reduceEqDiff, *]; done))) (by exact rfl) rfl (by exact rfl) (getc_ext hK okF gA)) ?_
  refine OpsR.act (by kernel_rfl) (ActStep.walk rfl rfl ?_)
  refine OpsL.c2 (hf := entersCheckX) (hc := (checkXC W0 hss hkd (hlF.ext Ext.refl okF) (hcA.ex.ext Ext.refl okF) hcA.nd hnA)) (h := ?_)
  rintro u1a p1a Ha1 ⟨rfl, ya1⟩
  refine OpsL.nil ⟨ya1, ?_⟩
  refine OpsR.act (by kernel_rfl) (ActStep.walk rfl rfl ?_)
  refine OpsL.c2 (hf := entersRCheckX) (hc := (rCheckXC W0 hss (hlF.ext ya1 okF) (hcA.ex.ext ya1 okF) hnA)) (h := ?_)
  rintro u1b p1b Hb1 ⟨rfl, yb1⟩
  have E1 := ya1.trans yb1
  refine OpsL.nil ⟨E1, ?_⟩
  refine OpsR.one rfl rfl rfl (by kernel_rfl) ?_
  refine OpsL.eqlT ?_ (c := rfl)
  repeat (first | (refine OpsL.nil ?_; (skip)))
  refine OpsR.one rfl rfl rfl (by kernel_rfl) ?_
  repeat (first | (refine OpsL.q (by exact omv) ?_) | (refine OpsL.nil ?_; (skip)))
  refine OpsR.one rfl rfl rfl (by kernel_rfl) ?_
  repeat (first | (refine OpsL.q (by exact omv) ?_) | (refine OpsL.nil ?_; (skip)) | (refine OpsL.ung ?_))
  refine OpsR.spg (v := .agg ([.int .i64 kx, .int .i64 sx, .int .i64 fx, .slice vx lx.length cx]).toArray) rfl (by kernel_rfl) (by subst_vars; decide) (by exact rfl) (by (first | (simp only [ASt.ev, tmPut, ↓reduceIte, Nat.reduceEqDiff, *]; done))) E1 (fun H' nx' hK => aop_loadAgg (k := 4) (vs := [.int .i64 kx, .int .i64 sx, .int .i64 fx, .slice vx lx.length cx]) (by (first | (simp only [ASt.ev, tmPut, ↓reduceIte, Nat.reduceEqDiff, *]; done))) (by exact rfl) rfl (by exact rfl) (getc_ext hK okF gX)) ?_
  refine OpsR.one rfl rfl rfl (by kernel_rfl) ?_
  repeat (first | (refine OpsL.q (by exact omv) ?_) | (refine OpsL.nil ?_; (skip)) | (refine OpsL.ung ?_))
  refine OpsR.spg (v := .agg ([.int .i64 kx, .int .i64 sx, .int .i64 fx, .slice vx lx.length cx]).toArray) rfl (by kernel_rfl) (by subst_vars; decide) (by exact rfl) (by (first | (simp only [ASt.ev, tmPut, ↓reduceIte, Nat.reduceEqDiff, *]; done))) E1 (fun H' nx' hK => aop_loadAgg (k := 4) (vs := [.int .i64 kx, .int .i64 sx, .int .i64 fx, .slice vx lx.length cx]) (by (first | (simp only [ASt.ev, tmPut, ↓reduceIte, Nat.reduceEqDiff, *]; done))) (by exact rfl) rfl (by exact rfl) (getc_ext hK okF gX)) ?_
  refine OpsR.act (by kernel_rfl) (ActStep.walk rfl rfl ?_)
  refine OpsL.ung ?_
  refine OpsL.c2 (hf := entersCheckX) (hc := (checkXC W0 hss hkd (hlF.ext E1 okF) (hcX.ex.ext E1 okF) hcX.nd hnX)) (h := ?_)
  rintro u2a p2a Ha2 ⟨rfl, ya2⟩
  refine OpsL.nil ⟨(E1.trans ya2), ?_⟩
  refine OpsR.act (by kernel_rfl) (ActStep.walk rfl rfl ?_)
  refine OpsL.ung ?_
  refine OpsL.c2 (hf := entersRCheckX) (hc := (rCheckXC W0 hss (hlF.ext (E1.trans ya2) okF) (hcX.ex.ext (E1.trans ya2) okF) hnX)) (h := ?_)
  rintro u2b p2b Hb2 ⟨rfl, yb2⟩
  have E2 := (E1.trans ya2).trans yb2
  refine OpsL.nil ⟨E2, ?_⟩
  refine OpsR.spg (v := .bool true) rfl (by kernel_rfl) (by subst_vars; decide) (by exact rfl) (by (first | (simp only [ASt.ev, tmPut, ↓reduceIte, Nat.reduceEqDiff, *]; done))) E2 (fun HH nn hK => aop_eqlT (by (first | (simp only [ASt.ev, tmPut, ↓reduceIte, Nat.reduceEqDiff, *]; rfl))) (by (first | (simp only [ASt.ev, tmPut, ↓reduceIte, Nat.reduceEqDiff, *]; done))) rfl) ?_
  refine OpsR.one rfl rfl rfl (by kernel_rfl) ?_
  repeat (first | (refine OpsL.q (by exact opkT) ?_) | (refine OpsL.nil ?_; (skip)))
  refine OpsR.one rfl rfl rfl (by kernel_rfl) ?_
  repeat (first | (refine OpsL.q (by exact omv) ?_) | (refine OpsL.nil ?_; (skip)))
  refine OpsR.one rfl rfl rfl (by kernel_rfl) ?_
  repeat (first | (refine OpsL.q (by exact omv) ?_) | (refine OpsL.nil ?_; (skip)) | (refine OpsL.ung ?_))
  refine OpsR.spg (v := .agg ([.int .i64 6, .int .i64 0, .int .i64 0, .slice (some ⟨b, 0, some t⟩) M M]).toArray) rfl (by kernel_rfl) (by subst_vars; decide) (by exact rfl) (by (first | (simp only [ASt.ev, tmPut, ↓reduceIte, Nat.reduceEqDiff, *]; done))) E2 (fun H' nx' hK => aop_loadAgg (k := 4) (vs := [.int .i64 6, .int .i64 0, .int .i64 0, .slice (some ⟨b, 0, some t⟩) M M]) (by (first | (simp only [ASt.ev, tmPut, ↓reduceIte, Nat.reduceEqDiff, *]; done))) (by exact rfl) rfl (by exact rfl) (getc_ext hK okF gY)) ?_
  refine OpsR.one rfl rfl rfl (by kernel_rfl) ?_
  repeat (first | (refine OpsL.q (by exact omv) ?_) | (refine OpsL.nil ?_; (skip)) | (refine OpsL.ung ?_))
  refine OpsR.spg (v := .agg ([.int .i64 6, .int .i64 0, .int .i64 0, .slice (some ⟨b, 0, some t⟩) M M]).toArray) rfl (by kernel_rfl) (by subst_vars; decide) (by exact rfl) (by (first | (simp only [ASt.ev, tmPut, ↓reduceIte, Nat.reduceEqDiff, *]; done))) E2 (fun H' nx' hK => aop_loadAgg (k := 4) (vs := [.int .i64 6, .int .i64 0, .int .i64 0, .slice (some ⟨b, 0, some t⟩) M M]) (by (first | (simp only [ASt.ev, tmPut, ↓reduceIte, Nat.reduceEqDiff, *]; done))) (by exact rfl) rfl (by exact rfl) (getc_ext hK okF gY)) ?_
  refine OpsR.act (by kernel_rfl) (ActStep.walk rfl rfl ?_)
  refine OpsL.ung ?_
  refine OpsL.c2 (hf := entersCheckX) (hc := (checkXC W0 hss hkd (hlF.ext E2 okF) (hcY.ex.ext E2 okF) hcY.nd hszY)) (h := ?_)
  rintro u3a p3a Ha3 ⟨rfl, ya3⟩
  refine OpsL.nil ⟨(E2.trans ya3), ?_⟩
  refine OpsR.act (by kernel_rfl) (ActStep.walk rfl rfl ?_)
  refine OpsL.ung ?_
  refine OpsL.c2 (hf := entersRCheckX) (hc := (rCheckXC W0 hss (hlF.ext (E2.trans ya3) okF) (hcY.ex.ext (E2.trans ya3) okF) hszY)) (h := ?_)
  rintro u3b p3b Hb3 ⟨rfl, yb3⟩
  have E3 := (E2.trans ya3).trans yb3
  refine OpsL.nil ⟨E3, ?_⟩
  refine OpsR.spg (v := .bool true) rfl (by kernel_rfl) (by subst_vars; decide) (by exact rfl) (by (first | (simp only [ASt.ev, tmPut, ↓reduceIte, Nat.reduceEqDiff, *]; done))) E3 (fun HH nn hK => aop_eqlT (by (first | (simp only [ASt.ev, tmPut, ↓reduceIte, Nat.reduceEqDiff, *]; rfl))) (by (first | (simp only [ASt.ev, tmPut, ↓reduceIte, Nat.reduceEqDiff, *]; done))) rfl) ?_
  refine OpsR.one rfl rfl rfl (by kernel_rfl) ?_
  repeat (first | (refine OpsL.q (by exact opkT) ?_) | (refine OpsL.nil ?_; (skip)))
  refine OpsR.one rfl rfl rfl (by kernel_rfl) ?_
  repeat (first | (refine OpsL.q (by exact oasg) ?_) | (refine OpsL.nil ?_; (skip)))
  refine OpsR.nil ?_
  (change Trip _ _ _ _ _)
  repeat (first | (refine Trip.ret ?_; (skip)))
  exact ⟨.inr rfl, _, res_tmp, by simp [tmPut]⟩
end Go.Proofs.YtmijhkclfoadaaaDoor
