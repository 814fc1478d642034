import Derived.Test.YtjgbcpagfghfnaaQWM41
import Derived.Test.YtjgbcpagfghfnaaQWM16
set_option linter.unusedVariables false
set_option linter.unusedSimpArgs false
set_option linter.unnecessarySimpa false
namespace Go.Proofs.Ytjgbcpagfghfnaa
open Go.Am Go.RowKit
attribute [local irreducible] aop OpsL Trip blockExit OpsD OpsK OpsR OpsQ
theorem entersClassesOf : Am.Enters Try.prog 26 := ⟨Try.f26, Try.func26, by kernel_rfl, by kernel_rfl⟩
set_option maxRecDepth 20000 in
set_option maxHeartbeats 16000000 in
theorem classesOfC (W0 : World) {nx : Nat} {H : Heap} {m : Mo} {V : MoV} (hm : MoIn H m V) (hmod : ModOk m) :
    ACalls Try.prog W0 26 [.agg (moV m V).toArray] nx H fun v nx' H' => NewP 3 nx nx' H' v ((classesOfF m).map (.int .i64 ·)) ∧ Ext nx H nx' H' := by
  refine ACalls.by_trip (fn := Try.f26) (c := _) Try.func26 rfl (fun tm n hn0 htm => ?_)
  have e0 : tm 0 = .agg (moV m V).toArray := htm 0
  clear htm
  replace hn0 : n = 9 := hn0
  refine Trip.ok fun hok => ?_
  replace hok : ∀ id o, H id = some o → id < nx := hok
  refine Trip.seq ?_
  refine Trip.ops ?_
  refine OpsL.boxM hm hok ?_ (by (first | (simp only [ASt.ev, tmPut, ↓reduceIte, Nat.reduceEqDiff, *]; done))) (by subst_vars; decide)
  intro G x0 okG hb hG
  clear e0
  have hn60 := hmod.n.2
  obtain ⟨oa, oc, ov⟩ := hG.of.slice
  have g2 := hb.c2
  rw [ov] at g2
  have hga := hb.all
  obtain ⟨k1, k2, -⟩ := classesOf_ok hmod
  have hcb : ∀ x ∈ classesOfF m, 0 ≤ x ∧ x ≤ 100 := fun x hx => by
    obtain ⟨i, hi, rfl⟩ := List.getElem_of_mem hx
    have := can_pos k1 hi
    rw [List.getD_eq_getElem?_getD, List.getElem?_eq_getElem hi] at this
    have := numD_le (classesOfF m)
    simp only [Option.getD_some] at *
    omega
  have hc60 : (classesOfF m).length ≤ 60 := by omega
  repeat (first | (refine OpsL.q (by exact oasg) ?_) | (refine Trip.seq ?_) | (refine OpsL.nil ?_; (change Trip _ _ _ _ _)))
  have hK : ∀ l : List Nat, ∀ k ∈ l, getc G ⟨nx, 0, none⟩ 8 = some (moV m V) ∧ cellAt G ⟨nx, 2, none⟩ (.slice oa m.of.length oc) := fun _ _ _ => ⟨hga, g2⟩
  have h0 := hK [0] 0 (by simp)
  refine OpsQ.drawn [1, 5, 6] (K := fun _ _ H => getc H ⟨nx, 0, none⟩ 8 = some (moV m V) ∧ cellAt H ⟨nx, 2, none⟩ (.slice oa m.of.length oc)) mixed13 (by kernel_rfl) (by kernel_rfl) [0, 2, 3, 4, 1, 5, 6] (by kernel_rfl) (hK _) ?_
  refine OpsQ.sp 1 (v := .agg (moV m V).toArray) rfl (by kernel_rfl) (by subst_vars; decide) h0 (fun H2 nx2 hK => aop_loadAgg (k := 8) (by (first | (simp only [ASt.ev, tmPut, ↓reduceIte, Nat.reduceEqDiff, *]; done))) (by exact rfl) rfl (by exact rfl) hK.1) ?_
  refine OpsQ.one rfl rfl rfl (by kernel_rfl) ?_
  repeat (first | (refine OpsL.q (by exact ofa) ?_) | (refine OpsL.nil ?_; (dsimp only)))
  refine OpsQ.sp 5 (v := .slice oa m.of.length oc) rfl (by kernel_rfl) (by subst_vars; decide) h0 (fun H2 nx2 hK => aop_load (by (first | (simp only [ASt.ev, tmPut, ↓reduceIte, Nat.reduceEqDiff, *]; rfl))) (by exact rfl) rfl hK.2) ?_
  refine OpsQ.sp 5 (v := .int .i64 m.of.length) rfl (by kernel_rfl) (by subst_vars; decide) h0 (fun H2 nx2 hK => aop_len (by (first | (simp only [ASt.ev, tmPut, ↓reduceIte, Nat.reduceEqDiff, *]; rfl))) (by exact rfl)) ?_
  clear h0 hK
  refine OpsQ.act (by kernel_rfl) (ActStep.walk rfl rfl ?_)
  refine OpsL.c1 (hf := entersSettled) (hc := (settledC W0 hG hmod)) (h := ?_)
  rintro v1 nx1 H1 ⟨rfl, y1⟩
  refine OpsL.nil ⟨fun _ _ => ⟨getc_ext y1 okG hga, cell_ext y1 okG g2⟩, ?_⟩
  refine OpsQ.act (by kernel_rfl) (ActStep.walk rfl rfl ?_)
  have hnum := numbersC W0 (nx := nx1) (H := H1) hc60 hcb
  rw [k2] at hnum
  refine OpsL.c2 (hf := entersNumbers13) (hc := hnum) (h := ?_)
  rintro v2 nx2 H2 ⟨hv, y2⟩
  refine OpsL.nil ⟨fun _ _ => ⟨getc_ext (y1.trans y2) okG hga, cell_ext (y1.trans y2) okG g2⟩, ?_⟩
  refine OpsQ.act (by kernel_rfl) (ActStep.walk rfl rfl ?_)
  (first | (refine OpsL.q (by exact oasg) ?_))
  refine OpsL.nil ⟨fun _ h => by simp at h, ?_⟩
  refine OpsQ.nil ?_
  (change Trip _ _ _ _ _)
  repeat (first | (refine Trip.ret ?_; (dsimp only)))
  obtain ⟨b, b1, b2, b3, b4⟩ := hv
  have := x0.1; have := y1.1
  exact ⟨.inr rfl, _, res_tmp, ⟨b, by omega, b2, by simp [tmPut, b3], b4⟩, (x0.trans y1).trans y2⟩
theorem entersFReached : Am.Enters Try.prog 10 := ⟨Try.f10, Try.func10, by kernel_rfl, by kernel_rfl⟩
set_option maxRecDepth 20000 in
set_option maxHeartbeats 16000000 in
theorem fReachedC (W0 : World) {nx : Nat} {H : Heap} {m : Mo} {V : MoV} (hm : MoIn H m V) (hn : MoLen m) (hmod : ModOk m) :
    ACalls Try.prog W0 10 [.agg (moV m V).toArray] nx H fun v nx' H' => NewP 4 nx nx' H' v ((reachedF m).map .bool) ∧ Ext nx H nx' H' := by
  refine ACalls.by_trip (fn := Try.f10) (c := _) Try.func10 rfl (fun tm n hn0 htm => ?_)
  have e0 : tm 0 = .agg (moV m V).toArray := htm 0
  clear htm
  replace hn0 : n = 8 := hn0
  refine Trip.ok fun hok => ?_
  replace hok : ∀ id o, H id = some o → id < nx := hok
  refine Trip.seq ?_
  refine Trip.ops ?_
  refine OpsL.boxM hm hok ?_ (by (first | (simp only [ASt.ev, tmPut, ↓reduceIte, Nat.reduceEqDiff, *]; done))) (by subst_vars; decide)
  intro G x0 okG hb hG
  clear e0
  repeat (first | (refine OpsL.q (by exact oasg) ?_) | (refine Trip.seq ?_) | (refine Trip.ops ?_) | (refine OpsL.nil ?_; (change Trip _ _ _ _ _)))
  refine OpsL.loadM hb ?_ (by (first | (simp only [ASt.ev, tmPut, ↓reduceIte, Nat.reduceEqDiff, *]; done))) (by subst_vars; decide)
  refine OpsL.c1 (hf := entersIsMod) (hc := (isModC W0 hG hn)) (h := ?_)
  rintro v1 nx1 H1 ⟨rfl, y1⟩
  rw [modF_iff.2 hmod]
  repeat (first | (refine OpsL.q (by exact onot) ?_) | (refine OpsL.nil ?_; (change Trip _ _ _ _ _)))
  refine Trip.ifF ?_
  repeat (first | (refine Trip.seq ?_) | (refine Trip.ops ?_) | (refine Trip.skip ?_; (change Trip _ _ _ _ _)))
  refine OpsL.loadM (hb.ext y1 okG) ?_ (by (first | (simp only [ASt.ev, tmPut, ↓reduceIte, Nat.reduceEqDiff, *]; done))) (by subst_vars; decide)
  refine OpsL.c1 (hf := entersReached) (hc := (reachedC W0 (hG.ext y1 okG) hn hmod)) (h := ?_)
  rintro v2 nx2 H2 ⟨hv, y2⟩
  repeat (first | (refine OpsL.q (by exact oasg) ?_) | (refine Trip.ret ?_; (dsimp only)) | (refine OpsL.nil ?_; (change Trip _ _ _ _ _)))
  obtain ⟨b, b1, b2, b3, b4⟩ := hv
  have := x0.1; have := y1.1
  exact ⟨.inr rfl, _, res_tmp, ⟨b, by omega, b2, by simp [tmPut, b3], b4⟩, (x0.trans y1).trans y2⟩
theorem NewP.bools {nx : Nat} {nx' : Nat} {H' : Heap} {v : Value} {l : List Bool} (h : NewP 4 nx nx' H' v (l.map .bool)) : BoolsAt H' v l := by
  obtain ⟨b, _, _, rfl, hH⟩ := h
  refine .inr ⟨⟨b, 0, none⟩, l.length, by rw [List.length_map], fun i hi => ⟨_, ?_, rfl⟩⟩
  rw [Nat.zero_add]
  exact cell_of hH (by rw [List.getElem?_map, List.getElem?_eq_getElem hi]; rfl)
theorem entersFClasses : Am.Enters Try.prog 14 := ⟨Try.f14, Try.func14, by kernel_rfl, by kernel_rfl⟩
set_option maxRecDepth 20000 in
set_option maxHeartbeats 16000000 in
theorem fClassesC (W0 : World) {nx : Nat} {H : Heap} {m : Mo} {V : MoV} (hm : MoIn H m V) (hn : MoLen m) (hmod : ModOk m) :
    ACalls Try.prog W0 14 [.agg (moV m V).toArray] nx H fun v nx' H' => NewP 3 nx nx' H' v ((classesF m).map (.int .i64 ·)) ∧ Ext nx H nx' H' := by
  refine ACalls.by_trip (fn := Try.f14) (c := _) Try.func14 rfl (fun tm n hn0 htm => ?_)
  have e0 : tm 0 = .agg (moV m V).toArray := htm 0
  clear htm
  replace hn0 : n = 35 := hn0
  refine Trip.ok fun hok => ?_
  replace hok : ∀ id o, H id = some o → id < nx := hok
  refine Trip.seq ?_
  refine Trip.ops ?_
  refine OpsL.boxM hm hok ?_ (by (first | (simp only [ASt.ev, tmPut, ↓reduceIte, Nat.reduceEqDiff, *]; done))) (by subst_vars; decide)
  intro G x0 okG hb hG
  clear e0
  have hn60 := hmod.n.2
  have hrl := reachedF_len hmod.st
  have hrl1 : (reachedF m).length ≤ 100000 := by omega
  have hro := rank_ok hmod
  have hlen : (rankL (reachedF m)).length ≤ 100 := by have := hro.len; omega
  repeat (first | (refine OpsL.q (by exact oasg) ?_) | (refine Trip.seq ?_) | (refine Trip.ops ?_) | (refine OpsL.nil ?_; (change Trip _ _ _ _ _)))
  refine OpsL.loadM hb ?_ (by (first | (simp only [ASt.ev, tmPut, ↓reduceIte, Nat.reduceEqDiff, *]; done))) (by subst_vars; decide)
  refine OpsL.c1 (hf := entersIsMod) (hc := (isModC W0 hG hn)) (h := ?_)
  rintro v1 nx1 H1 ⟨rfl, y1⟩
  rw [modF_iff.2 hmod]
  repeat (first | (refine OpsL.q (by exact onot) ?_) | (refine OpsL.nil ?_; (change Trip _ _ _ _ _)))
  refine Trip.ifF ?_
  repeat (first | (refine Trip.seq ?_) | (refine Trip.ops ?_) | (refine Trip.skip ?_; (change Trip _ _ _ _ _)))
  refine OpsL.loadM (hb.ext y1 okG) ?_ (by (first | (simp only [ASt.ev, tmPut, ↓reduceIte, Nat.reduceEqDiff, *]; done))) (by subst_vars; decide)
  refine OpsL.c1 (hf := entersReached) (hc := (reachedC W0 (hG.ext y1 okG) hn hmod)) (h := ?_)
  rintro v2 nx2 H2 ⟨hv2, y2⟩
  refine OpsL.c1 (hf := entersRanks) (hc := (ranksC W0 (NewP.bools hv2) hrl1)) (h := ?_)
  rintro v3 nx3 H3 ⟨hv3, y3⟩
  have z3 := (y1.trans y2).trans y3
  obtain ⟨b, b1, b2, rfl, b4⟩ := hv3
  have hints : ∀ {H' : Heap}, H' b = H3 b → IntsAt H' (.slice (some ⟨b, 0, none⟩) (rankL (reachedF m)).length (rankL (reachedF m)).length) (rankL (reachedF m)) := fun {H'} h => by
    refine .inr ⟨⟨b, 0, none⟩, (rankL (reachedF m)).length, rfl, fun i hi => ?_⟩
    rw [Nat.zero_add]
    exact cell_of (by rw [h]; exact b4) (by rw [List.getElem?_map, List.getElem?_eq_getElem hi]; rfl)
  rw [List.length_map] at *
  repeat (first | (refine OpsL.q (by exact oasg) ?_) | (refine Trip.seq ?_) | (refine Trip.ops ?_) | (refine OpsL.nil ?_; (change Trip _ _ _ _ _)))
  refine OpsL.loadM (hb.ext z3 okG) ?_ (by (first | (simp only [ASt.ev, tmPut, ↓reduceIte, Nat.reduceEqDiff, *]; done))) (by subst_vars; decide)
  repeat (first | (refine OpsL.q (by exact omv) ?_))
  refine OpsL.c2 (hf := entersMerged) (hc := (mergedC W0 (hG.ext z3 okG) hn hmod (hints rfl) hro.len)) (h := ?_)
  rintro v4 nx4 H4 ⟨Vb, τ, rfl, rfl, rfl, ho4, hM⟩
  have hbare := bare_ok hmod
  change MgO τ (bareF m) Vb at hM
  change OpsL _ _ _ _ ⟨tmPut _ _ (.agg (moV (bareF m) Vb).toArray), _, _, _⟩ _
  refine OpsL.c1 (hf := entersClassesOf) (hc := (classesOfC W0 hM.in hbare)) (h := ?_)
  rintro v5 nx5 H5 ⟨hv5, y5⟩
  obtain ⟨d, d1, d2, rfl, d4⟩ := hv5
  have y4 : Ext nx3 H3 τ.nx τ.H := ho4.ext
  have c4 : H5 b = some (.cells ((rankL (reachedF m)).map (.int .i64 ·)) 1 none false (some 3)) := by rw [y5.2 b (Nat.lt_of_lt_of_le b2 y4.1), y4.2 b b2]; exact b4
  have hbd : b ≠ d := by have := y4.1; omega
  have hcl : (classesOfF (bareF m)).length = (leastsL (rankL (reachedF m))).length := by rw [(classesOf_ok hbare).2.1]; simp [bareF, mergedF]
  have z5 : Ext (nx + 1) G nx5 H5 := (z3.trans y4).trans y5
  have hrange : ∀ i, i < (rankL (reachedF m)).length → (rankL (reachedF m)).getD i 0 ≠ -1 → 0 ≤ (rankL (reachedF m)).getD i 0 ∧ (rankL (reachedF m)).getD i 0 < ((classesOfF (bareF m)).length : Int) := fun i hi h1 => by
    have hi2 : i < (reachedF m).length := by simpa [rankL] using hi
    have h2 : 0 ≤ (rankL (reachedF m)).getD i 0 := by
      rw [rankL_get hi2] at h1 ⊢
      split
      · omega
      · rename_i e; rw [if_neg e] at h1; exact absurd rfl h1
    exact ⟨h2, by rw [hcl]; exact hro.num i (by omega) h2⟩
  have hfin : classesF m = (rankL (reachedF m)).map fun x => if x = -1 then x else (classesOfF (bareF m)).getD x.toNat 0 := rfl
  have hlow : ∀ i, i < (rankL (reachedF m)).length → -1 ≤ (rankL (reachedF m)).getD i 0 := fun i hi => by
    by_cases e : (rankL (reachedF m)).getD i 0 = -1
    · omega
    · have := hrange i hi e; omega
  have hb1 : nx + 1 ≤ b := by have := y1.1; have := y2.1; omega
  have hb2 : b < nx5 := by have := y4.1; have := y5.1; omega
  clear hints hv2 b4 hM ho4 hb hG y1 y2 y3 y4 y5 z3 hro hrl1 hrl
  rw [List.length_map]
  generalize rankL (reachedF m) = L at *
  generalize classesOfF (bareF m) = D at *
  repeat (first | (refine OpsL.q (by first | exact oasg | exact omv | exact olen) ?_) | (refine Trip.seq ?_) | (refine Trip.ops ?_) | (refine Trip.block ?_) | (refine OpsL.nil ?_; (change Trip _ _ _ _ _)))
  refine Trip.inv (fun (i : Nat) s => ∃ (tm : Nat → Value) (F : Heap), s = ⟨tm, n, F, nx5⟩ ∧ Ext (nx + 1) G nx5 F ∧ F b = some (.cells (((L.take i).map (fun x => if x = -1 then x else D.getD x.toNat 0) ++ L.drop i).map (.int .i64 ·)) 1 none false (some 3)) ∧ F d = some (.cells (D.map (.int .i64 ·)) 1 none false (some 3)) ∧ tm 3 = .slice (some ⟨b, 0, none⟩) L.length L.length ∧ tm 4 = .slice (some ⟨d, 0, none⟩) D.length D.length ∧ tm 17 = .slice (some ⟨b, 0, none⟩) L.length L.length ∧ tm 18 = .int .i64 L.length ∧ tm 19 = .int .i64 i ∧ i ≤ L.length) (fun i => L.length - i) 0 ?_ ?_
  · exact ⟨_, H5, rfl, z5, by simpa using c4, d4, by simp [tmPut, *], by simp [tmPut, *], by simp [tmPut, *], by simp [tmPut, *], by simp [tmPut, *], by omega⟩
  clear c4 d4 z5
  rintro i s ⟨tm, F, rfl, hx, hF, hD, t3, t4, t17, t18, t19, hi⟩
  repeat (first | (refine OpsL.q (by first | exact omv | exact olss) ?_) | (refine Trip.seq ?_) | (refine Trip.ops ?_) | (refine Trip.block ?_) | (refine Trip.itA (fun _ => ?_) (fun _ => ?_)) | (refine Trip.skip ?_; (change Trip _ _ _ _ _)) | (refine OpsL.nil ?_; (change Trip _ _ _ _ _)))
  · have hlt : i < L.length := by omega
    have hml : ((L.take i).map fun x => if x = -1 then x else D.getD x.toNat 0).length = i := by simp; omega
    have hdr : L.drop i = L.getD i 0 :: L.drop (i + 1) := by rw [List.drop_eq_getElem_cons hlt, List.getD_eq_getElem?_getD, List.getElem?_eq_getElem hlt]; rfl
    have hsn : (L.take (i + 1)).map (fun x => if x = -1 then x else D.getD x.toNat 0) = (L.take i).map (fun x => if x = -1 then x else D.getD x.toNat 0) ++ [if L.getD i 0 = -1 then L.getD i 0 else D.getD (L.getD i 0).toNat 0] := by
      rw [List.take_succ_eq_append_getElem hlt, List.map_append, List.getD_eq_getElem?_getD, List.getElem?_eq_getElem hlt]; rfl
    have hr := hrange i hlt
    have hlo := hlow i hlt
    rw [hdr] at hF
    obtain ⟨x, hxx⟩ : ∃ x, L.getD i 0 = x := ⟨_, rfl⟩
    rw [hxx] at hF hsn hr hlo
    generalize hMM : (L.take i).map (fun x => if x = -1 then x else D.getD x.toNat 0) = M at *
    have ci : cellAt F ⟨b, 0 + i * 1, none⟩ (.int .i64 x) := by
      rw [Nat.zero_add, Nat.mul_one]
      refine cell_of hF ?_
      rw [List.map_append, List.getElem?_append_right (by rw [List.length_map]; omega), List.length_map, hml, Nat.sub_self]
      rfl
    replace hml : PLift (M.length = i) := ⟨hml⟩
    clear hMM hdr
    repeat (first | (refine OpsL.q (by first | exact omv | exact oixa | exact old | exact oasg) ?_) | (refine Trip.seq ?_) | (refine Trip.ops ?_) | (refine OpsL.nil ?_; (change Trip _ _ _ _ _)))
    by_cases e : x = -1
    · refine OpsL.p (by subst_vars; decide) (aop_neqF (by (first | (simp only [ASt.ev, tmPut, ↓reduceIte, Nat.reduceEqDiff, *]; rfl))) (by rfl) e) ?_
      rw [if_pos e] at hsn
      clear e ci
      repeat (first | (refine OpsL.nil ?_; (change Trip _ _ _ _ _)))
      refine Trip.ifF ?_
      repeat (first | (refine OpsL.q (by first | exact omv | exact oadd) ?_) | (refine Trip.ops ?_) | (refine Trip.skip ?_; ((repeat (refine blockExit_normal ?_)); change Trip _ _ _ _ _)) | (refine OpsL.nil ?_; (dsimp only)))
      refine ⟨i + 1, ⟨_, F, rfl, hx, ?_, hD, by simp [tmPut, *], by simp [tmPut, *], by simp [tmPut, *], by simp [tmPut, *], by simp [tmPut, *], by omega⟩, by omega⟩
      rw [hsn, List.append_assoc]
      exact hF
    · refine OpsL.p (by subst_vars; decide) (aop_neqT (by (first | (simp only [ASt.ev, tmPut, ↓reduceIte, Nat.reduceEqDiff, *]; rfl))) (by rfl) e) ?_
      obtain ⟨r1, r2⟩ := hr e
      rw [if_neg e] at hsn
      clear e hr
      have cd : cellAt F ⟨d, 0 + x.toNat * 1, none⟩ (.int .i64 (D.getD x.toNat 0)) := by
        rw [Nat.zero_add, Nat.mul_one]
        refine cell_of hD ?_
        rw [List.getElem?_map, List.getElem?_eq_getElem (by omega), List.getD_eq_getElem?_getD, List.getElem?_eq_getElem (by omega)]
        rfl
      have hset : ((M ++ x :: L.drop (i + 1)).map (Value.int .i64 ·)).set i (.int .i64 (D.getD x.toNat 0)) = ((M ++ [D.getD x.toNat 0]) ++ L.drop (i + 1)).map (.int .i64 ·) := by
        rw [set_ints, List.set_append_right _ _ (by rw [hml.down]; exact Nat.le_refl _), hml.down, Nat.sub_self, List.append_assoc]
        rfl
      have hcl2 : i < ((M ++ x :: L.drop (i + 1)).map (Value.int .i64 ·)).length := by have := hml.down; simp; omega
      rw [← hsn] at hset
      repeat (first | (refine OpsL.nil ?_; (change Trip _ _ _ _ _)))
      refine Trip.ifT ?_
      repeat (first | (refine OpsL.q (by first | exact omv | exact oixa | exact old) ?_) | (refine Trip.ops ?_))
      refine OpsL.storeAt (a := ⟨b, 0 + (i : Int).toNat * 1, none⟩) (v := .int .i64 (D.getD x.toNat 0)) (cs' := ((L.take (i + 1)).map (fun x => if x = -1 then x else D.getD x.toNat 0) ++ L.drop (i + 1)).map (.int .i64 ·)) i (by (first | (simp only [ASt.ev, tmPut, ↓reduceIte, Nat.reduceEqDiff, *]; rfl))) (by (first | (simp only [ASt.ev, tmPut, ↓reduceIte, Nat.reduceEqDiff, *]; done))) (by exact rfl) rfl rfl hF (by simp) hcl2 hset ?_
      clear ci cd
      repeat (first | (refine OpsL.q (by first | exact omv | exact oadd) ?_) | (refine Trip.ops ?_) | (refine OpsL.nil ?_; ((repeat (refine blockExit_normal ?_)); first | (change Trip _ _ _ _ _) | (dsimp only))))
      exact ⟨i + 1, ⟨_, _, rfl, ⟨hx.1, fun j hj => by rw [Heap.put_ne (by omega)]; exact hx.2 j hj⟩, Heap.put_eq, by rw [Heap.put_ne hbd.symm]; exact hD, by simp [tmPut, *], by simp [tmPut, *], by simp [tmPut, *], by simp [tmPut, *], by simp [tmPut, *], by omega⟩, by omega⟩
  · have hi2 : i = L.length := by omega
    subst hi2
    repeat (first | (refine OpsL.q (by first | exact omv | exact oasg) ?_) | (refine Trip.seq ?_) | (refine Trip.ops ?_) | (refine Trip.exit ?_; ((repeat (refine blockExit_eq ?_)); change Trip _ _ _ _ _)) | (refine Trip.ret ?_; (dsimp only)) | (refine OpsL.nil ?_; (change Trip _ _ _ _ _)))
    rw [List.take_length, List.drop_length, List.append_nil, ← hfin] at hF
    have hfl : (classesF m).length = L.length := by rw [hfin, List.length_map]
    exact ⟨.inr rfl, _, res_tmp, ⟨b, by omega, by omega, by rw [List.length_map, hfl]; simp [tmPut, *], hF⟩, x0.trans hx⟩
end Go.Proofs.Ytjgbcpagfghfnaa
