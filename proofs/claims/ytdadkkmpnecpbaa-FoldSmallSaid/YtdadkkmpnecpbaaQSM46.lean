import Derived.Test.YtdadkkmpnecpbaaQSM45
import Derived.Test.YtdadkkmpnecpbaaQSM17
namespace Go.Proofs.Ytdadkkmpnecpbaa
set_option linter.unusedSimpArgs false
set_option linter.unusedVariables false
set_option linter.unnecessarySimpa false
open Go.Am Go.RowKit
theorem step_len {m : Mo} {s t : Int × List Int} {x : Int × Int} (h : stepF m s x = some t) : t.2.length ≤ s.2.length + 1 := by
  unfold stepF at h
  split at h
  · split at h
    · cases h; simp
    · cases h
  · split at h
    · split at h
      · split at h
        · cases h; simp
        · cases h; simp; omega
      · cases h
    · split at h
      · split at h
        · cases h; simp
        · cases h
      · cases h
attribute [local irreducible] aop OpsL Trip blockExit OpsD OpsK OpsR OpsQ
theorem entersFTakes : Am.Enters Try.prog 21 := ⟨Try.f21, Try.func21, by kernel_rfl, by kernel_rfl⟩
set_option maxRecDepth 20000 in
set_option maxHeartbeats 16000000 in
theorem fTakesC (W0 : World) {nx : Nat} {H : Heap} {m : Mo} {V : MoV} {wv : Value} {w : List (Int × Int)} (hm : MoIn H m V) (hn : MoLen m) (hmod : ModOk m) (hw : RowsAt encPr 2 H wv w) (hwl : w.length ≤ 50000) :
    ACalls Try.prog W0 21 [.agg (moV m V).toArray, wv] nx H fun v nx' H' => v = .bool (takesF m w) ∧ Ext nx H nx' H' := by
  obtain ⟨vo, ve, vf, vi, vl, vr⟩ := V
  obtain ⟨oa, oc, ho⟩ := hm.of.slice
  obtain ⟨ea, ec, he⟩ := hm.entry.slice
  obtain ⟨fa, fc, hf⟩ := hm.final.slice
  obtain ⟨ia, ic, hi⟩ := hm.inn.slice
  obtain ⟨la, lc, hl⟩ := hm.low.slice
  obtain ⟨ra, rc, hr⟩ := hm.ret.slice
  simp only at ho he hf hi hl hr
  subst ho he hf hi hl hr
  refine ACalls.by_trip (fn := Try.f21) (c := _) Try.func21 rfl (fun tm n hn0 htm => ?_)
  have e0 : tm 0 = .agg (moV m ⟨.slice oa m.of.length oc, .slice ea m.entry.length ec, .slice fa m.final.length fc, .slice ia m.inn.length ic, .slice la m.low.length lc, .slice ra m.ret.length rc⟩).toArray := htm 0
  have e1 : tm 1 = wv := htm 1
  clear htm
  replace hn0 : n = 33 := hn0
  refine Trip.ok fun hok => ?_
  replace hok : ∀ id o, H id = some o → id < nx := hok
  refine Trip.seq ?_
  refine Trip.ops ?_
  refine OpsL.boxM hm hok ?_ (by (first | (simp only [ASt.ev, tmPut, ↓reduceIte, Nat.reduceEqDiff, *]; done))) (by subst_vars; decide)
  intro G x0 okG hb hG
  clear e0
  have hwG := hw.ext x0 hok
  obtain ⟨wa, wc, rfl⟩ := hwG.slice
  have hk := hmod.k.1
  have hrun : takesF m w = match runM m w (m.entry.getD 0 0, []) with | none => false | some s => m.final.getD s.1.toNat false := by
    unfold takesF; rw [modF_iff.2 hmod]; rfl
  repeat (first | (refine OpsL.q (by exact oasg) ?_) | (refine Trip.seq ?_) | (refine Trip.ops ?_) | (refine OpsL.nil ?_; (change Trip _ _ _ _ _)))
  refine OpsL.loadM hb ?_ (by (first | (simp only [ASt.ev, tmPut, ↓reduceIte, Nat.reduceEqDiff, *]; done))) (by subst_vars; decide)
  refine OpsL.c1 (hf := entersIsMod) (hc := (isModC W0 hG hn)) (h := ?_)
  rintro v1 nx1 H1 ⟨rfl, y1⟩
  rw [modF_iff.2 hmod]
  repeat (first | (refine OpsL.q (by exact onot) ?_) | (refine OpsL.nil ?_; (change Trip _ _ _ _ _)))
  refine Trip.ifF ?_
  repeat (first | (refine Trip.seq ?_) | (refine Trip.skip ?_; (change Trip _ _ _ _ _)))
  have y1G : OldC ⟨nx + 1, fun _ => .old, G⟩ ⟨nx1, fun i => if i < nx + 1 then .old else .tmp, H1⟩ := ⟨y1.1, fun i hi => ⟨if_pos hi, y1.2 i hi⟩⟩
  obtain ⟨σ, hσ1, hσ2, hoσ⟩ : ∃ σ : CH, σ.nx = nx1 ∧ σ.H = H1 ∧ OldC ⟨nx + 1, fun _ => .old, G⟩ σ := ⟨_, rfl, rfl, y1G⟩
  subst hσ1 hσ2
  clear y1G y1
  have hKK : ∀ {τ : CH}, OldC ⟨nx + 1, fun _ => .old, G⟩ τ → ∀ {l : List Nat}, ∀ k ∈ l, getc τ.H ⟨nx, 0, none⟩ 8 = some (moV m ⟨.slice oa m.of.length oc, .slice ea m.entry.length ec, .slice fa m.final.length fc, .slice ia m.inn.length ic, .slice la m.low.length lc, .slice ra m.ret.length rc⟩) ∧ cellAt τ.H ⟨nx, 3, none⟩ (.slice ea m.entry.length ec) := fun h _ _ _ => ⟨(hb.ext h.ext okG).all, (hb.ext h.ext okG).c3⟩
  have eh := hG.entry
  obtain ⟨qe, rfl, hce⟩ := IntsAt.atI eh (show (0 : Int) ≤ 0 by omega) (show (0 : Int) < m.entry.length by omega)
  simp only [Int.toNat_zero] at hce
  obtain ⟨E, hE⟩ : ∃ E, m.entry.getD 0 0 = E := ⟨_, rfl⟩
  have hgood := start_good hmod (R := fun _ => True) all_closed
  rw [hE] at hce hrun hgood
  refine Trip.mono (Q := fun e st => e = .normal ∧ ∃ tm' τ rb, st = ⟨tm', n, τ.H, τ.nx⟩ ∧ tm' 1 = .slice wa w.length wc ∧ tm' 2 = .pointer (some ⟨nx, 0, none⟩) ∧ tm' 5 = .pointer (some ⟨rb, 0, none⟩) ∧ RdS ⟨nx + 1, fun _ => .old, G⟩ τ rb m ⟨.slice oa m.of.length oc, .slice (some qe) m.entry.length ec, .slice fa m.final.length fc, .slice ia m.inn.length ic, .slice la m.low.length lc, .slice ra m.ret.length rc⟩ (E, [])) ?_ ?_
  · have h0 := hKK hoσ (l := [0]) 0 (by simp)
    replace hce : ∀ {τ : CH}, OldC ⟨nx + 1, fun _ => .old, G⟩ τ → cellAt τ.H ⟨qe.block, qe.off + 0 * 1, qe.spot⟩ (.int .i64 E) := fun h => cell_ext h.ext okG hce
    refine OpsQ.drawn [6, 7] (K := fun _ _ H => (getc H ⟨nx, 0, none⟩ 8 = some (moV m ⟨.slice oa m.of.length oc, .slice (some qe) m.entry.length ec, .slice fa m.final.length fc, .slice ia m.inn.length ic, .slice la m.low.length lc, .slice ra m.ret.length rc⟩) ∧ cellAt H ⟨nx, 3, none⟩ (.slice (some qe) m.entry.length ec)) ∧ cellAt H ⟨qe.block, qe.off + 0 * 1, qe.spot⟩ (.int .i64 E)) mixed13 (by kernel_rfl) (by kernel_rfl) [0, 1, 2, 3, 4, 5, 6, 7] (by kernel_rfl) (fun _ _ => ⟨h0, hce hoσ⟩) ?_
    refine OpsQ.sp 7 (v := .agg (moV m ⟨.slice oa m.of.length oc, .slice (some qe) m.entry.length ec, .slice fa m.final.length fc, .slice ia m.inn.length ic, .slice la m.low.length lc, .slice ra m.ret.length rc⟩).toArray) rfl (by kernel_rfl) (by subst_vars; decide) ⟨h0, hce hoσ⟩ (fun H2 nx2 hK => aop_loadAgg (k := 8) (by (first | (simp only [ASt.ev, tmPut, ↓reduceIte, Nat.reduceEqDiff, *]; done))) (by exact rfl) rfl (by exact rfl) hK.1.1) ?_
    refine OpsQ.one rfl rfl rfl (by kernel_rfl) ?_
    repeat (first | (refine OpsL.q (by exact ofa) ?_) | (refine OpsL.nil ?_; (dsimp only)))
    refine OpsQ.sp 7 (v := .slice (some qe) m.entry.length ec) rfl (by kernel_rfl) (by subst_vars; decide) ⟨h0, hce hoσ⟩ (fun H2 nx2 hK => aop_load (by (first | (simp only [ASt.ev, tmPut, ↓reduceIte, Nat.reduceEqDiff, *]; rfl))) (by exact rfl) rfl hK.1.2) ?_
    refine OpsQ.one rfl rfl rfl (by kernel_rfl) ?_
    repeat (first | (refine OpsL.q (by exact oixa) ?_) | (refine OpsL.nil ?_; (dsimp only)))
    refine OpsQ.sp 7 (v := .int .i64 E) rfl (by kernel_rfl) (by subst_vars; decide) ⟨h0, hce hoσ⟩ (fun H2 nx2 hK => aop_load (by (first | (simp only [ASt.ev, tmPut, ↓reduceIte, Nat.reduceEqDiff, *]; rfl))) (by exact rfl) rfl hK.2) ?_
    refine OpsQ.one rfl rfl rfl (by kernel_rfl) ?_
    refine OpsL.p (by subst_vars; decide) (aop_build (l := [(0, .agg (moV m ⟨.slice oa m.of.length oc, .slice (some qe) m.entry.length ec, .slice fa m.final.length fc, .slice ia m.inn.length ic, .slice la m.low.length lc, .slice ra m.ret.length rc⟩).toArray), (1, .int .i64 E)]) (v := .agg (moV m ⟨.slice oa m.of.length oc, .slice (some qe) m.entry.length ec, .slice fa m.final.length fc, .slice ia m.inn.length ic, .slice la m.low.length lc, .slice ra m.ret.length rc⟩ ++ [Value.int .i64 E, Value.slice none 0 0]).toArray) (by simp [evParts, ASt.ev, tmPut]) (by kernel_rfl)) ?_
    refine OpsL.nil ?_
    clear h0
    refine OpsQ.act (by kernel_rfl) (ActStep.walk rfl rfl ?_)
    refine OpsL.newC .self (aop_alloc (l := moV noMo nilV ++ [.int .i64 0, .slice none 0 0]) (by exact rfl)) (by subst_vars; decide) ?_
    intro σ2 hA x2
    obtain ⟨rb, hrb⟩ : ∃ k, σ.nx = k := ⟨_, rfl⟩
    rw [hrb] at hA ⊢
    have ho2 := hoσ.keep x2 (by simp)
    refine OpsL.nil ⟨fun k hk => ⟨hKK ho2 k hk, hce ho2⟩, ?_⟩
    refine OpsQ.act (by kernel_rfl) (ActStep.walk rfl rfl ?_)
    refine OpsL.setAllC (vs := moV m ⟨.slice oa m.of.length oc, .slice (some qe) m.entry.length ec, .slice fa m.final.length fc, .slice ia m.inn.length ic, .slice la m.low.length lc, .slice ra m.ret.length rc⟩ ++ [.int .i64 E, .slice none 0 0]) hA (by exact rfl) rfl rfl rfl (by (first | (simp only [ASt.ev, tmPut, ↓reduceIte, Nat.reduceEqDiff, *]; done))) (by (first | (simp only [ASt.ev, tmPut, ↓reduceIte, Nat.reduceEqDiff, *]; done))) ?_
    intro τ hA3 x3
    refine OpsL.nil ⟨fun k hk => absurd hk (by simp), ?_⟩
    refine OpsQ.nil ?_
    exact ⟨rfl, _, τ, rb, rfl, by simp [tmPut, *], by simp [tmPut, *], by simp [tmPut, *], ho2.keep x3 (by simp), _, hA3, OwnC.nil⟩
  clear hce hoσ hKK e1
  rintro e st ⟨rfl, tm, σ, rb, rfl, t1, t2, t5, h⟩
  (change Trip _ _ _ _ _)
  repeat (first | (refine OpsL.q (by first | exact omv | exact olen) ?_) | (refine Trip.seq ?_) | (refine Trip.ops ?_) | (refine Trip.block ?_) | (refine OpsL.nil ?_; (change Trip _ _ _ _ _)))
  refine Trip.inv (fun (i : Nat) s => ∃ tm σ q, s = ⟨tm, n, σ.H, σ.nx⟩ ∧ tm 2 = .pointer (some ⟨nx, 0, none⟩) ∧ tm 5 = .pointer (some ⟨rb, 0, none⟩) ∧ tm 17 = .slice wa w.length wc ∧ tm 18 = .int .i64 w.length ∧ tm 19 = .int .i64 i ∧ i ≤ w.length ∧ RdS ⟨nx + 1, fun _ => .old, G⟩ σ rb m ⟨.slice oa m.of.length oc, .slice (some qe) m.entry.length ec, .slice fa m.final.length fc, .slice ia m.inn.length ic, .slice la m.low.length lc, .slice ra m.ret.length rc⟩ q ∧ RGood m (fun _ => True) q ∧ q.2.length ≤ i ∧ runM m w (E, []) = runM m (w.drop i) q) (fun i => w.length - i) 0 ?_ ?_
  · exact ⟨_, σ, (E, []), rfl, by simp [tmPut, *], by simp [tmPut, *], by simp [tmPut, *], by simp [tmPut, *], by simp [tmPut, *], by omega, h, hgood, by simp, rfl⟩
  clear h t1 t2 t5 hgood
  rintro i s ⟨tm, σ, q, rfl, t2, t5, t17, t18, t19, hi, h, hg, hql, hrn⟩
  repeat (first | (refine OpsL.q (by exact olss) ?_) | (refine Trip.seq ?_) | (refine Trip.ops ?_) | (refine Trip.block ?_) | (refine Trip.itA (fun _ => ?_) (fun _ => ?_)) | (refine Trip.skip ?_; (change Trip _ _ _ _ _)) | (refine OpsL.nil ?_; (change Trip _ _ _ _ _)))
  · have hlt : i < w.length := by omega
    have hdr : w.drop i = w[i] :: w.drop (i + 1) := List.drop_eq_getElem_cons hlt
    rw [hdr] at hrn
    rcases hwG with ⟨c0, hc0, hc1⟩ | ⟨p, c0, hc0, hc1⟩
    · rw [hc1] at hlt; simp at hlt
    cases hc0
    have hcell := hc1 i hlt
    obtain ⟨x, hx⟩ : ∃ x, w[i] = x := ⟨_, rfl⟩
    rw [hx] at hrn hcell
    replace hcell := getc_ext h.old.ext okG hcell
    have hst : runM m (x :: w.drop (i + 1)) q = match stepF m q x with | none => none | some t => runM m (w.drop (i + 1)) t := rfl
    rw [hst] at hrn
    clear hst hdr hx
    repeat (first | (refine OpsL.q (by exact oixa) ?_))
    refine OpsL.p (by subst_vars; decide) (aop_loadAgg (k := 2) (vs := encPr x) (by (first | (simp only [ASt.ev, tmPut, ↓reduceIte, Nat.reduceEqDiff, *]; rfl))) (by exact rfl) rfl (by exact rfl) hcell) ?_
    refine OpsL.newC .tmp (aop_alloc (l := encPr (0, 0)) (by exact rfl)) (by subst_vars; decide) ?_
    intro σ2 hB x2
    obtain ⟨B, hBn⟩ : ∃ B, σ.nx = B := ⟨_, rfl⟩
    rw [hBn] at hB ⊢
    replace h := h.keep x2 (by simp) (by simp) (by simp)
    refine OpsL.setAllC (vs := encPr x) hB (by exact rfl) rfl rfl rfl (by (first | (simp only [ASt.ev, tmPut, ↓reduceIte, Nat.reduceEqDiff, *]; done))) (by (first | (simp only [ASt.ev, tmPut, ↓reduceIte, Nat.reduceEqDiff, *]; done))) ?_
    intro σ3 hB3 x3
    replace h := h.keep x3 (by simp) (by simp) (by simp)
    have hall : getc σ3.H ⟨B, 0, none⟩ 2 = some (encPr x) := getc_all hB3.2.2 rfl
    clear hcell hB hB3 hBn x2 x3
    refine OpsL.nil ?_
    (change Trip _ _ _ _ _)
    repeat (first | (refine Trip.seq ?_) | (refine Trip.ops ?_))
    refine OpsL.p (by subst_vars; decide) (aop_loadAgg (k := 2) (by (first | (simp only [ASt.ev, tmPut, ↓reduceIte, Nat.reduceEqDiff, *]; done))) (by exact rfl) rfl (by exact rfl) hall) ?_
    refine OpsL.c2 (hf := entersStep13) (hc := (stepC W0 h hG okG hmod hg (by omega)).ok) (h := ?_)
    rintro v nx2 H2 ⟨hv, okv⟩
    rcases hv with ⟨hnone, rfl, τ, rfl, rfl, hoN⟩ | ⟨t, hsome, rfl, τ, rfl, rfl, h⟩
    · rw [hnone] at hrn
      repeat (first | (refine OpsL.q (by exact onot) ?_) | (refine OpsL.nil ?_; (change Trip _ _ _ _ _)))
      refine Trip.ifT ?_
      repeat (first | (refine OpsL.q (by exact oasg) ?_) | (refine Trip.seq ?_) | (refine Trip.ops ?_) | (refine Trip.ret ?_; ((repeat (refine blockExit_ret ?_)); dsimp only)) | (refine OpsL.nil ?_; (change Trip _ _ _ _ _)))
      have hres : takesF m w = false := by rw [hrun, hrn]
      exact ⟨.inr rfl, _, res_tmp, by rw [hres]; simp [tmPut], x0.trans hoN.ext⟩
    · rw [hsome] at hrn
      have hg2 := step_good hmod all_closed hg hsome
      have hlen : t.2.length ≤ q.2.length + 1 := step_len hsome
      repeat (first | (refine OpsL.q (by exact onot) ?_) | (refine OpsL.nil ?_; (change Trip _ _ _ _ _)))
      refine Trip.ifF ?_
      repeat (first | (refine OpsL.q (by first | exact omv | exact oadd) ?_) | (refine Trip.ops ?_) | (refine Trip.skip ?_; ((repeat (refine blockExit_normal ?_)); change Trip _ _ _ _ _)) | (refine OpsL.nil ?_; (dsimp only)))
      exact ⟨i + 1, ⟨_, τ, t, rfl, by simp [tmPut, *], by simp [tmPut, *], by simp [tmPut, *], by simp [tmPut, *], by simp [tmPut, *], by omega, h, hg2, by omega, hrn⟩, by omega⟩
  · have hi2 : i = w.length := by omega
    subst hi2
    rw [List.drop_length] at hrn
    have hres : takesF m w = m.final.getD q.1.toNat false := by rw [hrun, hrn]; rfl
    obtain ⟨⟨a0, a1⟩, -, -⟩ := hg.at
    obtain ⟨P, hP⟩ : ∃ P : Nat, q.1 = (P : Int) := ⟨q.1.toNat, by omega⟩
    rw [hP, Int.toNat_natCast] at hres
    obtain ⟨ho, lv, hrd, -⟩ := h
    rw [hP] at hrd a1
    have g8 : cellAt σ.H ⟨rb, 8, none⟩ (.int .i64 P) := hrd.cell rfl
    have g4 := (hb.ext ho.ext okG).c4
    have fl := Nat.le_of_eq hmod.fl.symm
    obtain ⟨qf, rfl, hcf⟩ := BoolsAt.atI hG.final (show (0 : Int) ≤ P by omega) (show (P : Int) < m.final.length by omega)
    rw [Int.toNat_natCast] at hcf
    replace hcf := cell_ext ho.ext okG hcf
    repeat (first | (refine OpsL.q (by first | exact ofa | exact old | exact oixa | exact oasg) ?_) | (refine Trip.seq ?_) | (refine Trip.ops ?_) | (refine Trip.exit ?_; ((repeat (refine blockExit_eq ?_)); change Trip _ _ _ _ _)) | (refine Trip.ret ?_; (dsimp only)) | (refine OpsL.nil ?_; (change Trip _ _ _ _ _)))
    exact ⟨.inr rfl, _, res_tmp, by rw [hres]; simp [tmPut], x0.trans ho.ext⟩
end Go.Proofs.Ytdadkkmpnecpbaa
namespace Go.Proofs.Ytdadkkmpnecpbaa
set_option linter.unusedSimpArgs false
set_option linter.unusedVariables false
set_option linter.unnecessarySimpa false
open Go.Am Go.RowKit
attribute [local irreducible] aop OpsL Trip blockExit OpsD OpsK OpsR OpsQ
theorem encPr_len (x : Int × Int) : (encPr x).length = 2 := rfl
theorem encPr_one (x : Int × Int) : (encPr x).all (·.oneCell') = true := rfl
theorem entersLWord : Am.Enters Try.prog 16 := ⟨Try.f16, Try.func16, by kernel_rfl, by kernel_rfl⟩
set_option maxRecDepth 20000 in
set_option maxHeartbeats 16000000 in
theorem lwordC (W0 : World) {nx : Nat} {H : Heap} {m : Mo} {V : MoV} {nv : Value} {ws : List Int} {most : Nat} (hm : MoIn H m V) (hmod : ModOk m) (hw : IntsAt H nv ws) (hmost : most ≤ 1000) :
    ACalls Try.prog W0 16 [.agg (moV m V).toArray, nv, .int .i64 most] nx H fun v nx' H' => ∃ (w : List (Int × Int)) (ob : Option (Nat × Nat)), w.length ≤ most ∧ OwnOf encPr 2 50 H' ob v w ∧ (∀ b t, ob = some (b, t) → nx ≤ b ∧ b < nx') ∧ Ext nx H nx' H' := by
  refine ACalls.by_trip (fn := Try.f16) (c := _) Try.func16 rfl (fun tm n hn0 htm => ?_)
  have e0 : tm 0 = .agg (moV m V).toArray := htm 0
  have e1 : tm 1 = nv := htm 1
  have e2 : tm 2 = .int .i64 most := htm 2
  clear htm
  replace hn0 : n = 55 := hn0
  refine Trip.ok fun hok => ?_
  replace hok : ∀ id o, H id = some o → id < nx := hok
  refine Trip.seq ?_
  refine Trip.ops ?_
  refine OpsL.boxM hm hok ?_ (by (first | (simp only [ASt.ev, tmPut, ↓reduceIte, Nat.reduceEqDiff, *]; done))) (by subst_vars; decide)
  intro G x0 okG hb hG
  clear e0
  have hwG := hw.ext x0 hok
  obtain ⟨wa, wc, rfl⟩ := hwG.slice
  obtain ⟨ea, ec, ev⟩ := hG.entry.slice
  have hp := hmod.pl
  have hc := hmod.cl
  have hk := hmod.k
  repeat (first | (refine OpsL.q (by exact oasg) ?_) | (refine Trip.seq ?_) | (refine Trip.ops ?_) | (refine Trip.block ?_) | (refine OpsL.nil ?_; (change Trip _ _ _ _ _)))
  refine Trip.inv (fun (i : Nat) s => ∃ (tm : Nat → Value) (nx' : Nat) (F : Heap) (w : List (Int × Int)) (ob : Option (Nat × Nat)) (v : Value), s = ⟨tm, n, F, nx'⟩ ∧ Ext (nx + 1) G nx' F ∧ OwnOf encPr 2 50 F ob v w ∧ (∀ b t, ob = some (b, t) → nx + 1 ≤ b ∧ b < nx') ∧ w.length ≤ i ∧ tm 1 = .slice wa ws.length wc ∧ tm 2 = .int .i64 most ∧ tm 3 = .pointer (some ⟨nx, 0, none⟩) ∧ tm 7 = v ∧ tm 8 = .int .i64 i ∧ i ≤ most) (fun i => most - i) 0 ?_ ?_
  · exact ⟨_, _, _, [], none, _, rfl, Ext.refl, ⟨rfl, rfl, rfl⟩, fun _ _ h => (by cases h), Nat.zero_le _, by simp [tmPut, *], by simp [tmPut, *], by simp [tmPut, *], by simp [tmPut, *], by simp [tmPut, *], Nat.zero_le _⟩
  clear e1 e2
  rintro i s ⟨tm, nx', F, w, ob, v, rfl, hx, hown, hob, hwl, t1, t2, t3, t7, t8, hi⟩
  have hexit : ∃ (w : List (Int × Int)) (ob : Option (Nat × Nat)), w.length ≤ most ∧ OwnOf encPr 2 50 F ob v w ∧ (∀ b t, ob = some (b, t) → nx ≤ b ∧ b < nx') ∧ Ext nx H nx' F := ⟨w, ob, by omega, hown, fun b t e => by have := hob b t e; omega, x0.trans hx⟩
  repeat (first | (refine OpsL.q (by first | exact omv | exact olen) ?_) | (refine Trip.seq ?_) | (refine Trip.ops ?_))
  by_cases hiw : i < ws.length
  · refine OpsL.lssT ?_
    repeat (first | (refine OpsL.q (by exact omv) ?_) | (refine OpsL.ung ?_))
    by_cases him : i < most
    · refine OpsL.lssT ?_
      clear hexit
      obtain ⟨q, rfl, hcx⟩ := IntsAt.atI (hwG.ext hx okG) (show (0 : Int) ≤ i by omega) (show (i : Int) < ws.length by omega)
      rw [Int.toNat_natCast] at hcx
      repeat (first | (refine OpsL.q (by exact opkT) ?_) | (refine OpsL.nil ?_; (change Trip _ _ _ _ _)))
      refine Trip.ifT ?_
      repeat (first | (refine OpsL.q (by first | exact omv | exact oixa | exact old) ?_) | (refine Trip.seq ?_) | (refine Trip.ops ?_) | (refine Trip.block ?_) | (refine Trip.skip ?_; (change Trip _ _ _ _ _)))
      refine OpsL.call2 (by subst_vars; decide) (by (first | (simp only [ASt.ev, tmPut, ↓reduceIte, Nat.reduceEqDiff, *]; rfl))) (by rfl) entersWithinN (withinC W0 _ 1073741824 (by omega) (by omega)) ?_
      rintro v1 nx1 H1 ⟨rfl, rfl, rfl⟩
      have n0 := Int.emod_nonneg (ws.getD i 0) (show (1073741824 : Int) ≠ 0 by omega)
      have n1 := Int.emod_lt_of_pos (ws.getD i 0) (show (0 : Int) < 1073741824 by omega)
      generalize ws.getD i 0 % 1073741824 = z at *
      have k0 := Int.emod_nonneg z (show (3 : Int) ≠ 0 by omega)
      have k1 := Int.emod_lt_of_pos z (show (0 : Int) < 3 by omega)
      clear hcx
      repeat (first | (refine OpsL.q (by first | exact omv | exact oasg) ?_) | (refine Trip.seq ?_) | (refine Trip.ops ?_) | (refine OpsL.nil ?_; (change Trip _ _ _ _ _)))
      refine OpsL.p (by subst_vars; decide) (aop_remN (by (first | (simp only [ASt.ev, tmPut, ↓reduceIte, Nat.reduceEqDiff, *]; rfl))) (by rfl) (by omega) (by omega)) ?_
      generalize z % 3 = y at *
      refine OpsL.p (by subst_vars; decide) (aop_add (by rfl) (by (first | (simp only [ASt.ev, tmPut, ↓reduceIte, Nat.reduceEqDiff, *]; rfl))) (by omega)) ?_
      have g3 := (hb.ext hx okG).c3
      have g1 := (hb.ext hx okG).c1
      have g0 := (hb.ext hx okG).c0
      rw [ev] at g3
      obtain ⟨kk, hkk⟩ : ∃ kk : Nat, 1 + y = (kk : Int) := ⟨(1 + y).toNat, by omega⟩
      have hk4 : kk < 4 := by omega
      rw [hkk]
      clear hkk
      repeat (first | (refine OpsL.q (by first | exact oasg | exact ofa | exact old | exact olen | exact osub) ?_) | (refine Trip.seq ?_) | (refine Trip.ops ?_) | (refine OpsL.nil ?_; (change Trip _ _ _ _ _)))
      refine OpsL.new (by subst_vars; decide) (aop_buildSlice (l := [(0, .int .i64 0), (1, .int .i64 ((m.entry.length : Int) - 1)), (2, .int .i64 m.closings), (3, .int .i64 m.plains)]) (r := (.slice (some ⟨nx1, 0, none⟩) 4 4, .new (.cells [.int .i64 0, .int .i64 ((m.entry.length : Int) - 1), .int .i64 m.closings, .int .i64 m.plains] 1 none false (some 3)))) (by simp [evParts, ASt.ev, tmPut]; rfl) (by kernel_rfl)) ?_
      obtain ⟨F1, hF1⟩ : ∃ F1, (H1.put nx1 (.cells [.int .i64 0, .int .i64 ((m.entry.length : Int) - 1), .int .i64 m.closings, .int .i64 m.plains] 1 none false (some 3))) = F1 := ⟨_, rfl⟩
      have x1 : Ext nx1 H1 (nx1 + 1) F1 := by rw [← hF1]; exact Ext.newPut
      have hc1 : F1 nx1 = some (.cells [.int .i64 0, .int .i64 ((m.entry.length : Int) - 1), .int .i64 m.closings, .int .i64 m.plains] 1 none false (some 3)) := by rw [← hF1]; exact Heap.put_eq
      rw [hF1]
      clear hF1 g3 g1 g0
      obtain ⟨c, hcell⟩ : ∃ c : Int, cellAt F1 ⟨nx1, 0 + kk * 1, none⟩ (.int .i64 c) := by
        have : kk = 0 ∨ kk = 1 ∨ kk = 2 ∨ kk = 3 := by omega
        rcases this with rfl | rfl | rfl | rfl
        · exact ⟨_, cell_of hc1 rfl⟩
        · exact ⟨_, cell_of hc1 rfl⟩
        · exact ⟨_, cell_of hc1 rfl⟩
        · exact ⟨_, cell_of hc1 rfl⟩
      replace hown := hown.ext x1 (fun b t e => (hob b t e).2)
      clear hc1
      repeat (first | (refine OpsL.q (by exact omv) ?_))
      refine OpsL.p (by subst_vars; decide) (aop_indexAddr (by (first | (simp only [ASt.ev, tmPut, ↓reduceIte, Nat.reduceEqDiff, *]; rfl))) (by (first | (simp only [ASt.ev, tmPut, ↓reduceIte, Nat.reduceEqDiff, *]; rfl))) (by exact rfl) (by exact rfl) (by omega) (by omega)) ?_
      repeat (first | (refine OpsL.q (by first | exact old | exact oasg | exact omv | exact ogtr) ?_) | (refine Trip.seq ?_) | (refine Trip.ops ?_) | (refine Trip.itA (fun _ => ?_) (fun _ => ?_)) | (refine OpsL.nil ?_; (change Trip _ _ _ _ _)))
      · have hc0 : 0 < c := by omega
        refine OpsL.p (by subst_vars; decide) (aop_quoT (by (first | (simp only [ASt.ev, tmPut, ↓reduceIte, Nat.reduceEqDiff, *]; rfl))) (by rfl) (by omega) (by omega) (by omega)) ?_
        repeat (first | (refine OpsL.q (by exact omv) ?_))
        refine OpsL.p (by subst_vars; decide) (aop_rem (by (first | (simp only [ASt.ev, tmPut, ↓reduceIte, Nat.reduceEqDiff, *]; rfl))) (by (first | (simp only [ASt.ev, tmPut, ↓reduceIte, Nat.reduceEqDiff, *]; rfl))) (by omega)) ?_
        generalize (z.tdiv 3).tmod c = e at *
        refine OpsL.p (by subst_vars; decide) (aop_build (l := [(0, .int .i64 kk), (1, .int .i64 e)]) (v := .agg (encPr ((kk : Int), e)).toArray) (by simp [evParts, ASt.ev, tmPut]) (by kernel_rfl)) ?_
        refine OpsL.new (by subst_vars; decide) (aop_buildSlice (l := [(0, .agg (encPr ((kk : Int), e)).toArray)]) (r := (.slice (some ⟨nx1 + 1, 0, none⟩) 1 1, .new (.cells (encPr ((kk : Int), e)) 2 none false (some 50)))) (by simp [evParts, ASt.ev, tmPut]) (by kernel_rfl)) ?_
        obtain ⟨F2, hF2⟩ : ∃ F2, (F1.put (nx1 + 1) (.cells (encPr ((kk : Int), e)) 2 none false (some 50))) = F2 := ⟨_, rfl⟩
        have x2 : Ext (nx1 + 1) F1 (nx1 + 1 + 1) F2 := by rw [← hF2]; exact Ext.newPut
        have hu : RowsAt encPr 2 F2 (.slice (some ⟨nx1 + 1, 0, none⟩) 1 1) [((kk : Int), e)] := by
          refine .inr ⟨⟨nx1 + 1, 0, none⟩, 1, rfl, fun i hi => ?_⟩
          have hi0 : i = 0 := by simpa using hi
          subst hi0
          exact getc_all (by rw [← hF2]; exact Heap.put_eq) rfl
        rw [hF2]
        replace hown := hown.ext x2 (fun b t e => by have := (hob b t e).2; omega)
        clear hF2 hcell
        refine OpsL.appendO (bytes := 16) (z := [.int .i64 0, .int .i64 0]) encPr_len encPr_one (by decide) (by subst_vars; decide) hown hu (by (first | (simp only [ASt.ev, tmPut, ↓reduceIte, Nat.reduceEqDiff, *]; done))) (by (first | (simp only [ASt.ev, tmPut, ↓reduceIte, Nat.reduceEqDiff, *]; done))) (fun b t e => by have := (hob b t e).2; omega) (by exact rfl) (by exact rfl) (by exact rfl) (by exact rfl) (by exact rfl) rfl (by simp; omega) (by omega) ?_
        intro v3 nx3 F3 ob3 hA
        repeat (first | (refine OpsL.q (by exact oasg) ?_) | (refine Trip.ops ?_) | (refine OpsL.nil ?_; ((repeat (refine blockExit_normal ?_)); change Trip _ _ _ _ _)))
        repeat (first | (refine OpsL.q (by first | exact omv | exact oadd | exact oasg) ?_) | (refine OpsL.nil ?_; (dsimp only)))
        have z1 := (hx.trans x1).trans x2
        refine ⟨i + 1, ⟨_, nx3, F3, _, ob3, v3, rfl, ⟨by have := z1.1; have := hA.le; omega, fun j hj => ?_⟩, hA.own, fun b t e => ?_, by simp; omega, by simp [tmPut, *], by simp [tmPut, *], by simp [tmPut, *], by simp [tmPut, *], by simp [tmPut, *], by omega⟩, by omega⟩
        · rw [hA.same j (by have := z1.1; omega) (fun b t e => by have := hob b t e; omega), z1.2 j hj]
        · obtain ⟨q1, q2⟩ := hA.blk b t e
          have := hx.1
          rcases q2 with q2 | ⟨t', q2⟩
          · omega
          · have := hob _ _ q2; omega
      · repeat (first | (refine OpsL.q (by first | exact omv | exact oadd | exact oasg) ?_) | (refine Trip.ops ?_) | (refine Trip.skip ?_; ((repeat (refine blockExit_normal ?_)); change Trip _ _ _ _ _)) | (refine OpsL.nil ?_; (dsimp only)))
        exact ⟨i + 1, ⟨_, nx1 + 1, F1, w, ob, v, rfl, hx.trans x1, hown, fun b t e => by have := hob b t e; omega, by omega, by simp [tmPut, *], by simp [tmPut, *], by simp [tmPut, *], by simp [tmPut, *], by simp [tmPut, *], by omega⟩, by omega⟩
    · refine OpsL.lssF ?_
      repeat (first | (refine OpsL.q (by exact opkT) ?_) | (refine OpsL.nil ?_; (change Trip _ _ _ _ _)))
      refine Trip.ifF ?_
      repeat (first | (refine OpsL.q (by first | exact omv | exact oasg) ?_) | (refine Trip.seq ?_) | (refine Trip.ops ?_) | (refine Trip.exit ?_; ((repeat (refine blockExit_eq ?_)); change Trip _ _ _ _ _)) | (refine Trip.ret ?_; (dsimp only)) | (refine OpsL.nil ?_; (change Trip _ _ _ _ _)))
      exact ⟨.inr rfl, _, res_tmp, by simpa [tmPut, t7] using hexit⟩
  · refine OpsL.lssF ?_
    repeat (first | (refine OpsL.q (by first | exact omv | exact opkF) ?_) | (refine OpsL.nil ?_; (change Trip _ _ _ _ _)) | (refine OpsL.skp ?_))
    refine Trip.ifF ?_
    repeat (first | (refine OpsL.q (by first | exact omv | exact oasg) ?_) | (refine Trip.seq ?_) | (refine Trip.ops ?_) | (refine Trip.exit ?_; ((repeat (refine blockExit_eq ?_)); change Trip _ _ _ _ _)) | (refine Trip.ret ?_; (dsimp only)) | (refine OpsL.nil ?_; (change Trip _ _ _ _ _)))
    exact ⟨.inr rfl, _, res_tmp, by simpa [tmPut, t7] using hexit⟩
end Go.Proofs.Ytdadkkmpnecpbaa
