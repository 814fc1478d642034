import Derived.Test.YtjgbcpagfghfnaaQWM44
import Derived.Test.YtjgbcpagfghfnaaQWM16
set_option linter.unusedVariables false
set_option linter.unusedSimpArgs false
namespace Go.Proofs.Ytjgbcpagfghfnaa
open Go.Am Go.RowKit
theorem step_len {m : Mo} {s t : Int × List Int} {x : Int × Int} (h : stepF m s x = some t) : t.2.length ≤ s.2.length + 1 := by
  unfold stepF at h
  split at h
  · split at h
    · cases h; simp
    · cases h
  · split at h
    · split at h
      · split at h
        · cases h; simp
        · cases h; simp; omega
      · cases h
    · split at h
      · split at h
        · cases h; simp
        · cases h
      · cases h
attribute [local irreducible] aop OpsL Trip blockExit OpsD OpsK OpsR OpsQ
theorem entersFTakes : Am.Enters Try.prog 17 := ⟨Try.f17, Try.func17, by kernel_rfl, by kernel_rfl⟩
set_option maxRecDepth 20000 in
set_option maxHeartbeats 16000000 in
theorem fTakesC (W0 : World) {nx : Nat} {H : Heap} {m : Mo} {V : MoV} {wv : Value} {w : List (Int × Int)} (hm : MoIn H m V) (hn : MoLen m) (hmod : ModOk m) (hw : RowsAt encPr 2 H wv w) (hwl : w.length ≤ 50000) :
    ACalls Try.prog W0 17 [.agg (moV m V).toArray, wv] nx H fun v nx' H' => v = .bool (takesF m w) ∧ Ext nx H nx' H' := by
  obtain ⟨vo, ve, vf, vi, vl, vr⟩ := V
  obtain ⟨oa, oc, ho⟩ := hm.of.slice
  obtain ⟨ea, ec, he⟩ := hm.entry.slice
  obtain ⟨fa, fc, hf⟩ := hm.final.slice
  obtain ⟨ia, ic, hi⟩ := hm.inn.slice
  obtain ⟨la, lc, hl⟩ := hm.low.slice
  obtain ⟨ra, rc, hr⟩ := hm.ret.slice
  simp only at ho he hf hi hl hr
  subst ho he hf hi hl hr
  refine ACalls.by_trip (fn := Try.f17) (c := _) Try.func17 rfl (fun tm n hn0 htm => ?_)
  have e0 : tm 0 = .agg (moV m ⟨.slice oa m.of.length oc, .slice ea m.entry.length ec, .slice fa m.final.length fc, .slice ia m.inn.length ic, .slice la m.low.length lc, .slice ra m.ret.length rc⟩).toArray := htm 0
  have e1 : tm 1 = wv := htm 1
  clear htm
  replace hn0 : n = 33 := hn0
  refine Trip.ok fun hok => ?_
  replace hok : ∀ id o, H id = some o → id < nx := hok
  refine Trip.seq ?_
  refine Trip.ops ?_
  refine OpsL.boxM hm hok ?_ (by (first | (simp only [ASt.ev, tmPut, ↓reduceIte, Nat.reduceEqDiff, *]; done))) (by subst_vars; decide)
  intro G x0 okG hb hG
  clear e0
  have hwG := hw.ext x0 hok
  obtain ⟨wa, wc, rfl⟩ := hwG.slice
  have hk := hmod.k.1
  have hrun : takesF m w = match runM m w (m.entry.getD 0 0, []) with | none => false | some s => m.final.getD s.1.toNat false := by
    unfold takesF; rw [modF_iff.2 hmod]; rfl
  repeat (first | (refine OpsL.q (by exact oasg) ?_) | (refine Trip.seq ?_) | (refine Trip.ops ?_) | (refine OpsL.nil ?_; (change Trip _ _ _ _ _)))
  refine OpsL.loadM hb ?_ (by (first | (simp only [ASt.ev, tmPut, ↓reduceIte, Nat.reduceEqDiff, *]; done))) (by subst_vars; decide)
  refine OpsL.c1 (hf := entersIsMod) (hc := (isModC W0 hG hn)) (h := ?_)
  rintro v1 nx1 H1 ⟨rfl, y1⟩
  rw [modF_iff.2 hmod]
  repeat (first | (refine OpsL.q (by exact onot) ?_) | (refine OpsL.nil ?_; (change Trip _ _ _ _ _)))
  refine Trip.ifF ?_
  repeat (first | (refine Trip.seq ?_) | (refine Trip.skip ?_; (change Trip _ _ _ _ _)))
  have y1G : OldC ⟨nx + 1, fun _ => .old, G⟩ ⟨nx1, fun i => if i < nx + 1 then .old else .tmp, H1⟩ := ⟨y1.1, fun i hi => ⟨if_pos hi, y1.2 i hi⟩⟩
  obtain ⟨σ, hσ1, hσ2, hoσ⟩ : ∃ σ : CH, σ.nx = nx1 ∧ σ.H = H1 ∧ OldC ⟨nx + 1, fun _ => .old, G⟩ σ := ⟨_, rfl, rfl, y1G⟩
  subst hσ1 hσ2
  clear y1G y1
  have hKK : ∀ {τ : CH}, OldC ⟨nx + 1, fun _ => .old, G⟩ τ → ∀ {l : List Nat}, ∀ k ∈ l, getc τ.H ⟨nx, 0, none⟩ 8 = some (moV m ⟨.slice oa m.of.length oc, .slice ea m.entry.length ec, .slice fa m.final.length fc, .slice ia m.inn.length ic, .slice la m.low.length lc, .slice ra m.ret.length rc⟩) ∧ cellAt τ.H ⟨nx, 3, none⟩ (.slice ea m.entry.length ec) := fun h _ _ _ => ⟨(hb.ext h.ext okG).all, (hb.ext h.ext okG).c3⟩
  have eh := hG.entry
  obtain ⟨qe, rfl, hce⟩ := IntsAt.atI eh (show (0 : Int) ≤ 0 by omega) (show (0 : Int) < m.entry.length by omega)
  simp only [Int.toNat_zero] at hce
  obtain ⟨E, hE⟩ : ∃ E, m.entry.getD 0 0 = E := ⟨_, rfl⟩
  have hgood := start_good hmod (R := fun _ => True) all_closed
  rw [hE] at hce hrun hgood
  refine Trip.mono (Q := fun e st => e = .normal ∧ ∃ tm' τ rb, st = ⟨tm', n, τ.H, τ.nx⟩ ∧ tm' 1 = .slice wa w.length wc ∧ tm' 2 = .pointer (some ⟨nx, 0, none⟩) ∧ tm' 5 = .pointer (some ⟨rb, 0, none⟩) ∧ RdS ⟨nx + 1, fun _ => .old, G⟩ τ rb m ⟨.slice oa m.of.length oc, .slice (some qe) m.entry.length ec, .slice fa m.final.length fc, .slice ia m.inn.length ic, .slice la m.low.length lc, .slice ra m.ret.length rc⟩ (E, [])) ?_ ?_
  · have h0 := hKK hoσ (l := [0]) 0 (by simp)
    replace hce : ∀ {τ : CH}, OldC ⟨nx + 1, fun _ => .old, G⟩ τ → cellAt τ.H ⟨qe.block, qe.off + 0 * 1, qe.spot⟩ (.int .i64 E) := fun h => cell_ext h.ext okG hce
    refine OpsQ.drawn [6, 7] (K := fun _ _ H => (getc H ⟨nx, 0, none⟩ 8 = some (moV m ⟨.slice oa m.of.length oc, .slice (some qe) m.entry.length ec, .slice fa m.final.length fc, .slice ia m.inn.length ic, .slice la m.low.length lc, .slice ra m.ret.length rc⟩) ∧ cellAt H ⟨nx, 3, none⟩ (.slice (some qe) m.entry.length ec)) ∧ cellAt H ⟨qe.block, qe.off + 0 * 1, qe.spot⟩ (.int .i64 E)) mixed13 (by kernel_rfl) (by kernel_rfl) [0, 1, 2, 3, 4, 5, 6, 7] (by kernel_rfl) (fun _ _ => ⟨h0, hce hoσ⟩) ?_
    refine OpsQ.sp 7 (v := .agg (moV m ⟨.slice oa m.of.length oc, .slice (some qe) m.entry.length ec, .slice fa m.final.length fc, .slice ia m.inn.length ic, .slice la m.low.length lc, .slice ra m.ret.length rc⟩).toArray) rfl (by kernel_rfl) (by subst_vars; decide) ⟨h0, hce hoσ⟩ (fun H2 nx2 hK => aop_loadAgg (k := 8) (by (first | (simp only [ASt.ev, tmPut, ↓reduceIte, Nat.reduceEqDiff, *]; done))) (by exact rfl) rfl (by exact rfl) hK.1.1) ?_
    refine OpsQ.one rfl rfl rfl (by kernel_rfl) ?_
    repeat (first | (refine OpsL.q (by exact ofa) ?_) | (refine OpsL.nil ?_; (dsimp only)))
    refine OpsQ.sp 7 (v := .slice (some qe) m.entry.length ec) rfl (by kernel_rfl) (by subst_vars; decide) ⟨h0, hce hoσ⟩ (fun H2 nx2 hK => aop_load (by (first | (simp only [ASt.ev, tmPut, ↓reduceIte, Nat.reduceEqDiff, *]; rfl))) (by exact rfl) rfl hK.1.2) ?_
    refine OpsQ.one rfl rfl rfl (by kernel_rfl) ?_
    repeat (first | (refine OpsL.q (by exact oixa) ?_) | (refine OpsL.nil ?_; (dsimp only)))
    refine OpsQ.sp 7 (v := .int .i64 E) rfl (by kernel_rfl) (by subst_vars; decide) ⟨h0, hce hoσ⟩ (fun H2 nx2 hK => aop_load (by (first | (simp only [ASt.ev, tmPut, ↓reduceIte, Nat.reduceEqDiff, *]; rfl))) (by exact rfl) rfl hK.2) ?_
    refine OpsQ.one rfl rfl rfl (by kernel_rfl) ?_
    refine OpsL.p (by subst_vars; decide) (aop_build (l := [(0, .agg (moV m ⟨.slice oa m.of.length oc, .slice (some qe) m.entry.length ec, .slice fa m.final.length fc, .slice ia m.inn.length ic, .slice la m.low.length lc, .slice ra m.ret.length rc⟩).toArray), (1, .int .i64 E)]) (v := .agg (moV m ⟨.slice oa m.of.length oc, .slice (some qe) m.entry.length ec, .slice fa m.final.length fc, .slice ia m.inn.length ic, .slice la m.low.length lc, .slice ra m.ret.length rc⟩ ++ [Value.int .i64 E, Value.slice none 0 0]).toArray) (by simp [evParts, ASt.ev, tmPut]) (by kernel_rfl)) ?_
    refine OpsL.nil ?_
    clear h0
    refine OpsQ.act (by kernel_rfl) (ActStep.walk rfl rfl ?_)
    refine OpsL.newC .self (aop_alloc (l := moV noMo nilV ++ [.int .i64 0, .slice none 0 0]) (by exact rfl)) (by subst_vars; decide) ?_
    intro σ2 hA x2
    obtain ⟨rb, hrb⟩ : ∃ k, σ.nx = k := ⟨_, rfl⟩
    rw [hrb] at hA ⊢
    have ho2 := hoσ.keep x2 (by simp)
    refine OpsL.nil ⟨fun k hk => ⟨hKK ho2 k hk, hce ho2⟩, ?_⟩
    refine OpsQ.act (by kernel_rfl) (ActStep.walk rfl rfl ?_)
    refine OpsL.setAllC (vs := moV m ⟨.slice oa m.of.length oc, .slice (some qe) m.entry.length ec, .slice fa m.final.length fc, .slice ia m.inn.length ic, .slice la m.low.length lc, .slice ra m.ret.length rc⟩ ++ [.int .i64 E, .slice none 0 0]) hA (by exact rfl) rfl rfl rfl (by (first | (simp only [ASt.ev, tmPut, ↓reduceIte, Nat.reduceEqDiff, *]; done))) (by (first | (simp only [ASt.ev, tmPut, ↓reduceIte, Nat.reduceEqDiff, *]; done))) ?_
    intro τ hA3 x3
    refine OpsL.nil ⟨fun k hk => absurd hk (by simp), ?_⟩
    refine OpsQ.nil ?_
    exact ⟨rfl, _, τ, rb, rfl, by simp [tmPut, *], by simp [tmPut, *], by simp [tmPut, *], ho2.keep x3 (by simp), _, hA3, OwnC.nil⟩
  clear hce hoσ hKK e1
  rintro e st ⟨rfl, tm, σ, rb, rfl, t1, t2, t5, h⟩
  (change Trip _ _ _ _ _)
  repeat (first | (refine OpsL.q (by first | exact omv | exact olen) ?_) | (refine Trip.seq ?_) | (refine Trip.ops ?_) | (refine Trip.block ?_) | (refine OpsL.nil ?_; (change Trip _ _ _ _ _)))
  refine Trip.inv (fun (i : Nat) s => ∃ tm σ q, s = ⟨tm, n, σ.H, σ.nx⟩ ∧ tm 2 = .pointer (some ⟨nx, 0, none⟩) ∧ tm 5 = .pointer (some ⟨rb, 0, none⟩) ∧ tm 17 = .slice wa w.length wc ∧ tm 18 = .int .i64 w.length ∧ tm 19 = .int .i64 i ∧ i ≤ w.length ∧ RdS ⟨nx + 1, fun _ => .old, G⟩ σ rb m ⟨.slice oa m.of.length oc, .slice (some qe) m.entry.length ec, .slice fa m.final.length fc, .slice ia m.inn.length ic, .slice la m.low.length lc, .slice ra m.ret.length rc⟩ q ∧ RGood m (fun _ => True) q ∧ q.2.length ≤ i ∧ runM m w (E, []) = runM m (w.drop i) q) (fun i => w.length - i) 0 ?_ ?_
  · exact ⟨_, σ, (E, []), rfl, by simp [tmPut, *], by simp [tmPut, *], by simp [tmPut, *], by simp [tmPut, *], by simp [tmPut, *], by omega, h, hgood, by simp, rfl⟩
  clear h t1 t2 t5 hgood
  rintro i s ⟨tm, σ, q, rfl, t2, t5, t17, t18, t19, hi, h, hg, hql, hrn⟩
  repeat (first | (refine OpsL.q (by exact olss) ?_) | (refine Trip.seq ?_) | (refine Trip.ops ?_) | (refine Trip.block ?_) | (refine Trip.itA (fun _ => ?_) (fun _ => ?_)) | (refine Trip.skip ?_; (change Trip _ _ _ _ _)) | (refine OpsL.nil ?_; (change Trip _ _ _ _ _)))
  · have hlt : i < w.length := by omega
    have hdr : w.drop i = w[i] :: w.drop (i + 1) := List.drop_eq_getElem_cons hlt
    rw [hdr] at hrn
    rcases hwG with ⟨c0, hc0, hc1⟩ | ⟨p, c0, hc0, hc1⟩
    · rw [hc1] at hlt; simp at hlt
    cases hc0
    have hcell := hc1 i hlt
    obtain ⟨x, hx⟩ : ∃ x, w[i] = x := ⟨_, rfl⟩
    rw [hx] at hrn hcell
    replace hcell := getc_ext h.old.ext okG hcell
    have hst : runM m (x :: w.drop (i + 1)) q = match stepF m q x with | none => none | some t => runM m (w.drop (i + 1)) t := rfl
    rw [hst] at hrn
    clear hst hdr hx
    repeat (first | (refine OpsL.q (by exact oixa) ?_))
    refine OpsL.p (by subst_vars; decide) (aop_loadAgg (k := 2) (vs := encPr x) (by (first | (simp only [ASt.ev, tmPut, ↓reduceIte, Nat.reduceEqDiff, *]; rfl))) (by exact rfl) rfl (by exact rfl) hcell) ?_
    refine OpsL.newC .tmp (aop_alloc (l := encPr (0, 0)) (by exact rfl)) (by subst_vars; decide) ?_
    intro σ2 hB x2
    obtain ⟨B, hBn⟩ : ∃ B, σ.nx = B := ⟨_, rfl⟩
    rw [hBn] at hB ⊢
    replace h := h.keep x2 (by simp) (by simp) (by simp)
    refine OpsL.setAllC (vs := encPr x) hB (by exact rfl) rfl rfl rfl (by (first | (simp only [ASt.ev, tmPut, ↓reduceIte, Nat.reduceEqDiff, *]; done))) (by (first | (simp only [ASt.ev, tmPut, ↓reduceIte, Nat.reduceEqDiff, *]; done))) ?_
    intro σ3 hB3 x3
    replace h := h.keep x3 (by simp) (by simp) (by simp)
    have hall : getc σ3.H ⟨B, 0, none⟩ 2 = some (encPr x) := getc_all hB3.2.2 rfl
    clear hcell hB hB3 hBn x2 x3
    refine OpsL.nil ?_
    (change Trip _ _ _ _ _)
    repeat (first | (refine Trip.seq ?_) | (refine Trip.ops ?_))
    refine OpsL.p (by subst_vars; decide) (aop_loadAgg (k := 2) (by (first | (simp only [ASt.ev, tmPut, ↓reduceIte, Nat.reduceEqDiff, *]; done))) (by exact rfl) rfl (by exact rfl) hall) ?_
    refine OpsL.c2 (hf := entersStep13) (hc := (stepC W0 h hG okG hmod hg (by omega)).ok) (h := ?_)
    rintro v nx2 H2 ⟨hv, okv⟩
    rcases hv with ⟨hnone, rfl, τ, rfl, rfl, hoN⟩ | ⟨t, hsome, rfl, τ, rfl, rfl, h⟩
    · rw [hnone] at hrn
      repeat (first | (refine OpsL.q (by exact onot) ?_) | (refine OpsL.nil ?_; (change Trip _ _ _ _ _)))
      refine Trip.ifT ?_
      repeat (first | (refine OpsL.q (by exact oasg) ?_) | (refine Trip.seq ?_) | (refine Trip.ops ?_) | (refine Trip.ret ?_; ((repeat (refine blockExit_ret ?_)); dsimp only)) | (refine OpsL.nil ?_; (change Trip _ _ _ _ _)))
      have hres : takesF m w = false := by rw [hrun, hrn]
      exact ⟨.inr rfl, _, res_tmp, by rw [hres]; simp [tmPut], x0.trans hoN.ext⟩
    · rw [hsome] at hrn
      have hg2 := step_good hmod all_closed hg hsome
      have hlen : t.2.length ≤ q.2.length + 1 := step_len hsome
      repeat (first | (refine OpsL.q (by exact onot) ?_) | (refine OpsL.nil ?_; (change Trip _ _ _ _ _)))
      refine Trip.ifF ?_
      repeat (first | (refine OpsL.q (by first | exact omv | exact oadd) ?_) | (refine Trip.ops ?_) | (refine Trip.skip ?_; ((repeat (refine blockExit_normal ?_)); change Trip _ _ _ _ _)) | (refine OpsL.nil ?_; (dsimp only)))
      exact ⟨i + 1, ⟨_, τ, t, rfl, by simp [tmPut, *], by simp [tmPut, *], by simp [tmPut, *], by simp [tmPut, *], by simp [tmPut, *], by omega, h, hg2, by omega, hrn⟩, by omega⟩
  · have hi2 : i = w.length := by omega
    subst hi2
    rw [List.drop_length] at hrn
    have hres : takesF m w = m.final.getD q.1.toNat false := by rw [hrun, hrn]; rfl
    obtain ⟨⟨a0, a1⟩, -, -⟩ := hg.at
    obtain ⟨P, hP⟩ : ∃ P : Nat, q.1 = (P : Int) := ⟨q.1.toNat, by omega⟩
    rw [hP, Int.toNat_natCast] at hres
    obtain ⟨ho, lv, hrd, -⟩ := h
    rw [hP] at hrd a1
    have g8 : cellAt σ.H ⟨rb, 8, none⟩ (.int .i64 P) := hrd.cell rfl
    have g4 := (hb.ext ho.ext okG).c4
    have fl := Nat.le_of_eq hmod.fl.symm
    obtain ⟨qf, rfl, hcf⟩ := BoolsAt.atI hG.final (show (0 : Int) ≤ P by omega) (show (P : Int) < m.final.length by omega)
    rw [Int.toNat_natCast] at hcf
    replace hcf := cell_ext ho.ext okG hcf
    repeat (first | (refine OpsL.q (by first | exact ofa | exact old | exact oixa | exact oasg) ?_) | (refine Trip.seq ?_) | (refine Trip.ops ?_) | (refine Trip.exit ?_; ((repeat (refine blockExit_eq ?_)); change Trip _ _ _ _ _)) | (refine Trip.ret ?_; (dsimp only)) | (refine OpsL.nil ?_; (change Trip _ _ _ _ _)))
    exact ⟨.inr rfl, _, res_tmp, by rw [hres]; simp [tmPut], x0.trans ho.ext⟩
end Go.Proofs.Ytjgbcpagfghfnaa
namespace Go.Proofs.Ytjgbcpagfghfnaa
open Go.Am Go.RowKit
attribute [local irreducible] aop OpsL Trip blockExit OpsD OpsK OpsR OpsQ
end Go.Proofs.Ytjgbcpagfghfnaa
