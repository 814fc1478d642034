/-
 The law AutoReached of chapter 3 holds for all numbers: what is left of a machine has no state that no rule leads to, no mark that is not pushed.
 Conditions: none beyond the row's own.
-/
import Derived.Test.YtjohiaoepbnicaaGreatQRM16
namespace Go.Am
set_option linter.unusedSimpArgs false
set_option linter.unusedVariables false
open Go.RowKit
theorem wf64 {a : Int} (h : (Lit.int .i64 a).wf = true) : -9223372036854775808 ≤ a ∧ a ≤ 9223372036854775807 := by
 have h' : (decide (IntKind.i64.min ≤ a) && decide (a ≤ IntKind.i64.max)) = true := h
 rw [Bool.and_eq_true, decide_eq_true_eq, decide_eq_true_eq] at h'
 exact h'
theorem ex_takeI {α : Type} {P : α → Prop} {l : List α} {i : Nat} (h : i < l.length) : (∃ x ∈ l.take (i + 1), P x) ↔ (∃ x ∈ l.take i, P x) ∨ P l[i] := by
 rw [List.take_succ_eq_append_getElem h]
 simp only [List.mem_append, List.mem_singleton]
 constructor
 ·rintro ⟨x, hx | rfl, hp⟩
  ·exact .inl ⟨x, hx, hp⟩
  ·exact .inr hp
 ·rintro (⟨x, hx, hp⟩ | hp)
  ·exact ⟨x, .inl hx, hp⟩
  ·exact ⟨_, .inr rfl, hp⟩
end Go.Am
namespace Go.Proofs.YtjohiaoepbnicaaGreat.autoReached
set_option linter.unusedSimpArgs false
set_option linter.unusedVariables false
open Go.Am Go.RowKit Go.ChangeShapes Go.WideShapes Go.ChangeAt
attribute [local irreducible] aop OpsL Trip blockExit OpsD OpsK OpsR
theorem entersKnown : Am.Enters Tryz.prog 7 := ⟨Tryz.f7, Tryz.func7, by kernel_rfl, by kernel_rfl⟩
abbrev BB (H : Heap) (b n : Nat) (S : Nat → Prop) : Prop := BRow H 4 b n S
set_option maxRecDepth 20000 in
set_option maxHeartbeats 32000000 in
theorem law (W0 : World) {nx : Nat} {H : Heap} {m size : Int} {nv : Value} {ns : List Int} (hn : IntsAt H nv ns) (hs : -9223372036854775808 ≤ size ∧ size ≤ 9223372036854775807) :
  ACalls Tryz.prog W0 5 [.int .i64 m, .int .i64 size, nv] nx H fun v _ _ => v = .bool true := by
 refine ACalls.by_trip (fn := Tryz.f5) (c := _) Tryz.func5 rfl (fun tm n hn0 htm => ?_)
 have e0 : tm 0 = .int .i64 m := htm 0
 have e1 : tm 1 = .int .i64 size := htm 1
 have e2 : tm 2 = nv := htm 2
 clear htm
 replace hn0 : n = 128 := hn0
 refine Trip.ok fun hok => ?_
 replace hok : ∀ id o, H id = some o → id < nx := hok
 repeat (first | refine OpsL.q (by exact oasg) ?_ | refine Trip.seq ?_ | refine Trip.ops ?_ | (refine OpsL.nil ?_; (change Trip _ _ _ _ _)))
 refine OpsL.c0 (hf := entersKnown) (hc := ((known_told W0 Tabs.nil).2 nx H)) (h := ?_)
 rintro v0 nx0 H0 ⟨rfl, rfl, rfl⟩
 dsimp only
 repeat (first | refine OpsL.q (by exact onot) ?_ | (refine OpsL.nil ?_; (change Trip _ _ _ _ _)))
 refine Trip.ifF ?_
 repeat (first | refine OpsL.q (by exact omv) ?_ | refine Trip.seq ?_ | refine Trip.ops ?_ | (refine Trip.skip ?_; (change Trip _ _ _ _ _)))
 refine OpsL.c2 (hf := entersSyms) (hc := (symsC W0 hn).ok) (h := ?_)
 rintro lv nx1 H1 ⟨⟨hl, x1⟩, k1⟩
 obtain ⟨hg1, hg2, -⟩ := symsF_good m ns
 have hss : (symsF m ns).length ≤ 1000 := by omega
 generalize symsF m ns = ss at *
 repeat (first | (refine OpsL.q (by first | exact omv | exact oasg) ?_) | refine Trip.seq ?_ | refine Trip.ops ?_ | (refine OpsL.nil ?_; (change Trip _ _ _ _ _)))
 refine OpsL.c4 (hf := entersMake) (hc := (makeC W0 hl hss (hn.ext x1 hok) (show (1 : Int) ≤ 6 by omega) (by omega) hs.1 hs.2).ok) (h := ?_)
 rintro u nx2 H2 ⟨⟨A0, l, vi, vf, vo, vc, vn, rfl, hmk, x2⟩, k2⟩
 have hgood := GoodM.make ss (size := size) (show (1 : Int) ≤ 6 by omega) ns
 have hini := make_init (ss := ss) (size := size) (most := 6) (ns := ns)
 generalize makeM ss size 6 ns = a at *
 refine OpsL.c2 (hf := entersTrim) (hc := (trimCall W0 hmk.in (hgood.lens (by omega)) (.inl ⟨hini, good_mu hgood (by omega)⟩)).ok) (h := ?_)
 rintro u m1 H3 ⟨⟨L0, L1, l3, wi, wf, wo, wc, wn, hN0, hN1, rfl, hT, x3⟩, k3⟩
 have hchk := trim_check hgood hN0 hN1 (by omega) (by omega)
 have hre := fun p hp => trim_reached (p := p) hgood hN0 hN1 hp
 have hpu := fun p hp => trim_pushed (p := p) hgood hN0 hN1 hp
 have hlenT := good_lenT L0 L1 hgood (by omega)
 obtain ⟨hG1, hG2⟩ := trim_G hgood hN1
 have hNle := trim_N hgood hN0
 have hgN := hgood.N1
 have hgG := hgood.G1
 have hTI := hT.in
 clear hT hmk
 obtain ⟨n0, hn00⟩ : ∃ n0, n0 = L0.length := ⟨_, rfl⟩
 obtain ⟨n1, hn11⟩ : ∃ n1, n1 = L1.length := ⟨_, rfl⟩
 have hTN : (normA (trimB a L0 L1)).N = (n0 : Int) := by rw [hn00]; rfl
 have hTG : (normA (trimB a L0 L1)).G = (n1 : Int) - 1 := by rw [hn11]; rfl
 rw [← hn00] at hre hNle
 rw [← hn11] at hpu hG1 hG2
 generalize normA (trimB a L0 L1) = T at *
 clear hN0 hN1 hn00 hn11
 obtain ⟨cS, cI⟩ : (∀ x ∈ T.init, 0 ≤ x ∧ x < (n0 : Int)) ∧ (∀ r ∈ T.opens, (0 ≤ r.2.2.1 ∧ r.2.2.1 < (n0 : Int)) ∧ 1 ≤ r.2.2.2 ∧ r.2.2.2 < (n1 : Int)) ∧ (∀ r ∈ T.closes, 0 ≤ r.2.2.2 ∧ r.2.2.2 < (n0 : Int)) ∧ ∀ r ∈ T.inners, 0 ≤ r.2.2 ∧ r.2.2 < (n0 : Int) := by
  unfold checkF at hchk
  simp only [Bool.and_eq_true] at hchk
  obtain ⟨⟨⟨⟨⟨-, k1⟩, -⟩, k3⟩, k4⟩, k5⟩ := hchk
  rw [hTN] at k1
  refine ⟨fun x hx => st_of (List.all_eq_true.1 k1 x hx), fun r hr => ?_, fun r hr => ?_, fun r hr => ?_⟩
  ·have := List.all_eq_true.1 k3 r hr
   simp only [okO, Bool.and_eq_true, hTN, hTG] at this
   have h2 := bt_of this.2
   exact ⟨st_of this.1.2, h2.1, by omega⟩
  ·have := List.all_eq_true.1 k4 r hr
   simp only [okC, Bool.and_eq_true, hTN, hTG] at this
   exact st_of this.1.2
  ·have := List.all_eq_true.1 k5 r hr
   simp only [okI, Bool.and_eq_true, hTN, hTG] at this
   exact st_of this.2
 obtain ⟨cO, cC, cN⟩ := cI
 obtain ⟨ia, ic, rfl⟩ := hTI.init.slice
 obtain ⟨fa, fc, rfl⟩ := hTI.final.slice
 obtain ⟨oa, oc, rfl⟩ := hTI.opens.slice
 obtain ⟨ca, cc, rfl⟩ := hTI.closes.slice
 obtain ⟨na, nc, rfl⟩ := hTI.inners.slice
 dsimp only
 refine OpsL.new (by subst_vars; decide) (aop_alloc (l := zeroA) (by kernel_rfl)) ?_
 refine OpsL.upd (aop_store (k := 7) (u := .agg (autV T (.slice ia T.init.length ic) (.slice fa T.final.length fc) (.slice oa T.opens.length oc) (.slice ca T.closes.length cc) (.slice na T.inners.length nc)).toArray) (by simp only [ASt.ev, tmPut, ↓reduceIte, Nat.reduceEqDiff, *]; done) (by simp only [ASt.ev, tmPut, ↓reduceIte, Nat.reduceEqDiff, *]; done) (by exact rfl) rfl (o := .cells (autV T (.slice ia T.init.length ic) (.slice fa T.final.length fc) (.slice oa T.opens.length oc) (.slice ca T.closes.length cc) (.slice na T.inners.length nc)) 0 none false (some 30)) (setc_allN (vs := (autV T (.slice ia T.init.length ic) (.slice fa T.final.length fc) (.slice oa T.opens.length oc) (.slice ca T.closes.length cc) (.slice na T.inners.length nc))) Heap.put_eq rfl rfl)) ?_
 obtain ⟨G4, hG4⟩ : ∃ G0, G0 = (H3.put m1 (.cells zeroA 0 none false (some 30))).put m1 (.cells (autV T (.slice ia T.init.length ic) (.slice fa T.final.length fc) (.slice oa T.opens.length oc) (.slice ca T.closes.length cc) (.slice na T.inners.length nc)) 0 none false (some 30)) := ⟨_, rfl⟩
 have xG4 : Ext m1 H3 (m1 + 1) G4 := ⟨Nat.le_succ _, fun j hj => by rw [hG4, Heap.put_ne (by omega), Heap.put_ne (by omega)]⟩
 have kG4 : ∀ id o, G4 id = some o → id < m1 + 1 := by rw [hG4]; exact ok_put3 (ok_new k3) Heap.put_eq
 have bG4 : G4 m1 = some (.cells (autV T (.slice ia T.init.length ic) (.slice fa T.final.length fc) (.slice oa T.opens.length oc) (.slice ca T.closes.length cc) (.slice na T.inners.length nc)) 0 none false (some 30)) := by rw [hG4, Heap.put_eq]
 rw [← hG4]
 clear hG4
 have hT4 := hTI.ext xG4 k3
 repeat (first | refine OpsL.q (by exact omv) ?_ | refine Trip.seq ?_ | refine Trip.ops ?_ | (refine OpsL.nil ?_; (change Trip _ _ _ _ _)))
 refine OpsL.q (aop_loadAgg (k := 7) (vs := (autV T (.slice ia T.init.length ic) (.slice fa T.final.length fc) (.slice oa T.opens.length oc) (.slice ca T.closes.length cc) (.slice na T.inners.length nc))) (by simp only [ASt.ev, tmPut, ↓reduceIte, Nat.reduceEqDiff, *]; done) (by exact rfl) rfl (by exact rfl) (getc_all bG4 rfl)) ?_
 refine OpsL.c2 (hf := entersCheckR) (hc := (checkRC W0 (hl.ext ((x2.trans x3).trans xG4) k1) hss hT4 hlenT).ok) (h := ?_)
 rintro v5 m5 H5 ⟨⟨rfl, x5⟩, k5⟩
 rw [hchk]
 have hT5 := hT4.ext x5 kG4
 have b5 := (x5.2 m1 (by omega)).trans bG4
 have hle5 := x5.1
 clear hT4 bG4 hTI hchk hl x1 x2 x3 xG4 kG4 hn
 dsimp only
 repeat fail
 refine OpsL.neqF ?_ (c := rfl)
 repeat (refine OpsL.nil ?_; (change Trip _ _ _ _ _))
 refine Trip.ifF ?_
 have q2 := hlenT.init
 have q4 := hlenT.opens
 have q5 := hlenT.closes
 have q6 := hlenT.inners
 repeat (first | refine Trip.seq ?_ | (refine Trip.skip ?_; (change Trip _ _ _ _ _)))
 refine Trip.mono (Q := fun e st => e = .normal ∧ ∃ (tm' : Nat → Value) (b1 b2 m6 : Nat) (J : Heap), st = ⟨tm', n, J, m6⟩ ∧ Ext m5 H5 m6 J ∧ (∀ id o, J id = some o → id < m6) ∧ m5 ≤ b1 ∧ b1 < m6 ∧ m5 ≤ b2 ∧ b2 < m6 ∧ b1 ≠ b2 ∧ BB J b1 n0 (fun _ => False) ∧ BB J b2 n1 (fun _ => False) ∧ tm' 8 = .pointer (some ⟨m1, 0, none⟩) ∧ tm' 9 = .slice (some ⟨b1, 0, none⟩) n0 n0 ∧ tm' 10 = .slice (some ⟨b2, 0, none⟩) n1 n1) ?_ ?_
 ·refine OpsR.drawn [2, 6, 7, 8] (K := fun nx1 H1 => Ext m5 H5 nx1 H1) mixed3 (by kernel_rfl) (by kernel_rfl) [0, 1, 3, 4, 5, 2, 6, 7, 8] (by kernel_rfl) Ext.refl ?_
  refine OpsR.one rfl rfl rfl (by kernel_rfl) ?_
  repeat (first | refine OpsL.q (by exact ofa) ?_ | (refine OpsL.nil ?_; (dsimp only)))
  refine OpsR.sp (v := .int .i64 (n0 : Int)) rfl (by kernel_rfl) (by subst_vars; decide) Ext.refl (fun HH nn hK => aop_load (by simp only [ASt.ev, tmPut, ↓reduceIte, Nat.reduceEqDiff, *]; rfl) (by exact rfl) rfl (by rw [Nat.zero_add, ← hTN]; exact cell_of ((hK.2 m1 (by omega)).trans b5) rfl)) ?_
  refine OpsR.one rfl rfl rfl (by kernel_rfl) ?_
  repeat (first | refine OpsL.q (by exact ofa) ?_ | (refine OpsL.nil ?_; (dsimp only)))
  refine OpsR.sp (v := .int .i64 ((n1 : Int) - 1)) rfl (by kernel_rfl) (by subst_vars; decide) Ext.refl (fun HH nn hK => aop_load (by simp only [ASt.ev, tmPut, ↓reduceIte, Nat.reduceEqDiff, *]; rfl) (by exact rfl) rfl (by rw [Nat.zero_add, ← hTG]; exact cell_of ((hK.2 m1 (by omega)).trans b5) rfl)) ?_
  refine OpsR.one rfl rfl rfl (by kernel_rfl) ?_
  refine OpsL.q (v := .int .i64 (n1 : Int)) (by rw [show (.int .i64 (n1 : Int) : Value) = .int .i64 ((n1 : Int) - 1 + 1) by rw [Int.sub_add_cancel]]; exact oadd) ?_
  refine OpsL.nil ?_
  refine OpsR.act2 (by kernel_rfl) ?_ ?_
  ·refine ActStep.walk rfl rfl ?_
   refine OpsL.new (v := .slice (some ⟨m5, 0, none⟩) n0 n0) (o := .cells (rep n0 [.bool false]) 1 none false (some 4)) (by subst_vars; decide) (aop_makeSlice (by simp only [ASt.ev, tmPut, ↓reduceIte, Nat.reduceEqDiff, *]; done) (by simp only [ASt.ev, tmPut, ↓reduceIte, Nat.reduceEqDiff, *]; done) (aMakeSlice_bools (el := 4) (by exact rfl) (by exact rfl) (by exact rfl) (by exact rfl) (by omega))) ?_
   obtain ⟨Ja, hJa⟩ : ∃ Q, Q = H5.put m5 (.cells (rep n0 [.bool false]) 1 none false (some 4)) := ⟨_, rfl⟩
   have xJa : Ext m5 H5 (m5 + 1) Ja := by rw [hJa]; exact Ext.newPut
   have kJa : ∀ id o, Ja id = some o → id < m5 + 1 := by rw [hJa]; exact ok_new k5
   have rJa : BB Ja m5 n0 (fun _ => False) := by rw [hJa]; exact BRow.new
   have EJa : Ext m5 H5 (m5 + 1) Ja := (Ext.refl : Ext m5 H5 m5 H5).trans xJa
   rw [← hJa]
   clear hJa
   refine OpsL.nil ⟨EJa, ?_⟩
   refine OpsR.act2 (by kernel_rfl) ?_ ?_
   ·refine ActStep.walk rfl rfl ?_
    refine OpsL.new (v := .slice (some ⟨(m5 + 1), 0, none⟩) n1 n1) (o := .cells (rep n1 [.bool false]) 1 none false (some 4)) (by subst_vars; decide) (aop_makeSlice (by simp only [ASt.ev, tmPut, ↓reduceIte, Nat.reduceEqDiff, *]; done) (by simp only [ASt.ev, tmPut, ↓reduceIte, Nat.reduceEqDiff, *]; done) (aMakeSlice_bools (el := 4) (by exact rfl) (by exact rfl) (by exact rfl) (by exact rfl) (by omega))) ?_
    obtain ⟨Jb, hJb⟩ : ∃ Q, Q = Ja.put (m5 + 1) (.cells (rep n1 [.bool false]) 1 none false (some 4)) := ⟨_, rfl⟩
    have xJb : Ext (m5 + 1) Ja ((m5 + 1) + 1) Jb := by rw [hJb]; exact Ext.newPut
    have kJb : ∀ id o, Jb id = some o → id < (m5 + 1) + 1 := by rw [hJb]; exact ok_new kJa
    have rJb : BB Jb (m5 + 1) n1 (fun _ => False) := by rw [hJb]; exact BRow.new
    have EJb : Ext m5 H5 ((m5 + 1) + 1) Jb := EJa.trans xJb
    rw [← hJb]
    clear hJb
    have raJb := rJa.same (xJb.2 m5 (by omega))
    refine OpsL.nil ⟨EJb, ?_⟩
    refine OpsR.act (by kernel_rfl) (ActStep.walk rfl rfl ?_)
    refine OpsL.q oasg ?_
    refine OpsL.nil ⟨EJb, ?_⟩
    refine OpsR.act (by kernel_rfl) (ActStep.walk rfl rfl ?_)
    refine OpsL.q oasg ?_
    refine OpsL.nil ⟨EJb, ?_⟩
    refine OpsR.nil ?_
    exact ⟨rfl, _, m5, (m5 + 1), _, _, rfl, EJb, kJb, by omega, by omega, by omega, by omega, by omega, raJb, rJb, by simp [tmPut, *], by simp [tmPut, *], by simp [tmPut, *]⟩
   ·refine ActStep.walk rfl rfl ?_
    refine OpsL.q oasg ?_
    refine OpsL.nil ⟨EJa, ?_⟩
    refine OpsR.act (by kernel_rfl) (ActStep.walk rfl rfl ?_)
    refine OpsL.new (v := .slice (some ⟨(m5 + 1), 0, none⟩) n1 n1) (o := .cells (rep n1 [.bool false]) 1 none false (some 4)) (by subst_vars; decide) (aop_makeSlice (by simp only [ASt.ev, tmPut, ↓reduceIte, Nat.reduceEqDiff, *]; done) (by simp only [ASt.ev, tmPut, ↓reduceIte, Nat.reduceEqDiff, *]; done) (aMakeSlice_bools (el := 4) (by exact rfl) (by exact rfl) (by exact rfl) (by exact rfl) (by omega))) ?_
    obtain ⟨Jb, hJb⟩ : ∃ Q, Q = Ja.put (m5 + 1) (.cells (rep n1 [.bool false]) 1 none false (some 4)) := ⟨_, rfl⟩
    have xJb : Ext (m5 + 1) Ja ((m5 + 1) + 1) Jb := by rw [hJb]; exact Ext.newPut
    have kJb : ∀ id o, Jb id = some o → id < (m5 + 1) + 1 := by rw [hJb]; exact ok_new kJa
    have rJb : BB Jb (m5 + 1) n1 (fun _ => False) := by rw [hJb]; exact BRow.new
    have EJb : Ext m5 H5 ((m5 + 1) + 1) Jb := EJa.trans xJb
    rw [← hJb]
    clear hJb
    have raJb := rJa.same (xJb.2 m5 (by omega))
    refine OpsL.nil ⟨EJb, ?_⟩
    refine OpsR.act (by kernel_rfl) (ActStep.walk rfl rfl ?_)
    refine OpsL.q oasg ?_
    refine OpsL.nil ⟨EJb, ?_⟩
    refine OpsR.nil ?_
    exact ⟨rfl, _, m5, (m5 + 1), _, _, rfl, EJb, kJb, by omega, by omega, by omega, by omega, by omega, raJb, rJb, by simp [tmPut, *], by simp [tmPut, *], by simp [tmPut, *]⟩
  ·refine ActStep.walk rfl rfl ?_
   refine OpsL.new (v := .slice (some ⟨m5, 0, none⟩) n1 n1) (o := .cells (rep n1 [.bool false]) 1 none false (some 4)) (by subst_vars; decide) (aop_makeSlice (by simp only [ASt.ev, tmPut, ↓reduceIte, Nat.reduceEqDiff, *]; done) (by simp only [ASt.ev, tmPut, ↓reduceIte, Nat.reduceEqDiff, *]; done) (aMakeSlice_bools (el := 4) (by exact rfl) (by exact rfl) (by exact rfl) (by exact rfl) (by omega))) ?_
   obtain ⟨Jb, hJb⟩ : ∃ Q, Q = H5.put m5 (.cells (rep n1 [.bool false]) 1 none false (some 4)) := ⟨_, rfl⟩
   have xJb : Ext m5 H5 (m5 + 1) Jb := by rw [hJb]; exact Ext.newPut
   have kJb : ∀ id o, Jb id = some o → id < m5 + 1 := by rw [hJb]; exact ok_new k5
   have rJb : BB Jb m5 n1 (fun _ => False) := by rw [hJb]; exact BRow.new
   have EJb : Ext m5 H5 (m5 + 1) Jb := (Ext.refl : Ext m5 H5 m5 H5).trans xJb
   rw [← hJb]
   clear hJb
   refine OpsL.nil ⟨EJb, ?_⟩
   refine OpsR.act (by kernel_rfl) (ActStep.walk rfl rfl ?_)
   refine OpsL.new (v := .slice (some ⟨(m5 + 1), 0, none⟩) n0 n0) (o := .cells (rep n0 [.bool false]) 1 none false (some 4)) (by subst_vars; decide) (aop_makeSlice (by simp only [ASt.ev, tmPut, ↓reduceIte, Nat.reduceEqDiff, *]; done) (by simp only [ASt.ev, tmPut, ↓reduceIte, Nat.reduceEqDiff, *]; done) (aMakeSlice_bools (el := 4) (by exact rfl) (by exact rfl) (by exact rfl) (by exact rfl) (by omega))) ?_
   obtain ⟨Ja, hJa⟩ : ∃ Q, Q = Jb.put (m5 + 1) (.cells (rep n0 [.bool false]) 1 none false (some 4)) := ⟨_, rfl⟩
   have xJa : Ext (m5 + 1) Jb ((m5 + 1) + 1) Ja := by rw [hJa]; exact Ext.newPut
   have kJa : ∀ id o, Ja id = some o → id < (m5 + 1) + 1 := by rw [hJa]; exact ok_new kJb
   have rJa : BB Ja (m5 + 1) n0 (fun _ => False) := by rw [hJa]; exact BRow.new
   have EJa : Ext m5 H5 ((m5 + 1) + 1) Ja := EJb.trans xJa
   rw [← hJa]
   clear hJa
   have rbJa := rJb.same (xJa.2 m5 (by omega))
   refine OpsL.nil ⟨EJa, ?_⟩
   refine OpsR.act (by kernel_rfl) (ActStep.walk rfl rfl ?_)
   refine OpsL.q oasg ?_
   refine OpsL.nil ⟨EJa, ?_⟩
   refine OpsR.act (by kernel_rfl) (ActStep.walk rfl rfl ?_)
   refine OpsL.q oasg ?_
   refine OpsL.nil ⟨EJa, ?_⟩
   refine OpsR.nil ?_
   exact ⟨rfl, _, (m5 + 1), m5, _, _, rfl, EJa, kJa, by omega, by omega, by omega, by omega, by omega, rJa, rbJa, by simp [tmPut, *], by simp [tmPut, *], by simp [tmPut, *]⟩
 rintro e st ⟨rfl, tm6, b1, b2, m6, J, rfl, x6, k6, hb1, hb1', hb2, hb2', hbne, r1, r2, e8, e9, e10⟩
 (change Trip _ _ _ _ _)
 have b6 := (x6.2 m1 (by omega)).trans b5
 clear b5
 have fr0 : ∀ j, j ≠ b1 → j ≠ b2 → J j = J j := fun _ _ _ => rfl
 repeat (first | refine OpsL.q (by exact oasg) ?_ | refine Trip.seq ?_ | refine Trip.ops ?_ | refine Trip.block ?_ | (refine OpsL.nil ?_; (change Trip _ _ _ _ _)))
 refine Trip.mono (Q := fun e st => e = .exit 0 ∧ ∃ (tm' : Nat → Value) (K : Heap), st = ⟨tm', n, K, m6⟩ ∧ (∀ j, j ≠ b1 → j ≠ b2 → K j = J j) ∧ BB K b1 n0 (fun k => ((k : Int) ∈ T.init)) ∧ BB K b2 n1 (fun _ => False) ∧ tm' 8 = .pointer (some ⟨m1, 0, none⟩) ∧ tm' 9 = .slice (some ⟨b1, 0, none⟩) n0 n0 ∧ tm' 10 = .slice (some ⟨b2, 0, none⟩) n1 n1) ?_ ?_
 ·refine Trip.inv (fun (i : Nat) st => ∃ (tm' : Nat → Value) (K : Heap), st = ⟨tm', n, K, m6⟩ ∧ (∀ j, j ≠ b1 → j ≠ b2 → K j = J j) ∧ BB K b1 n0 (fun k => ((k : Int) ∈ T.init.take i)) ∧ BB K b2 n1 (fun _ => False) ∧ tm' 8 = .pointer (some ⟨m1, 0, none⟩) ∧ tm' 9 = .slice (some ⟨b1, 0, none⟩) n0 n0 ∧ tm' 10 = .slice (some ⟨b2, 0, none⟩) n1 n1 ∧ tm' 11 = .int .i64 (i : Int) ∧ i ≤ T.init.length) (fun i => T.init.length - i) 0 ?_ ?_
  ·exact ⟨_, _, rfl, fr0, r1.iff fun k hk => by simp, r2.iff fun k hk => by simp, by simp [tmPut, *], by simp [tmPut, *], by simp [tmPut, *], by simp [tmPut, *], Nat.zero_le _⟩
  ·clear e8 e9 e10
   rintro i st ⟨tm', K, rfl, fr, r1, r2, e8, e9, e10, ei, hi⟩
   have gK := (fr m1 (by omega) (by omega)).trans b6
   have cF : cellAt K ⟨m1, 2, none⟩ (.slice ia T.init.length ic) := cell_of gK rfl
   by_cases hlt : i < T.init.length
   case neg =>
    have hie : i = T.init.length := by omega
    subst hie
    rw [List.take_length] at r1
    repeat (first | (refine OpsL.q (by first | exact omv | exact ofa | exact old | exact olen) ?_) | refine Trip.seq ?_ | refine Trip.ops ?_)
    refine OpsL.lssF ?_
    repeat (refine OpsL.nil ?_; (change Trip _ _ _ _ _))
    refine Trip.ifF ?_
    repeat (refine Trip.exit ?_; (dsimp only))
    exact ⟨rfl, _, _, rfl, fr, r1, r2, by simp [tmPut, *], by simp [tmPut, *], by simp [tmPut, *]⟩
   case pos =>
    have hTK := hT5.ext (⟨Nat.le_refl _, fun j hj => (fr j (by omega) (by omega)).trans (x6.2 j hj)⟩ : Ext m5 H5 m5 K) k5
    obtain ⟨p, hp, gr⟩ := intsAt_at hTK.init hlt
    subst hp
    obtain ⟨r, hr⟩ : ∃ r, T.init[i] = r := ⟨_, rfl⟩
    obtain ⟨t0, t1⟩ := cS r (by rw [← hr]; exact List.getElem_mem hlt)
    rw [hr] at gr
    repeat (first | (refine OpsL.q (by first | exact omv | exact ofa | exact old | exact olen) ?_) | refine Trip.seq ?_ | refine Trip.ops ?_)
    refine OpsL.lssT ?_
    repeat (refine OpsL.nil ?_; (change Trip _ _ _ _ _))
    refine Trip.ifT ?_
    repeat (first | (refine OpsL.q (by first | exact omv | exact oixa | exact ofa | exact old) ?_) | refine Trip.seq ?_ | refine Trip.ops ?_ | refine Trip.block ?_ | (refine Trip.skip ?_; (change Trip _ _ _ _ _)))
    refine OpsL.setB (b := b1) (m := n0) (j := r) (by simp only [ASt.ev, tmPut, ↓reduceIte, Nat.reduceEqDiff, *]; rfl) (by simp only [ASt.ev, tmPut, ↓reduceIte, Nat.reduceEqDiff, *]; rfl) (by exact rfl) r1 t0 t1 fun K2 r1' f2 => ?_
    repeat (first | (refine OpsL.q (by first | exact omv | exact oasg | exact oadd) ?_) | refine Trip.ops ?_ | (refine OpsL.nil ?_; ((repeat (refine blockExit_normal ?_)); first | (change Trip _ _ _ _ _) | (dsimp only))))
    have hq : ∀ k : Nat, k = (r).toNat ↔ r = (k : Int) := fun k => by omega
    refine ⟨i + 1, ⟨_, _, rfl, fun j h1 h2 => (f2 j h1).trans (fr j h1 h2), r1'.iff fun k hk => ?_, r2.same (f2 b2 (by omega)), by simp [tmPut, *], by simp [tmPut, *], by simp [tmPut, *], by simp [tmPut, *], by omega⟩, by omega⟩
    rw [hq, List.take_succ_eq_append_getElem hlt, hr, List.mem_append, List.mem_singleton, eq_comm]
    exact or_comm
 clear e8 e9 e10 r1 r2
 rintro e st ⟨rfl, tm7, J1, rfl, fr1, r1, r2, e8, e9, e10⟩
 ((repeat (refine blockExit_eq ?_)); change Trip _ _ _ _ _)
 repeat (first | refine OpsL.q (by exact oasg) ?_ | refine Trip.seq ?_ | refine Trip.ops ?_ | refine Trip.block ?_ | (refine OpsL.nil ?_; (change Trip _ _ _ _ _)))
 refine Trip.mono (Q := fun e st => e = .exit 2 ∧ ∃ (tm' : Nat → Value) (K : Heap), st = ⟨tm', n, K, m6⟩ ∧ (∀ j, j ≠ b1 → j ≠ b2 → K j = J j) ∧ BB K b1 n0 (fun k => (∃ r ∈ T.opens, r.2.2.1 = (k : Int)) ∨ ((k : Int) ∈ T.init)) ∧ BB K b2 n1 (fun k => ∃ r ∈ T.opens, r.2.2.2 = (k : Int)) ∧ tm' 8 = .pointer (some ⟨m1, 0, none⟩) ∧ tm' 9 = .slice (some ⟨b1, 0, none⟩) n0 n0 ∧ tm' 10 = .slice (some ⟨b2, 0, none⟩) n1 n1) ?_ ?_
 ·refine Trip.inv (fun (i : Nat) st => ∃ (tm' : Nat → Value) (K : Heap), st = ⟨tm', n, K, m6⟩ ∧ (∀ j, j ≠ b1 → j ≠ b2 → K j = J j) ∧ BB K b1 n0 (fun k => (∃ r ∈ T.opens.take i, r.2.2.1 = (k : Int)) ∨ ((k : Int) ∈ T.init)) ∧ BB K b2 n1 (fun k => ∃ r ∈ T.opens.take i, r.2.2.2 = (k : Int)) ∧ tm' 8 = .pointer (some ⟨m1, 0, none⟩) ∧ tm' 9 = .slice (some ⟨b1, 0, none⟩) n0 n0 ∧ tm' 10 = .slice (some ⟨b2, 0, none⟩) n1 n1 ∧ tm' 12 = .int .i64 (i : Int) ∧ i ≤ T.opens.length) (fun i => T.opens.length - i) 0 ?_ ?_
  ·exact ⟨_, _, rfl, fr1, r1.iff fun k hk => by simp, r2.iff fun k hk => by simp, by simp [tmPut, *], by simp [tmPut, *], by simp [tmPut, *], by simp [tmPut, *], Nat.zero_le _⟩
  ·clear e8 e9 e10
   rintro i st ⟨tm', K, rfl, fr, r1, r2, e8, e9, e10, ei, hi⟩
   have gK := (fr m1 (by omega) (by omega)).trans b6
   have cF : cellAt K ⟨m1, 4, none⟩ (.slice oa T.opens.length oc) := cell_of gK rfl
   by_cases hlt : i < T.opens.length
   case neg =>
    have hie : i = T.opens.length := by omega
    subst hie
    rw [List.take_length] at r1 r2
    repeat (first | (refine OpsL.q (by first | exact omv | exact ofa | exact old | exact olen) ?_) | refine Trip.seq ?_ | refine Trip.ops ?_)
    refine OpsL.lssF ?_
    repeat (refine OpsL.nil ?_; (change Trip _ _ _ _ _))
    refine Trip.ifF ?_
    repeat (refine Trip.exit ?_; (dsimp only))
    exact ⟨rfl, _, _, rfl, fr, r1, r2, by simp [tmPut, *], by simp [tmPut, *], by simp [tmPut, *]⟩
   case pos =>
    have hTK := hT5.ext (⟨Nat.le_refl _, fun j hj => (fr j (by omega) (by omega)).trans (x6.2 j hj)⟩ : Ext m5 H5 m5 K) k5
    obtain ⟨p, hp, gr⟩ := rows_at hTK.opens hlt
    subst hp
    obtain ⟨r, hr⟩ : ∃ r, T.opens[i] = r := ⟨_, rfl⟩
    obtain ⟨⟨t0, t1⟩, u0, u1⟩ := cO r (by rw [← hr]; exact List.getElem_mem hlt)
    rw [hr] at gr
    have ct : cellAt K ⟨p.block, p.off + (i : Int).toNat * 4 + 2, p.spot⟩ (.int .i64 r.2.2.1) := getc_cell (j := 2) gr rfl
    obtain ⟨p', hp', gr5⟩ := rows_at hT5.opens hlt
    cases hp'
    rw [hr] at gr5
    have cu5 : cellAt H5 ⟨p.block, p.off + (i : Int).toNat * 4 + 3, p.spot⟩ (.int .i64 r.2.2.2) := getc_cell (j := 3) gr5 rfl
    have cu : cellAt K ⟨p.block, p.off + (i : Int).toNat * 4 + 3, p.spot⟩ (.int .i64 r.2.2.2) := getc_cell (j := 3) gr rfl
    repeat (first | (refine OpsL.q (by first | exact omv | exact ofa | exact old | exact olen) ?_) | refine Trip.seq ?_ | refine Trip.ops ?_)
    refine OpsL.lssT ?_
    repeat (refine OpsL.nil ?_; (change Trip _ _ _ _ _))
    refine Trip.ifT ?_
    repeat (first | refine Trip.seq ?_ | refine Trip.block ?_ | (refine Trip.skip ?_; (change Trip _ _ _ _ _)))
    refine OpsR.drawn [15, 17] (K := fun _ HH => ∀ j, j ≠ b1 → j ≠ b2 → HH j = K j) mixed3 (by kernel_rfl) (by kernel_rfl) [0, 1, 2, 3, 4, 5, 6, 7, 8, 9, 10, 11, 12, 13, 14, 15, 16, 17] (by kernel_rfl) (fun _ _ _ => rfl) ?_
    refine OpsR.one rfl rfl rfl (by kernel_rfl) ?_
    repeat (first | refine OpsL.q (by exact omv) ?_ | (refine OpsL.nil ?_; (dsimp only)))
    refine OpsR.one rfl rfl rfl (by kernel_rfl) ?_
    repeat (first | refine OpsL.q (by exact ofa) ?_ | (refine OpsL.nil ?_; (dsimp only)))
    refine OpsR.sp (v := .slice (some p) T.opens.length oc) rfl (by kernel_rfl) (by subst_vars; decide) (fun _ _ _ => rfl) (fun HH nn hK => aop_load (by simp only [ASt.ev, tmPut, ↓reduceIte, Nat.reduceEqDiff, *]; rfl) (by exact rfl) rfl (by rw [Nat.zero_add]; exact cell_of ((hK m1 (by omega) (by omega)).trans gK) rfl)) ?_
    refine OpsR.one rfl rfl rfl (by kernel_rfl) ?_
    repeat (first | refine OpsL.q (by exact omv) ?_ | (refine OpsL.nil ?_; (skip)))
    refine OpsR.one rfl rfl rfl (by kernel_rfl) ?_
    repeat (first | refine OpsL.q (by exact oixa) ?_ | (refine OpsL.nil ?_; (dsimp only)))
    refine OpsR.one rfl rfl rfl (by kernel_rfl) ?_
    repeat (first | refine OpsL.q (by exact ofa) ?_ | (refine OpsL.nil ?_; (dsimp only)))
    refine OpsR.one rfl rfl rfl (by kernel_rfl) ?_
    repeat (first | refine OpsL.q (by exact old) ?_ | (refine OpsL.nil ?_; (skip)))
    refine OpsR.one rfl rfl rfl (by kernel_rfl) ?_
    repeat (first | refine OpsL.q (by exact omv) ?_ | (refine OpsL.nil ?_; (skip)))
    refine OpsR.one rfl rfl rfl (by kernel_rfl) ?_
    repeat (first | refine OpsL.q (by exact ofa) ?_ | (refine OpsL.nil ?_; (dsimp only)))
    refine OpsR.sp (v := .slice (some p) T.opens.length oc) rfl (by kernel_rfl) (by subst_vars; decide) (fun _ _ _ => rfl) (fun HH nn hK => aop_load (by simp only [ASt.ev, tmPut, ↓reduceIte, Nat.reduceEqDiff, *]; rfl) (by exact rfl) rfl (by rw [Nat.zero_add]; exact cell_of ((hK m1 (by omega) (by omega)).trans gK) rfl)) ?_
    refine OpsR.one rfl rfl rfl (by kernel_rfl) ?_
    repeat (first | refine OpsL.q (by exact omv) ?_ | (refine OpsL.nil ?_; (skip)))
    refine OpsR.one rfl rfl rfl (by kernel_rfl) ?_
    repeat (first | refine OpsL.q (by exact oixa) ?_ | (refine OpsL.nil ?_; (dsimp only)))
    refine OpsR.one rfl rfl rfl (by kernel_rfl) ?_
    repeat (first | refine OpsL.q (by exact ofa) ?_ | (refine OpsL.nil ?_; (dsimp only)))
    refine OpsR.sp (v := .int .i64 r.2.2.2) rfl (by kernel_rfl) (by subst_vars; decide) (fun _ _ _ => rfl) (fun HH nn hK => aop_load (by simp only [ASt.ev, tmPut, ↓reduceIte, Nat.reduceEqDiff, *]; rfl) (by exact rfl) rfl (cell_ext (⟨Nat.le_refl _, fun j hj => (hK j (by omega) (by omega)).trans ((fr j (by omega) (by omega)).trans (x6.2 j hj))⟩ : Ext m5 H5 m5 HH) k5 cu5)) ?_
    refine OpsR.one rfl rfl rfl (by kernel_rfl) ?_
    repeat (first | refine OpsL.q (by exact oixa) ?_ | (refine OpsL.nil ?_; (dsimp only)))
    refine OpsR.act (by kernel_rfl) (ActStep.walk rfl rfl ?_)
    refine OpsL.setB (b := b1) (m := n0) (j := r.2.2.1) (by simp only [ASt.ev, tmPut, ↓reduceIte, Nat.reduceEqDiff, *]; rfl) (by simp only [ASt.ev, tmPut, ↓reduceIte, Nat.reduceEqDiff, *]; rfl) (by exact rfl) r1 t0 t1 fun K2 r1' f2 => ?_
    refine OpsL.nil ⟨fun j h1 h2 => f2 j h1, ?_⟩
    have r2' := r2.same (f2 b2 (by omega))
    refine OpsR.one rfl rfl rfl (by kernel_rfl) ?_
    repeat (first | refine OpsL.q (by exact oixa) ?_ | (refine OpsL.nil ?_; (dsimp only)))
    refine OpsR.act (by kernel_rfl) (ActStep.walk rfl rfl ?_)
    refine OpsL.setB (b := b2) (m := n1) (j := r.2.2.2) (by simp only [ASt.ev, tmPut, ↓reduceIte, Nat.reduceEqDiff, *]; rfl) (by simp only [ASt.ev, tmPut, ↓reduceIte, Nat.reduceEqDiff, *]; rfl) (by exact rfl) r2' (by omega) u1 fun K3 r2'' f3 => ?_
    refine OpsL.nil ⟨fun j h1 h2 => (f3 j h2).trans (f2 j h1), ?_⟩
    refine OpsR.nil ?_
    ((repeat (refine blockExit_normal ?_)); change Trip _ _ _ _ _)
    repeat (first | (refine OpsL.q (by first | exact omv | exact oasg | exact oadd) ?_) | refine Trip.ops ?_ | (refine OpsL.nil ?_; (dsimp only)))
    have hq : ∀ k : Nat, k = r.2.2.1.toNat ↔ r.2.2.1 = (k : Int) := fun k => by omega
    have hq2 : ∀ k : Nat, k = r.2.2.2.toNat ↔ r.2.2.2 = (k : Int) := fun k => by omega
    refine ⟨i + 1, ⟨_, _, rfl, fun j h1 h2 => (f3 j h2).trans ((f2 j h1).trans (fr j h1 h2)), (r1'.same (f3 b1 (by omega))).iff fun k hk => ?_, r2''.iff fun k hk => ?_, by simp [tmPut, *], by simp [tmPut, *], by simp [tmPut, *], by simp [tmPut, *], by omega⟩, by omega⟩
    ·rw [hq, ex_takeI hlt, hr]
     constructor
     ·rintro (h | h | h)
      ·exact .inl (.inr h)
      ·exact .inl (.inl h)
      ·exact .inr h
     ·rintro ((h | h) | h)
      ·exact .inr (.inl h)
      ·exact .inl h
      ·exact .inr (.inr h)
    ·rw [hq2, ex_takeI hlt, hr]
     exact or_comm
 clear e8 e9 e10 r1 r2
 rintro e st ⟨rfl, tm8, J2, rfl, fr2, r1, r2, e8, e9, e10⟩
 ((repeat (refine blockExit_eq ?_)); change Trip _ _ _ _ _)
 repeat (first | refine OpsL.q (by exact oasg) ?_ | refine Trip.seq ?_ | refine Trip.ops ?_ | refine Trip.block ?_ | (refine OpsL.nil ?_; (change Trip _ _ _ _ _)))
 refine Trip.mono (Q := fun e st => e = .exit 4 ∧ ∃ (tm' : Nat → Value) (K : Heap), st = ⟨tm', n, K, m6⟩ ∧ (∀ j, j ≠ b1 → j ≠ b2 → K j = J j) ∧ BB K b1 n0 (fun k => (∃ r ∈ T.closes, r.2.2.2 = (k : Int)) ∨ (∃ r ∈ T.opens, r.2.2.1 = (k : Int)) ∨ ((k : Int) ∈ T.init)) ∧ BB K b2 n1 (fun k => ∃ r ∈ T.opens, r.2.2.2 = (k : Int)) ∧ tm' 8 = .pointer (some ⟨m1, 0, none⟩) ∧ tm' 9 = .slice (some ⟨b1, 0, none⟩) n0 n0 ∧ tm' 10 = .slice (some ⟨b2, 0, none⟩) n1 n1) ?_ ?_
 ·refine Trip.inv (fun (i : Nat) st => ∃ (tm' : Nat → Value) (K : Heap), st = ⟨tm', n, K, m6⟩ ∧ (∀ j, j ≠ b1 → j ≠ b2 → K j = J j) ∧ BB K b1 n0 (fun k => (∃ r ∈ T.closes.take i, r.2.2.2 = (k : Int)) ∨ (∃ r ∈ T.opens, r.2.2.1 = (k : Int)) ∨ ((k : Int) ∈ T.init)) ∧ BB K b2 n1 (fun k => ∃ r ∈ T.opens, r.2.2.2 = (k : Int)) ∧ tm' 8 = .pointer (some ⟨m1, 0, none⟩) ∧ tm' 9 = .slice (some ⟨b1, 0, none⟩) n0 n0 ∧ tm' 10 = .slice (some ⟨b2, 0, none⟩) n1 n1 ∧ tm' 13 = .int .i64 (i : Int) ∧ i ≤ T.closes.length) (fun i => T.closes.length - i) 0 ?_ ?_
  ·exact ⟨_, _, rfl, fr2, r1.iff fun k hk => by simp, r2.iff fun k hk => by simp, by simp [tmPut, *], by simp [tmPut, *], by simp [tmPut, *], by simp [tmPut, *], Nat.zero_le _⟩
  ·clear e8 e9 e10
   rintro i st ⟨tm', K, rfl, fr, r1, r2, e8, e9, e10, ei, hi⟩
   have gK := (fr m1 (by omega) (by omega)).trans b6
   have cF : cellAt K ⟨m1, 5, none⟩ (.slice ca T.closes.length cc) := cell_of gK rfl
   by_cases hlt : i < T.closes.length
   case neg =>
    have hie : i = T.closes.length := by omega
    subst hie
    rw [List.take_length] at r1
    repeat (first | (refine OpsL.q (by first | exact omv | exact ofa | exact old | exact olen) ?_) | refine Trip.seq ?_ | refine Trip.ops ?_)
    refine OpsL.lssF ?_
    repeat (refine OpsL.nil ?_; (change Trip _ _ _ _ _))
    refine Trip.ifF ?_
    repeat (refine Trip.exit ?_; (dsimp only))
    exact ⟨rfl, _, _, rfl, fr, r1, r2, by simp [tmPut, *], by simp [tmPut, *], by simp [tmPut, *]⟩
   case pos =>
    have hTK := hT5.ext (⟨Nat.le_refl _, fun j hj => (fr j (by omega) (by omega)).trans (x6.2 j hj)⟩ : Ext m5 H5 m5 K) k5
    obtain ⟨p, hp, gr⟩ := rows_at hTK.closes hlt
    subst hp
    obtain ⟨r, hr⟩ : ∃ r, T.closes[i] = r := ⟨_, rfl⟩
    obtain ⟨t0, t1⟩ := cC r (by rw [← hr]; exact List.getElem_mem hlt)
    rw [hr] at gr
    have ct : cellAt K ⟨p.block, p.off + (i : Int).toNat * 4 + 3, p.spot⟩ (.int .i64 r.2.2.2) := getc_cell (j := 3) gr rfl
    repeat (first | (refine OpsL.q (by first | exact omv | exact ofa | exact old | exact olen) ?_) | refine Trip.seq ?_ | refine Trip.ops ?_)
    refine OpsL.lssT ?_
    repeat (refine OpsL.nil ?_; (change Trip _ _ _ _ _))
    refine Trip.ifT ?_
    repeat (first | (refine OpsL.q (by first | exact omv | exact oixa | exact ofa | exact old) ?_) | refine Trip.seq ?_ | refine Trip.ops ?_ | refine Trip.block ?_ | (refine Trip.skip ?_; (change Trip _ _ _ _ _)))
    refine OpsL.setB (b := b1) (m := n0) (j := r.2.2.2) (by simp only [ASt.ev, tmPut, ↓reduceIte, Nat.reduceEqDiff, *]; rfl) (by simp only [ASt.ev, tmPut, ↓reduceIte, Nat.reduceEqDiff, *]; rfl) (by exact rfl) r1 t0 t1 fun K2 r1' f2 => ?_
    repeat (first | (refine OpsL.q (by first | exact omv | exact oasg | exact oadd) ?_) | refine Trip.ops ?_ | (refine OpsL.nil ?_; ((repeat (refine blockExit_normal ?_)); first | (change Trip _ _ _ _ _) | (dsimp only))))
    have hq : ∀ k : Nat, k = (r.2.2.2).toNat ↔ r.2.2.2 = (k : Int) := fun k => by omega
    refine ⟨i + 1, ⟨_, _, rfl, fun j h1 h2 => (f2 j h1).trans (fr j h1 h2), r1'.iff fun k hk => ?_, r2.same (f2 b2 (by omega)), by simp [tmPut, *], by simp [tmPut, *], by simp [tmPut, *], by simp [tmPut, *], by omega⟩, by omega⟩
    rw [hq, ex_takeI hlt, hr]
    constructor
    ·rintro (h | h | h)
     ·exact .inl (.inr h)
     ·exact .inl (.inl h)
     ·exact .inr h
    ·rintro ((h | h) | h)
     ·exact .inr (.inl h)
     ·exact .inl h
     ·exact .inr (.inr h)
 clear e8 e9 e10 r1 r2
 rintro e st ⟨rfl, tm9, J3, rfl, fr3, r1, r2, e8, e9, e10⟩
 ((repeat (refine blockExit_eq ?_)); change Trip _ _ _ _ _)
 repeat (first | refine OpsL.q (by exact oasg) ?_ | refine Trip.seq ?_ | refine Trip.ops ?_ | refine Trip.block ?_ | (refine OpsL.nil ?_; (change Trip _ _ _ _ _)))
 refine Trip.mono (Q := fun e st => e = .exit 6 ∧ ∃ (tm' : Nat → Value) (K : Heap), st = ⟨tm', n, K, m6⟩ ∧ (∀ j, j ≠ b1 → j ≠ b2 → K j = J j) ∧ BB K b1 n0 (fun k => (∃ r ∈ T.inners, r.2.2 = (k : Int)) ∨ (∃ r ∈ T.closes, r.2.2.2 = (k : Int)) ∨ (∃ r ∈ T.opens, r.2.2.1 = (k : Int)) ∨ ((k : Int) ∈ T.init)) ∧ BB K b2 n1 (fun k => ∃ r ∈ T.opens, r.2.2.2 = (k : Int)) ∧ tm' 8 = .pointer (some ⟨m1, 0, none⟩) ∧ tm' 9 = .slice (some ⟨b1, 0, none⟩) n0 n0 ∧ tm' 10 = .slice (some ⟨b2, 0, none⟩) n1 n1) ?_ ?_
 ·refine Trip.inv (fun (i : Nat) st => ∃ (tm' : Nat → Value) (K : Heap), st = ⟨tm', n, K, m6⟩ ∧ (∀ j, j ≠ b1 → j ≠ b2 → K j = J j) ∧ BB K b1 n0 (fun k => (∃ r ∈ T.inners.take i, r.2.2 = (k : Int)) ∨ (∃ r ∈ T.closes, r.2.2.2 = (k : Int)) ∨ (∃ r ∈ T.opens, r.2.2.1 = (k : Int)) ∨ ((k : Int) ∈ T.init)) ∧ BB K b2 n1 (fun k => ∃ r ∈ T.opens, r.2.2.2 = (k : Int)) ∧ tm' 8 = .pointer (some ⟨m1, 0, none⟩) ∧ tm' 9 = .slice (some ⟨b1, 0, none⟩) n0 n0 ∧ tm' 10 = .slice (some ⟨b2, 0, none⟩) n1 n1 ∧ tm' 14 = .int .i64 (i : Int) ∧ i ≤ T.inners.length) (fun i => T.inners.length - i) 0 ?_ ?_
  ·exact ⟨_, _, rfl, fr3, r1.iff fun k hk => by simp, r2.iff fun k hk => by simp, by simp [tmPut, *], by simp [tmPut, *], by simp [tmPut, *], by simp [tmPut, *], Nat.zero_le _⟩
  ·clear e8 e9 e10
   rintro i st ⟨tm', K, rfl, fr, r1, r2, e8, e9, e10, ei, hi⟩
   have gK := (fr m1 (by omega) (by omega)).trans b6
   have cF : cellAt K ⟨m1, 6, none⟩ (.slice na T.inners.length nc) := cell_of gK rfl
   by_cases hlt : i < T.inners.length
   case neg =>
    have hie : i = T.inners.length := by omega
    subst hie
    rw [List.take_length] at r1
    repeat (first | (refine OpsL.q (by first | exact omv | exact ofa | exact old | exact olen) ?_) | refine Trip.seq ?_ | refine Trip.ops ?_)
    refine OpsL.lssF ?_
    repeat (refine OpsL.nil ?_; (change Trip _ _ _ _ _))
    refine Trip.ifF ?_
    repeat (refine Trip.exit ?_; (dsimp only))
    exact ⟨rfl, _, _, rfl, fr, r1, r2, by simp [tmPut, *], by simp [tmPut, *], by simp [tmPut, *]⟩
   case pos =>
    have hTK := hT5.ext (⟨Nat.le_refl _, fun j hj => (fr j (by omega) (by omega)).trans (x6.2 j hj)⟩ : Ext m5 H5 m5 K) k5
    obtain ⟨p, hp, gr⟩ := rows_at hTK.inners hlt
    subst hp
    obtain ⟨r, hr⟩ : ∃ r, T.inners[i] = r := ⟨_, rfl⟩
    obtain ⟨t0, t1⟩ := cN r (by rw [← hr]; exact List.getElem_mem hlt)
    rw [hr] at gr
    have ct : cellAt K ⟨p.block, p.off + (i : Int).toNat * 3 + 2, p.spot⟩ (.int .i64 r.2.2) := getc_cell (j := 2) gr rfl
    repeat (first | (refine OpsL.q (by first | exact omv | exact ofa | exact old | exact olen) ?_) | refine Trip.seq ?_ | refine Trip.ops ?_)
    refine OpsL.lssT ?_
    repeat (refine OpsL.nil ?_; (change Trip _ _ _ _ _))
    refine Trip.ifT ?_
    repeat (first | (refine OpsL.q (by first | exact omv | exact oixa | exact ofa | exact old) ?_) | refine Trip.seq ?_ | refine Trip.ops ?_ | refine Trip.block ?_ | (refine Trip.skip ?_; (change Trip _ _ _ _ _)))
    refine OpsL.setB (b := b1) (m := n0) (j := r.2.2) (by simp only [ASt.ev, tmPut, ↓reduceIte, Nat.reduceEqDiff, *]; rfl) (by simp only [ASt.ev, tmPut, ↓reduceIte, Nat.reduceEqDiff, *]; rfl) (by exact rfl) r1 t0 t1 fun K2 r1' f2 => ?_
    repeat (first | (refine OpsL.q (by first | exact omv | exact oasg | exact oadd) ?_) | refine Trip.ops ?_ | (refine OpsL.nil ?_; ((repeat (refine blockExit_normal ?_)); first | (change Trip _ _ _ _ _) | (dsimp only))))
    have hq : ∀ k : Nat, k = (r.2.2).toNat ↔ r.2.2 = (k : Int) := fun k => by omega
    refine ⟨i + 1, ⟨_, _, rfl, fun j h1 h2 => (f2 j h1).trans (fr j h1 h2), r1'.iff fun k hk => ?_, r2.same (f2 b2 (by omega)), by simp [tmPut, *], by simp [tmPut, *], by simp [tmPut, *], by simp [tmPut, *], by omega⟩, by omega⟩
    rw [hq, ex_takeI hlt, hr]
    constructor
    ·rintro (h | h | h)
     ·exact .inl (.inr h)
     ·exact .inl (.inl h)
     ·exact .inr h
    ·rintro ((h | h) | h)
     ·exact .inr (.inl h)
     ·exact .inl h
     ·exact .inr (.inr h)
 clear e8 e9 e10 r1 r2
 rintro e st ⟨rfl, tm10, J4, rfl, fr4, r1, r2, e8, e9, e10⟩
 ((repeat (refine blockExit_eq ?_)); change Trip _ _ _ _ _)
 repeat (first | refine OpsL.q (by exact oasg) ?_ | refine Trip.seq ?_ | refine Trip.ops ?_ | refine Trip.block ?_ | (refine OpsL.nil ?_; (change Trip _ _ _ _ _)))
 have b7 := (fr4 m1 (by omega) (by omega)).trans b6
 have cN7 : cellAt J4 ⟨m1, 0, none⟩ (.int .i64 (n0 : Int)) := by rw [← hTN]; exact cell_of b7 rfl
 have cG7 : cellAt J4 ⟨m1, 1, none⟩ (.int .i64 ((n1 : Int) - 1)) := by rw [← hTG]; exact cell_of b7 rfl
 refine Trip.mono (Q := fun e st => e = .exit 8 ∧ ∃ (tm' : Nat → Value), st = ⟨tm', n, J4, m6⟩ ∧ tm' 8 = .pointer (some ⟨m1, 0, none⟩) ∧ tm' 9 = .slice (some ⟨b1, 0, none⟩) n0 n0 ∧ tm' 10 = .slice (some ⟨b2, 0, none⟩) n1 n1) ?_ ?_
 ·refine Trip.inv (fun (i : Nat) st => ∃ (tm' : Nat → Value), st = ⟨tm', n, J4, m6⟩ ∧ tm' 8 = .pointer (some ⟨m1, 0, none⟩) ∧ tm' 9 = .slice (some ⟨b1, 0, none⟩) n0 n0 ∧ tm' 10 = .slice (some ⟨b2, 0, none⟩) n1 n1 ∧ tm' 15 = .int .i64 (i : Int) ∧ i ≤ n0) (fun i => n0 - i) 0 ?_ ?_
  ·exact ⟨_, rfl, by simp [tmPut, *], by simp [tmPut, *], by simp [tmPut, *], by simp [tmPut, *], Nat.zero_le _⟩
  ·clear e8 e9 e10
   rintro i st ⟨tm', rfl, e8, e9, e10, ei, hi⟩
   repeat (first | (refine OpsL.q (by first | exact omv | exact ofa | exact old) ?_) | refine Trip.seq ?_ | refine Trip.ops ?_)
   by_cases hlt : i < n0
   case neg =>
    refine OpsL.lssF ?_
    repeat (refine OpsL.nil ?_; (change Trip _ _ _ _ _))
    refine Trip.ifF ?_
    repeat (refine Trip.exit ?_; (dsimp only))
    exact ⟨rfl, _, rfl, by simp [tmPut, *], by simp [tmPut, *], by simp [tmPut, *]⟩
   case pos =>
    obtain ⟨x, hxc, hxS⟩ := r1.get (j := (i : Int)) (by omega) (by omega)
    have hx : x = true := hxS.2 (by
     rw [Int.toNat_natCast]
     rcases hre i hlt with h | h | h | h
     ·exact .inr (.inr (.inr h))
     ·exact .inr (.inr (.inl h))
     ·exact .inr (.inl h)
     ·exact .inl h)
    subst hx
    refine OpsL.lssT ?_
    repeat (refine OpsL.nil ?_; (change Trip _ _ _ _ _))
    refine Trip.ifT ?_
    repeat (first | (refine OpsL.q (by first | exact omv | exact onot | exact oixa | exact old) ?_) | refine Trip.seq ?_ | refine Trip.ops ?_ | refine Trip.block ?_ | (refine Trip.skip ?_; (change Trip _ _ _ _ _)) | (refine OpsL.nil ?_; (change Trip _ _ _ _ _)))
    refine Trip.ifF ?_
    repeat (first | (refine OpsL.q (by first | exact omv | exact oasg | exact oadd) ?_) | refine Trip.ops ?_ | (refine Trip.skip ?_; ((repeat (refine blockExit_normal ?_)); change Trip _ _ _ _ _)) | (refine OpsL.nil ?_; (dsimp only)))
    exact ⟨i + 1, ⟨_, rfl, by simp [tmPut, *], by simp [tmPut, *], by simp [tmPut, *], by simp [tmPut, *], by omega⟩, by omega⟩
 clear e8 e9 e10
 rintro e st ⟨rfl, tm11, rfl, e8, e9, e10⟩
 ((repeat (refine blockExit_eq ?_)); change Trip _ _ _ _ _)
 repeat (first | refine OpsL.q (by exact oasg) ?_ | refine Trip.seq ?_ | refine Trip.ops ?_ | refine Trip.block ?_ | (refine OpsL.nil ?_; (change Trip _ _ _ _ _)))
 refine Trip.inv (fun (i : Nat) st => ∃ (tm' : Nat → Value), st = ⟨tm', n, J4, m6⟩ ∧ tm' 8 = .pointer (some ⟨m1, 0, none⟩) ∧ tm' 9 = .slice (some ⟨b1, 0, none⟩) n0 n0 ∧ tm' 10 = .slice (some ⟨b2, 0, none⟩) n1 n1 ∧ tm' 16 = .int .i64 (i : Int) ∧ 1 ≤ i ∧ i ≤ n1) (fun i => n1 - i) 1 ?_ ?_
 ·exact ⟨_, rfl, by simp [tmPut, *], by simp [tmPut, *], by simp [tmPut, *], by simp [tmPut, *], Nat.le_refl _, hG1⟩
 ·clear e8 e9 e10
  rintro i st ⟨tm', rfl, e8, e9, e10, ei, hi1, hi⟩
  repeat (first | (refine OpsL.q (by first | exact omv | exact ofa | exact old) ?_) | refine Trip.seq ?_ | refine Trip.ops ?_)
  by_cases hlt : i < n1
  case neg =>
   refine OpsL.leqF ?_
   repeat (refine OpsL.nil ?_; (change Trip _ _ _ _ _))
   refine Trip.ifF ?_
   repeat (first | refine OpsL.q (by exact oasg) ?_ | refine Trip.seq ?_ | refine Trip.ops ?_ | (refine Trip.exit ?_; ((repeat (refine blockExit_eq ?_)); change Trip _ _ _ _ _)) | (refine Trip.ret ?_; (dsimp only)) | (refine OpsL.nil ?_; (change Trip _ _ _ _ _)))
   exact ⟨.inr rfl, _, res_tmp, by simp [tmPut, *]⟩
  case pos =>
   obtain ⟨x, hxc, hxS⟩ := r2.get (j := (i : Int)) (by omega) (by omega)
   have hx : x = true := hxS.2 (by rw [Int.toNat_natCast]; exact hpu i hlt hi1)
   subst hx
   refine OpsL.leqT ?_
   repeat (refine OpsL.nil ?_; (change Trip _ _ _ _ _))
   refine Trip.ifT ?_
   repeat (first | (refine OpsL.q (by first | exact omv | exact onot | exact oixa | exact old) ?_) | refine Trip.seq ?_ | refine Trip.ops ?_ | refine Trip.block ?_ | (refine Trip.skip ?_; (change Trip _ _ _ _ _)) | (refine OpsL.nil ?_; (change Trip _ _ _ _ _)))
   refine Trip.ifF ?_
   repeat (first | (refine OpsL.q (by first | exact omv | exact oasg | exact oadd) ?_) | refine Trip.ops ?_ | (refine Trip.skip ?_; ((repeat (refine blockExit_normal ?_)); change Trip _ _ _ _ _)) | (refine OpsL.nil ?_; (dsimp only)))
   exact ⟨i + 1, ⟨_, rfl, by simp [tmPut, *], by simp [tmPut, *], by simp [tmPut, *], by simp [tmPut, *], by omega, by omega⟩, by omega⟩
theorem core (W0 : World) (nx : Nat) (H : Heap) (a0 : Int) (w0 : (Lit.int .i64 a0).wf = true) (a1 : Int) (w1 : (Lit.int .i64 a1).wf = true) (x2 : List Int) (w2 : ∀ x ∈ x2, (Lit.int .i64 x).wf = true) (us : List Value)
  (hat : All2 (Arg.at H) [.plain (.int .i64 a0), .plain (.int .i64 a1), .ints .i64 x2] us) (_ : ∀ id o, H id = some o → id < nx) : ACalls Tryz.prog W0 5 us nx H fun v _ _ => v = .bool true := by
 obtain ⟨u0, us, rfl, h0, hat⟩ := hat.cons
 obtain ⟨u1, us, rfl, h1, hat⟩ := hat.cons
 obtain ⟨u2, us, rfl, h2, hat⟩ := hat.cons
 obtain rfl := hat.nil
 obtain rfl : u0 = _ := h0
 obtain rfl : u1 = _ := h1
 exact law W0 h2.1 (wf64 w1)
theorem own : ownKnob Tryz.prog.godebug = none := by kernel_rfl
theorem laidOut : laidOutB Tryz.prog = true := by kernel_rfl
theorem cells_ints : Tryz.prog.cellsOf 3 = 1 := by kernel_rfl
set_option maxRecDepth 100000 in
theorem lifted (os : Os) (started : os.Started) (H : Type) (enc : TypeId × Value → H) :
  ReturnsInHanded {} Tryz.checked os 5 .any (Rows.autoReachedSpec.pre6 enc Tryz.prog Tryz.f5 Rows.autoReachedRow.domain false) (Rows.autoReachedSpec.post enc Tryz.prog Tryz.f5 false true false false) := by
 refine returnsInHanded_of_change (C := Tryz.checked) own started (by kernel_rfl) Tryz.func5
  (ChangeSpec.witness6 (enc := enc) (C := Tryz.checked) false ⟨#[], #[.int .i64 0, .int .i64 0, .slice none 0 0], []⟩ 8 (by kernel_rfl) (by kernel_rfl) (by kernel_rfl) (by kernel_rfl)) ?_
 intro W base args ds gs before hval0 hW _ _
 have hval : ∀ (j : Nat) t v, Tryz.f5.params[j]? = some t → args[j]? = some v → Value.okWide Tryz.prog W .any base t v := hval0
 have hW' := hW
 obtain ⟨p, q, hA0, hV, rfl, _, _⟩ := hW
 have hA : DataW.TrodAll enc Tryz.prog W 0 (fun _ => true) true Tryz.f5.params.toList args.toList ds p := hA0
 rw [Tryz.params5] at hA hval
 obtain ⟨v0, vs0, d0, ds0, p0, q0, hargs, rfl, rfl, h0, r0⟩ := trodAll_cons hA
 obtain ⟨v1, vs1, d1, ds1, p1, q1, rfl, rfl, rfl, h1, r1⟩ := trodAll_cons r0
 obtain ⟨v2, vs2, d2, ds2, p2, q2, rfl, rfl, rfl, h2, r2⟩ := trodAll_cons r1
 obtain ⟨rfl, rfl, rfl⟩ := trodAll_nil r2
 obtain rfl : args = #[v0, v1, v2] := by cases args; simp_all
 obtain ⟨rfl, rfl⟩ := trodVars_none hV
 obtain ⟨a0, rfl, rfl, rfl, w0⟩ := open_int Tryz.underlying3 (hval 0 3 v0 rfl rfl) h0
 obtain ⟨a1, rfl, rfl, rfl, w1⟩ := open_int Tryz.underlying3 (hval 1 3 v1 rfl rfl) h1
 obtain ⟨x2, c2, w2⟩ := came_ints Tryz.underlying22 Tryz.underlying3 cells_ints (hval 2 22 v2 rfl rfl) h2
 clear hA0 hval0
 refine (law_calls (ars := [.plain (.int .i64 a0), .plain (.int .i64 a1), .ints .i64 x2]) (vs := [_, _, _]) ⟨⟨rfl, rfl⟩, ⟨rfl, rfl⟩, c2, trivial⟩ (fun nx H us hat hok => core W nx H a0 w0 a1 w1 x2 w2 us hat hok)).mono fun e W' ⟨he, hg⟩ => ?_
 subst he
 exact ⟨_, rfl, law_post laidOut (by kernel_rfl) rfl Tryz.underlying4 rfl hW' rfl hg⟩
theorem over : Rows.autoReachedRow.holds Tryz.pinned (OpenSpec.ofChange Rows.autoReachedSpec) :=
 OpenClaim.holds_of_wide 5 Tryz.f5 rfl rfl rfl rfl rfl rfl rfl ⟨rfl, rfl, rfl, rfl, rfl⟩ rfl rfl rfl rfl rfl (by kernel_rfl) Tryz.func5 (by kernel_rfl)
  (of_decide_eq_true (by kernel_rfl)) (by unfold Func.isWrapper; first | (rw [if_pos (by decide +kernel)]; kernel_rfl) | (rw [if_neg (by decide +kernel)]; exact ⟨rfl, rfl⟩))
  (fun os started H enc _ => lifted os started H enc)
theorem proved : Rows.AutoReachedSaid := over
end Go.Proofs.YtjohiaoepbnicaaGreat.autoReached
