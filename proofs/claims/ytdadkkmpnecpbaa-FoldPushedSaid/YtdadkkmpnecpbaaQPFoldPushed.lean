/-
  The law FoldPushed of chapter 13 holds for all numbers: states that differ by what comes back to them alone are two.
  Conditions: none beyond the row's own.
-/
import Derived.Test.YtdadkkmpnecpbaaRows
import Derived.Test.YtdadkkmpnecpbaaQPM16
import Derived.Test.YtdadkkmpnecpbaaQPM41
namespace Go.Am
set_option linter.unusedSimpArgs false
set_option linter.unusedVariables false
set_option linter.unnecessarySimpa false
open Go.RowKit
def pm (c : Int) (f : Bool) : Mo := { plains := 1, closings := 1, of := [0, 0, 0, 1], entry := [0, 3], final := [f, f, !f, false], inn := [[1], [0], [2], [3]], low := [[0], [0], [2], []], ret := [[], [], [], [[0, c, 2, 3]]] }
theorem pm_m0 (f : Bool) : modF (pm 0 f) = true := by cases f <;> kernel_rfl
theorem pm_m2 (f : Bool) : modF (pm 2 f) = true := by cases f <;> kernel_rfl
theorem pm_c0 (f : Bool) : classesF (pm 0 f) = [0, 0, -1, 1] := by cases f <;> kernel_rfl
theorem pm_c2 (f : Bool) : classesF (pm 2 f) = [0, 1, 2, 3] := by cases f <;> kernel_rfl
theorem pm_v0 (f : Bool) : takesF (pm 0 f) [(1, 0), (2, 0)] = f := by cases f <;> kernel_rfl
theorem pm_v2 (f : Bool) : takesF (pm 2 f) [(1, 0), (2, 0)] = f := by cases f <;> kernel_rfl
theorem pm_w0 (f : Bool) : takesF (pm 0 f) [(3, 0), (1, 0), (2, 0)] = f := by cases f <;> kernel_rfl
theorem pm_w2 (f : Bool) : takesF (pm 2 f) [(3, 0), (1, 0), (2, 0)] = !f := by cases f <;> kernel_rfl
section
variable {P : Program} {W0 : World} {ops : Array Oper} {acts : List Nat} {K : Nat → Nat → Heap → Prop}
/-- A guarded one that reads the same until the act j, which waits for it. -/
theorem OpsQ.spG (j : Nat) {m i q : Nat} {want : Bool} {d' : Tmp} {l : List Nat} {d : Tmp} {op : Op} {type : TypeId} {pos : String} {after : Array Edge} {tm : Nat → Value} {n nx : Nat} {H : Heap} {v : Value} {Q : ASt → Prop} (ho : ops[i]? = some ⟨some d, op, type, pos, after, some (q, want)⟩) (he : (!acts.contains i && front ops l i && (l.contains j && acts.contains j && depT ops j i)) = true) (hd : d < n) (hj : (ops[q]?).bind (·.dst) = some d') (hb : tm d' = .bool want) (hK : K j nx H)
    (hop : ∀ H' nx', K j nx' H' → aop P H' nx' (ASt.ev ⟨tm, n, H, nx⟩) ⟨some d, op, type, pos, after, some (q, want)⟩ = some (v, .none)) (h : OpsQ P W0 ops acts K m l ⟨tmPut tm (some d) v, n, H, nx⟩ Q) : OpsQ P W0 ops acts K (m + 1) (i :: l) ⟨tm, n, H, nx⟩ Q := by
  simp only [Bool.and_eq_true, Bool.not_eq_true'] at he
  exact .inl ⟨he.1.1, he.1.2, _, ho, by simp [dstOk, hd], .inr ⟨by simp [wants, hj, hb], v, hop H nx hK, .inr ⟨j, by simpa using he.2.1.1, he.2.1.2, he.2.2, hop⟩, h⟩⟩
end
end Go.Am
namespace Go.Proofs.Ytdadkkmpnecpbaa.foldPushed
set_option linter.unusedSimpArgs false
set_option linter.unusedVariables false
set_option linter.unnecessarySimpa false
open Go.Am Go.RowKit Go.ChangeShapes Go.WideShapes Go.ChangeAt
attribute [local irreducible] aop OpsL Trip blockExit OpsD OpsK OpsR OpsQ
theorem words {H : Heap} {b : Nat} {ro : Bool} {q : Option TypeId} (h : H b = some (.cells [.int .i64 3, .int .i64 0, .int .i64 1, .int .i64 0, .int .i64 2, .int .i64 0] 2 none ro q)) : RowsAt encPr 2 H (.slice (some ⟨b, 0, none⟩) 3 3) [(3, 0), (1, 0), (2, 0)] ∧ RowsAt encPr 2 H (.slice (some ⟨b, 2, none⟩) 2 2) [(1, 0), (2, 0)] := by
  have g : ∀ k m vs, (([.int .i64 3, .int .i64 0, .int .i64 1, .int .i64 0, .int .i64 2, .int .i64 0] : List Value).drop k).take m = vs → k + m ≤ 6 → getc H ⟨b, k, none⟩ m = some vs := fun k m vs e hl => by
    unfold getc
    simp only [h]
    rw [if_pos ⟨trivial, hl⟩, e]
  refine ⟨.inr ⟨⟨b, 0, none⟩, 3, rfl, fun i hi => ?_⟩, .inr ⟨⟨b, 2, none⟩, 2, rfl, fun i hi => ?_⟩⟩
  · match i, hi with
    | 0, _ => exact g 0 2 _ rfl (by decide)
    | 1, _ => exact g 2 2 _ rfl (by decide)
    | 2, _ => exact g 4 2 _ rfl (by decide)
  · match i, hi with
    | 0, _ => exact g 2 2 _ rfl (by decide)
    | 1, _ => exact g 4 2 _ rfl (by decide)
set_option maxRecDepth 20000 in
set_option maxHeartbeats 16000000 in
theorem law (W0 : World) {nx : Nat} {H : Heap} {same final : Bool} :
    ACalls Try.prog W0 7 [.bool same, .bool final] nx H fun v _ _ => v = .bool true := by
  refine ACalls.by_trip (fn := Try.f7) (c := _) Try.func7 rfl (fun tm n hn0 htm => ?_)
  have e0 : tm 0 = .bool same := htm 0
  have e1 : tm 1 = .bool final := htm 1
  clear htm
  replace hn0 : n = 80 := hn0
  repeat (first | (refine OpsL.q (by exact oasg) ?_) | (refine Trip.seq ?_) | (refine Trip.ops ?_) | (refine OpsL.nil ?_; (change Trip _ _ _ _ _)))
  refine OpsL.c0 (hf := entersKnown13) (hc := (knownC W0)) (h := ?_)
  rintro v0 nx0 H0 ⟨rfl, hx0⟩
  dsimp only
  clear hx0
  repeat (first | (refine OpsL.q (by exact onot) ?_) | (refine OpsL.nil ?_; (change Trip _ _ _ _ _)))
  refine Trip.ifF ?_
  repeat (first | (refine Trip.seq ?_) | (refine Trip.ops ?_) | (refine Trip.skip ?_; (change Trip _ _ _ _ _)))
  obtain ⟨σ', hs1, hs2⟩ : ∃ σ' : CH, σ'.nx = nx0 ∧ σ'.H = H0 := ⟨⟨nx0, fun _ => .old, H0⟩, rfl, rfl⟩
  rw [← hs1, ← hs2]
  clear hs1 hs2
  refine OpsL.newC .tmp (aop_buildSlice (l := [(0, .int .i64 0), (1, .int .i64 0), (2, .int .i64 0), (3, .int .i64 1)]) (r := (.slice (some ⟨σ'.nx, 0, none⟩) 4 4, .new (.cells [.int .i64 0, .int .i64 0, .int .i64 0, .int .i64 1] 1 none false (some 3)))) (by simp [evParts, ASt.ev, tmPut, Am.plainC, plain1, *]) (by exact rfl)) (by subst_vars; decide) ?_
  intro σ1 ho xo
  obtain ⟨bo, qo⟩ : ∃ b, σ'.nx = b := ⟨_, rfl⟩
  rw [qo] at ho ⊢
  clear qo
  clear xo
  refine OpsL.newC .tmp (aop_buildSlice (l := [(0, .int .i64 0), (1, .int .i64 3)]) (r := (.slice (some ⟨σ1.nx, 0, none⟩) 2 2, .new (.cells [.int .i64 0, .int .i64 3] 1 none false (some 3)))) (by simp [evParts, ASt.ev, tmPut, Am.plainC, plain1, *]) (by exact rfl)) (by subst_vars; decide) ?_
  intro σ2 he xe
  obtain ⟨be, qe⟩ : ∃ b, σ1.nx = b := ⟨_, rfl⟩
  rw [qe] at he ⊢
  clear qe
  replace ho := ho.keep xe (by simp)
  clear xe
  repeat (first | (refine OpsL.q (by first | exact omv | exact onot) ?_))
  refine OpsL.newC .tmp (aop_buildSlice (l := [(0, .bool final), (1, .bool final), (2, .bool !final), (3, .bool false)]) (r := (.slice (some ⟨σ2.nx, 0, none⟩) 4 4, .new (.cells [.bool final, .bool final, .bool !final, .bool false] 1 none false (some 4)))) (by simp [evParts, ASt.ev, tmPut, Am.plainC, plain1, *]) (by exact rfl)) (by subst_vars; decide) ?_
  intro σ3 hf xf
  obtain ⟨bf, qf⟩ : ∃ b, σ2.nx = b := ⟨_, rfl⟩
  rw [qf] at hf ⊢
  clear qf
  replace ho := ho.keep xf (by simp)
  replace he := he.keep xf (by simp)
  clear xf
  refine OpsL.newC .tmp (aop_buildSlice (l := [(0, .int .i64 1)]) (r := (.slice (some ⟨σ3.nx, 0, none⟩) 1 1, .new (.cells [.int .i64 1] 1 none false (some 3)))) (by simp [evParts, ASt.ev, tmPut, Am.plainC, plain1, *]) (by exact rfl)) (by subst_vars; decide) ?_
  intro σ4 hi0 xi0
  obtain ⟨bi0, qi0⟩ : ∃ b, σ3.nx = b := ⟨_, rfl⟩
  rw [qi0] at hi0 ⊢
  clear qi0
  replace ho := ho.keep xi0 (by simp)
  replace he := he.keep xi0 (by simp)
  replace hf := hf.keep xi0 (by simp)
  clear xi0
  refine OpsL.newC .tmp (aop_buildSlice (l := [(0, .int .i64 0)]) (r := (.slice (some ⟨σ4.nx, 0, none⟩) 1 1, .new (.cells [.int .i64 0] 1 none false (some 3)))) (by simp [evParts, ASt.ev, tmPut, Am.plainC, plain1, *]) (by exact rfl)) (by subst_vars; decide) ?_
  intro σ5 hi1 xi1
  obtain ⟨bi1, qi1⟩ : ∃ b, σ4.nx = b := ⟨_, rfl⟩
  rw [qi1] at hi1 ⊢
  clear qi1
  replace ho := ho.keep xi1 (by simp)
  replace he := he.keep xi1 (by simp)
  replace hf := hf.keep xi1 (by simp)
  replace hi0 := hi0.keep xi1 (by simp)
  clear xi1
  refine OpsL.newC .tmp (aop_buildSlice (l := [(0, .int .i64 2)]) (r := (.slice (some ⟨σ5.nx, 0, none⟩) 1 1, .new (.cells [.int .i64 2] 1 none false (some 3)))) (by simp [evParts, ASt.ev, tmPut, Am.plainC, plain1, *]) (by exact rfl)) (by subst_vars; decide) ?_
  intro σ6 hi2 xi2
  obtain ⟨bi2, qi2⟩ : ∃ b, σ5.nx = b := ⟨_, rfl⟩
  rw [qi2] at hi2 ⊢
  clear qi2
  replace ho := ho.keep xi2 (by simp)
  replace he := he.keep xi2 (by simp)
  replace hf := hf.keep xi2 (by simp)
  replace hi0 := hi0.keep xi2 (by simp)
  replace hi1 := hi1.keep xi2 (by simp)
  clear xi2
  refine OpsL.newC .tmp (aop_buildSlice (l := [(0, .int .i64 3)]) (r := (.slice (some ⟨σ6.nx, 0, none⟩) 1 1, .new (.cells [.int .i64 3] 1 none false (some 3)))) (by simp [evParts, ASt.ev, tmPut, Am.plainC, plain1, *]) (by exact rfl)) (by subst_vars; decide) ?_
  intro σ7 hi3 xi3
  obtain ⟨bi3, qi3⟩ : ∃ b, σ6.nx = b := ⟨_, rfl⟩
  rw [qi3] at hi3 ⊢
  clear qi3
  replace ho := ho.keep xi3 (by simp)
  replace he := he.keep xi3 (by simp)
  replace hf := hf.keep xi3 (by simp)
  replace hi0 := hi0.keep xi3 (by simp)
  replace hi1 := hi1.keep xi3 (by simp)
  replace hi2 := hi2.keep xi3 (by simp)
  clear xi3
  refine OpsL.newC .tmp (aop_buildSlice (l := [(0, .slice (some ⟨bi0, 0, none⟩) 1 1), (1, .slice (some ⟨bi1, 0, none⟩) 1 1), (2, .slice (some ⟨bi2, 0, none⟩) 1 1), (3, .slice (some ⟨bi3, 0, none⟩) 1 1)]) (r := (.slice (some ⟨σ7.nx, 0, none⟩) 4 4, .new (.cells [.slice (some ⟨bi0, 0, none⟩) 1 1, .slice (some ⟨bi1, 0, none⟩) 1 1, .slice (some ⟨bi2, 0, none⟩) 1 1, .slice (some ⟨bi3, 0, none⟩) 1 1] 1 none false (some 22)))) (by simp [evParts, ASt.ev, tmPut, Am.plainC, plain1, *]) (by exact rfl)) (by subst_vars; decide) ?_
  intro σ8 hin xin
  obtain ⟨bin, qin⟩ : ∃ b, σ7.nx = b := ⟨_, rfl⟩
  rw [qin] at hin ⊢
  clear qin
  replace ho := ho.keep xin (by simp)
  replace he := he.keep xin (by simp)
  replace hf := hf.keep xin (by simp)
  replace hi0 := hi0.keep xin (by simp)
  replace hi1 := hi1.keep xin (by simp)
  replace hi2 := hi2.keep xin (by simp)
  replace hi3 := hi3.keep xin (by simp)
  clear xin
  refine OpsL.newC .tmp (aop_buildSlice (l := [(0, .int .i64 0)]) (r := (.slice (some ⟨σ8.nx, 0, none⟩) 1 1, .new (.cells [.int .i64 0] 1 none false (some 3)))) (by simp [evParts, ASt.ev, tmPut, Am.plainC, plain1, *]) (by exact rfl)) (by subst_vars; decide) ?_
  intro σ9 hl0 xl0
  obtain ⟨bl0, ql0⟩ : ∃ b, σ8.nx = b := ⟨_, rfl⟩
  rw [ql0] at hl0 ⊢
  clear ql0
  replace ho := ho.keep xl0 (by simp)
  replace he := he.keep xl0 (by simp)
  replace hf := hf.keep xl0 (by simp)
  replace hi0 := hi0.keep xl0 (by simp)
  replace hi1 := hi1.keep xl0 (by simp)
  replace hi2 := hi2.keep xl0 (by simp)
  replace hi3 := hi3.keep xl0 (by simp)
  replace hin := hin.keep xl0 (by simp)
  clear xl0
  refine OpsL.newC .tmp (aop_buildSlice (l := [(0, .int .i64 0)]) (r := (.slice (some ⟨σ9.nx, 0, none⟩) 1 1, .new (.cells [.int .i64 0] 1 none false (some 3)))) (by simp [evParts, ASt.ev, tmPut, Am.plainC, plain1, *]) (by exact rfl)) (by subst_vars; decide) ?_
  intro σ10 hl1 xl1
  obtain ⟨bl1, ql1⟩ : ∃ b, σ9.nx = b := ⟨_, rfl⟩
  rw [ql1] at hl1 ⊢
  clear ql1
  replace ho := ho.keep xl1 (by simp)
  replace he := he.keep xl1 (by simp)
  replace hf := hf.keep xl1 (by simp)
  replace hi0 := hi0.keep xl1 (by simp)
  replace hi1 := hi1.keep xl1 (by simp)
  replace hi2 := hi2.keep xl1 (by simp)
  replace hi3 := hi3.keep xl1 (by simp)
  replace hin := hin.keep xl1 (by simp)
  replace hl0 := hl0.keep xl1 (by simp)
  clear xl1
  refine OpsL.newC .tmp (aop_buildSlice (l := [(0, .int .i64 2)]) (r := (.slice (some ⟨σ10.nx, 0, none⟩) 1 1, .new (.cells [.int .i64 2] 1 none false (some 3)))) (by simp [evParts, ASt.ev, tmPut, Am.plainC, plain1, *]) (by exact rfl)) (by subst_vars; decide) ?_
  intro σ11 hl2 xl2
  obtain ⟨bl2, ql2⟩ : ∃ b, σ10.nx = b := ⟨_, rfl⟩
  rw [ql2] at hl2 ⊢
  clear ql2
  replace ho := ho.keep xl2 (by simp)
  replace he := he.keep xl2 (by simp)
  replace hf := hf.keep xl2 (by simp)
  replace hi0 := hi0.keep xl2 (by simp)
  replace hi1 := hi1.keep xl2 (by simp)
  replace hi2 := hi2.keep xl2 (by simp)
  replace hi3 := hi3.keep xl2 (by simp)
  replace hin := hin.keep xl2 (by simp)
  replace hl0 := hl0.keep xl2 (by simp)
  replace hl1 := hl1.keep xl2 (by simp)
  clear xl2
  refine OpsL.newC .tmp (aop_buildSlice (l := [(0, .slice (some ⟨bl0, 0, none⟩) 1 1), (1, .slice (some ⟨bl1, 0, none⟩) 1 1), (2, .slice (some ⟨bl2, 0, none⟩) 1 1), (3, .slice none 0 0)]) (r := (.slice (some ⟨σ11.nx, 0, none⟩) 4 4, .new (.cells [.slice (some ⟨bl0, 0, none⟩) 1 1, .slice (some ⟨bl1, 0, none⟩) 1 1, .slice (some ⟨bl2, 0, none⟩) 1 1, .slice none 0 0] 1 none false (some 22)))) (by simp [evParts, ASt.ev, tmPut, Am.plainC, plain1, *]) (by exact rfl)) (by subst_vars; decide) ?_
  intro σ12 hlo xlo
  obtain ⟨blo, qlo⟩ : ∃ b, σ11.nx = b := ⟨_, rfl⟩
  rw [qlo] at hlo ⊢
  clear qlo
  replace ho := ho.keep xlo (by simp)
  replace he := he.keep xlo (by simp)
  replace hf := hf.keep xlo (by simp)
  replace hi0 := hi0.keep xlo (by simp)
  replace hi1 := hi1.keep xlo (by simp)
  replace hi2 := hi2.keep xlo (by simp)
  replace hi3 := hi3.keep xlo (by simp)
  replace hin := hin.keep xlo (by simp)
  replace hl0 := hl0.keep xlo (by simp)
  replace hl1 := hl1.keep xlo (by simp)
  replace hl2 := hl2.keep xlo (by simp)
  clear xlo
  refine OpsL.newC .next (aop_buildSlice (l := [(0, .int .i64 0), (1, .int .i64 2), (2, .int .i64 2), (3, .int .i64 3)]) (r := (.slice (some ⟨σ12.nx, 0, none⟩) 4 4, .new (.cells [.int .i64 0, .int .i64 2, .int .i64 2, .int .i64 3] 1 none false (some 3)))) (by simp [evParts, ASt.ev, tmPut, Am.plainC, plain1, *]) (by exact rfl)) (by subst_vars; decide) ?_
  intro σ13 hr0 xr0
  obtain ⟨br0, qr0⟩ : ∃ b, σ12.nx = b := ⟨_, rfl⟩
  rw [qr0] at hr0 ⊢
  clear qr0
  replace ho := ho.keep xr0 (by simp)
  replace he := he.keep xr0 (by simp)
  replace hf := hf.keep xr0 (by simp)
  replace hi0 := hi0.keep xr0 (by simp)
  replace hi1 := hi1.keep xr0 (by simp)
  replace hi2 := hi2.keep xr0 (by simp)
  replace hi3 := hi3.keep xr0 (by simp)
  replace hin := hin.keep xr0 (by simp)
  replace hl0 := hl0.keep xr0 (by simp)
  replace hl1 := hl1.keep xr0 (by simp)
  replace hl2 := hl2.keep xr0 (by simp)
  replace hlo := hlo.keep xr0 (by simp)
  clear xr0
  refine OpsL.newC .tmp (aop_buildSlice (l := [(0, .slice (some ⟨br0, 0, none⟩) 4 4)]) (r := (.slice (some ⟨σ13.nx, 0, none⟩) 1 1, .new (.cells [.slice (some ⟨br0, 0, none⟩) 4 4] 1 none false (some 22)))) (by simp [evParts, ASt.ev, tmPut, Am.plainC, plain1, *]) (by exact rfl)) (by subst_vars; decide) ?_
  intro σ14 hr1 xr1
  obtain ⟨br1, qr1⟩ : ∃ b, σ13.nx = b := ⟨_, rfl⟩
  rw [qr1] at hr1 ⊢
  clear qr1
  replace ho := ho.keep xr1 (by simp)
  replace he := he.keep xr1 (by simp)
  replace hf := hf.keep xr1 (by simp)
  replace hi0 := hi0.keep xr1 (by simp)
  replace hi1 := hi1.keep xr1 (by simp)
  replace hi2 := hi2.keep xr1 (by simp)
  replace hi3 := hi3.keep xr1 (by simp)
  replace hin := hin.keep xr1 (by simp)
  replace hl0 := hl0.keep xr1 (by simp)
  replace hl1 := hl1.keep xr1 (by simp)
  replace hl2 := hl2.keep xr1 (by simp)
  replace hlo := hlo.keep xr1 (by simp)
  replace hr0 := hr0.keep xr1 (by simp)
  clear xr1
  refine OpsL.newC .tmp (aop_buildSlice (l := [(0, .slice none 0 0), (1, .slice none 0 0), (2, .slice none 0 0), (3, .slice (some ⟨br1, 0, none⟩) 1 1)]) (r := (.slice (some ⟨σ14.nx, 0, none⟩) 4 4, .new (.cells [.slice none 0 0, .slice none 0 0, .slice none 0 0, .slice (some ⟨br1, 0, none⟩) 1 1] 1 none false (some 26)))) (by simp [evParts, ASt.ev, tmPut, Am.plainC, plain1, *]) (by exact rfl)) (by subst_vars; decide) ?_
  intro σ15 hre xre
  obtain ⟨bre, qre⟩ : ∃ b, σ14.nx = b := ⟨_, rfl⟩
  rw [qre] at hre ⊢
  clear qre
  replace ho := ho.keep xre (by simp)
  replace he := he.keep xre (by simp)
  replace hf := hf.keep xre (by simp)
  replace hi0 := hi0.keep xre (by simp)
  replace hi1 := hi1.keep xre (by simp)
  replace hi2 := hi2.keep xre (by simp)
  replace hi3 := hi3.keep xre (by simp)
  replace hin := hin.keep xre (by simp)
  replace hl0 := hl0.keep xre (by simp)
  replace hl1 := hl1.keep xre (by simp)
  replace hl2 := hl2.keep xre (by simp)
  replace hlo := hlo.keep xre (by simp)
  replace hr0 := hr0.keep xre (by simp)
  replace hr1 := hr1.keep xre (by simp)
  clear xre
  refine OpsL.p (by subst_vars; decide) (aop_build (l := [(0, .int .i64 1), (1, .int .i64 1), (2, .slice (some ⟨bo, 0, none⟩) 4 4), (3, .slice (some ⟨be, 0, none⟩) 2 2), (4, .slice (some ⟨bf, 0, none⟩) 4 4), (5, .slice (some ⟨bin, 0, none⟩) 4 4), (6, .slice (some ⟨blo, 0, none⟩) 4 4), (7, .slice (some ⟨bre, 0, none⟩) 4 4)]) (v := .agg (moV (pm 2 final) ⟨.slice (some ⟨bo, 0, none⟩) 4 4, .slice (some ⟨be, 0, none⟩) 2 2, .slice (some ⟨bf, 0, none⟩) 4 4, .slice (some ⟨bin, 0, none⟩) 4 4, .slice (some ⟨blo, 0, none⟩) 4 4, .slice (some ⟨bre, 0, none⟩) 4 4⟩).toArray) (by simp [evParts, ASt.ev, tmPut, Am.plainC, plain1, *]) (by kernel_rfl)) ?_
  refine OpsL.newC .self (aop_alloc (l := moV noMo nilV) (by exact rfl)) (by subst_vars; decide) ?_
  intro σ16 hA xA
  obtain ⟨bA, qA⟩ : ∃ b, σ15.nx = b := ⟨_, rfl⟩
  rw [qA] at hA ⊢
  clear qA
  replace ho := ho.keep xA (by simp)
  replace he := he.keep xA (by simp)
  replace hf := hf.keep xA (by simp)
  replace hi0 := hi0.keep xA (by simp)
  replace hi1 := hi1.keep xA (by simp)
  replace hi2 := hi2.keep xA (by simp)
  replace hi3 := hi3.keep xA (by simp)
  replace hin := hin.keep xA (by simp)
  replace hl0 := hl0.keep xA (by simp)
  replace hl1 := hl1.keep xA (by simp)
  replace hl2 := hl2.keep xA (by simp)
  replace hlo := hlo.keep xA (by simp)
  replace hr0 := hr0.keep xA (by simp)
  replace hr1 := hr1.keep xA (by simp)
  replace hre := hre.keep xA (by simp)
  clear xA
  refine OpsL.setAllC (vs := moV (pm 2 final) ⟨.slice (some ⟨bo, 0, none⟩) 4 4, .slice (some ⟨be, 0, none⟩) 2 2, .slice (some ⟨bf, 0, none⟩) 4 4, .slice (some ⟨bin, 0, none⟩) 4 4, .slice (some ⟨blo, 0, none⟩) 4 4, .slice (some ⟨bre, 0, none⟩) 4 4⟩) hA (by exact rfl) rfl rfl rfl (by (first | (simp only [ASt.ev, tmPut, ↓reduceIte, Nat.reduceEqDiff, *]; done))) (by (first | (simp only [ASt.ev, tmPut, ↓reduceIte, Nat.reduceEqDiff, *]; done))) ?_
  intro σ17 hA2 xA
  clear hA
  have hA := hA2
  clear hA2
  replace ho := ho.keep xA (by simp)
  replace he := he.keep xA (by simp)
  replace hf := hf.keep xA (by simp)
  replace hi0 := hi0.keep xA (by simp)
  replace hi1 := hi1.keep xA (by simp)
  replace hi2 := hi2.keep xA (by simp)
  replace hi3 := hi3.keep xA (by simp)
  replace hin := hin.keep xA (by simp)
  replace hl0 := hl0.keep xA (by simp)
  replace hl1 := hl1.keep xA (by simp)
  replace hl2 := hl2.keep xA (by simp)
  replace hlo := hlo.keep xA (by simp)
  replace hr0 := hr0.keep xA (by simp)
  replace hr1 := hr1.keep xA (by simp)
  replace hre := hre.keep xA (by simp)
  clear xA
  refine OpsL.nil ?_
  (change Trip _ _ _ _ _)
  repeat (first | (refine OpsL.q (by exact omv) ?_) | (refine Trip.seq ?_) | (refine Trip.ops ?_) | (refine OpsL.nil ?_; (change Trip _ _ _ _ _)))
  cases same
  · refine Trip.ifF ?_
    have hm : MoIn σ17.H (pm 2 final) ⟨.slice (some ⟨bo, 0, none⟩) 4 4, .slice (some ⟨be, 0, none⟩) 2 2, .slice (some ⟨bf, 0, none⟩) 4 4, .slice (some ⟨bin, 0, none⟩) 4 4, .slice (some ⟨blo, 0, none⟩) 4 4, .slice (some ⟨bre, 0, none⟩) 4 4⟩ := by
      refine ⟨ints_of (l := [0, 0, 0, 1]) ho.2.2 rfl, ints_of (l := [0, 3]) he.2.2 rfl, bools_of (l := [final, final, !final, false]) hf.2.2 rfl, listAt_of (l := [[1], [0], [2], [3]]) hin.2.2 rfl rfl (fun i h1 _ => ?_), listAt_of (l := [[0], [0], [2], []]) hlo.2.2 rfl rfl (fun i h1 _ => ?_), listAt_of (l := [[], [], [], [[0, 2, 2, 3]]]) hre.2.2 rfl rfl (fun i h1 _ => ?_)⟩
      · match i, h1 with
        | 0, _ => exact ints_of (l := [1]) hi0.2.2 rfl
        | 1, _ => exact ints_of (l := [0]) hi1.2.2 rfl
        | 2, _ => exact ints_of (l := [2]) hi2.2.2 rfl
        | 3, _ => exact ints_of (l := [3]) hi3.2.2 rfl
      · match i, h1 with
        | 0, _ => exact ints_of (l := [0]) hl0.2.2 rfl
        | 1, _ => exact ints_of (l := [0]) hl1.2.2 rfl
        | 2, _ => exact ints_of (l := [2]) hl2.2.2 rfl
        | 3, _ => exact nones2
      · match i, h1 with
        | 0, _ => exact nones3
        | 1, _ => exact nones3
        | 2, _ => exact nones3
        | 3, _ => exact listAt_of (l := [[0, 2, 2, 3]]) hr1.2.2 rfl rfl (fun i h1 _ => by
            match i, h1 with
            | 0, _ => exact ints_of (l := [0, 2, 2, 3]) hr0.2.2 rfl)
    have cA : getc σ17.H ⟨bA, 0, none⟩ 8 = some (moV (pm 2 final) ⟨.slice (some ⟨bo, 0, none⟩) 4 4, .slice (some ⟨be, 0, none⟩) 2 2, .slice (some ⟨bf, 0, none⟩) 4 4, .slice (some ⟨bin, 0, none⟩) 4 4, .slice (some ⟨blo, 0, none⟩) 4 4, .slice (some ⟨bre, 0, none⟩) 4 4⟩) := getc_all (m := 8) hA.2.2 rfl
    clear ho he hf hi0 hi1 hi2 hi3 hin hl0 hl1 hl2 hlo hr0 hr1 hre hA
    have hmod := modF_iff.1 (pm_m2 final)
    refine Trip.ok fun hok => ?_
    replace hok : ∀ id o, σ17.H id = some o → id < σ17.nx := hok
    have FA : ∀ {N : Nat} {H' : Heap}, Ext σ17.nx σ17.H N H' → getc H' ⟨bA, 0, none⟩ 8 = some (moV (pm 2 final) ⟨.slice (some ⟨bo, 0, none⟩) 4 4, .slice (some ⟨be, 0, none⟩) 2 2, .slice (some ⟨bf, 0, none⟩) 4 4, .slice (some ⟨bin, 0, none⟩) 4 4, .slice (some ⟨blo, 0, none⟩) 4 4, .slice (some ⟨bre, 0, none⟩) 4 4⟩) ∧ MoIn H' (pm 2 final) ⟨.slice (some ⟨bo, 0, none⟩) 4 4, .slice (some ⟨be, 0, none⟩) 2 2, .slice (some ⟨bf, 0, none⟩) 4 4, .slice (some ⟨bin, 0, none⟩) 4 4, .slice (some ⟨blo, 0, none⟩) 4 4, .slice (some ⟨bre, 0, none⟩) 4 4⟩ := fun h => ⟨getc_ext h hok cA, hm.ext h hok⟩
    clear hok cA hm
    generalize (⟨.slice (some ⟨bo, 0, none⟩) 4 4, .slice (some ⟨be, 0, none⟩) 2 2, .slice (some ⟨bf, 0, none⟩) 4 4, .slice (some ⟨bin, 0, none⟩) 4 4, .slice (some ⟨blo, 0, none⟩) 4 4, .slice (some ⟨bre, 0, none⟩) 4 4⟩ : MoV) = V at FA
    repeat (first | (refine Trip.seq ?_) | (refine Trip.ops ?_) | (refine Trip.skip ?_; (change Trip _ _ _ _ _)))
    refine OpsL.p (by subst_vars; decide) (aop_loadAgg (k := 8) (by (first | (simp only [ASt.ev, tmPut, ↓reduceIte, Nat.reduceEqDiff, *]; done))) (by exact rfl) rfl (by exact rfl) (FA Ext.refl).1) ?_
    refine OpsL.c1 (hf := entersFClasses) (hc := (fClassesC W0 (FA Ext.refl).2 hmod.lens hmod)) (h := ?_)
    rintro v2 N5 H5 ⟨⟨c, c1, c2, rfl, c4⟩, z5⟩
    rw [pm_c2] at c4 ⊢
    change OpsL _ _ _ _ ⟨tmPut _ _ (.slice (some ⟨c, 0, none⟩) 4 4), _, _, _⟩ _
    repeat (first | (refine OpsL.q (by first | exact oasg | exact omv | exact olen) ?_) | (refine Trip.seq ?_) | (refine Trip.ops ?_) | (refine OpsL.nil ?_; (change Trip _ _ _ _ _)))
    refine OpsL.neqF ?_ (c := rfl)
    repeat (first | (refine OpsL.nil ?_; (change Trip _ _ _ _ _)))
    refine Trip.ifF ?_
    repeat (first | (refine Trip.seq ?_) | (refine Trip.ops ?_) | (refine Trip.skip ?_; (change Trip _ _ _ _ _)))
    refine OpsL.p (by subst_vars; decide) (aop_build (l := [(0, .int .i64 3)]) (v := .agg #[.int .i64 3, .int .i64 0]) (by simp [evParts, ASt.ev, tmPut, Am.plainC, plain1, *]) (by kernel_rfl)) ?_
    refine OpsL.p (by subst_vars; decide) (aop_build (l := [(0, .int .i64 1)]) (v := .agg #[.int .i64 1, .int .i64 0]) (by simp [evParts, ASt.ev, tmPut, Am.plainC, plain1, *]) (by kernel_rfl)) ?_
    refine OpsL.p (by subst_vars; decide) (aop_build (l := [(0, .int .i64 2)]) (v := .agg #[.int .i64 2, .int .i64 0]) (by simp [evParts, ASt.ev, tmPut, Am.plainC, plain1, *]) (by kernel_rfl)) ?_
    refine OpsL.new (by subst_vars; decide) (aop_buildSlice (l := [(0, .agg #[.int .i64 3, .int .i64 0]), (1, .agg #[.int .i64 1, .int .i64 0]), (2, .agg #[.int .i64 2, .int .i64 0])]) (r := (.slice (some ⟨N5, 0, none⟩) 3 3, .new (.cells [.int .i64 3, .int .i64 0, .int .i64 1, .int .i64 0, .int .i64 2, .int .i64 0] 2 none false (some 50)))) (by simp [evParts, ASt.ev, tmPut, Am.plainC, plain1, *]) (by exact rfl)) ?_
    have y5 : Ext N5 H5 (N5 + 1) (H5.put N5 (.cells [.int .i64 3, .int .i64 0, .int .i64 1, .int .i64 0, .int .i64 2, .int .i64 0] 2 none false (some 50))) := Ext.newPut
    have hw0 : (H5.put N5 (.cells [.int .i64 3, .int .i64 0, .int .i64 1, .int .i64 0, .int .i64 2, .int .i64 0] 2 none false (some 50))) N5 = some (.cells [.int .i64 3, .int .i64 0, .int .i64 1, .int .i64 0, .int .i64 2, .int .i64 0] 2 none false (some 50)) := Heap.put_eq
    generalize (H5.put N5 (.cells [.int .i64 3, .int .i64 0, .int .i64 1, .int .i64 0, .int .i64 2, .int .i64 0] 2 none false (some 50))) = H6 at y5 hw0 ⊢
    have z6 := z5.trans y5
    have c5 : H6 c = _ := (y5.2 c c2).trans c4
    repeat (first | (refine OpsL.q (by first | exact oasg | exact omv) ?_) | (refine Trip.seq ?_) | (refine Trip.ops ?_) | (refine OpsL.nil ?_; (change Trip _ _ _ _ _)))
    refine OpsL.p (by subst_vars; decide) (aop_slice (by (first | (simp only [ASt.ev, tmPut, ↓reduceIte, Nat.reduceEqDiff, *]; done))) (by exact rfl) rfl rfl (aSlice_plain (l := 1) (h := 3) (sz := 2) (a := ⟨N5, 0, none⟩) (len := 3) (cap := 3) (by exact rfl) (by exact rfl) hw0 rfl rfl (.inr ⟨.i64, rfl⟩) (.inl ⟨rfl, rfl⟩) (by omega) (by omega))) ?_
    change OpsL _ _ _ _ ⟨tmPut _ _ (.slice (some ⟨N5, 2, none⟩) 2 2), _, _, _⟩ _
    have hcl : c < N5 + 1 := Nat.lt_succ_of_lt c2
    have FW : ∀ {N : Nat} {H' : Heap}, Ext (N5 + 1) H6 N H' → (RowsAt encPr 2 H' (.slice (some ⟨N5, 0, none⟩) 3 3) [(3, 0), (1, 0), (2, 0)] ∧ RowsAt encPr 2 H' (.slice (some ⟨N5, 2, none⟩) 2 2) [(1, 0), (2, 0)]) ∧ cellAt H' ⟨c, 0 + (0 : Int).toNat * 1, none⟩ (.int .i64 0) ∧ cellAt H' ⟨c, 0 + (1 : Int).toNat * 1, none⟩ (.int .i64 1) := fun h => ⟨words ((h.2 _ (Nat.lt_succ_self _)).trans hw0), cell_of ((h.2 c hcl).trans c5) rfl, cell_of ((h.2 c hcl).trans c5) rfl⟩
    clear hw0 c4 c5 y5 z5
    repeat (first | (refine OpsL.q (by exact oasg) ?_) | (refine Trip.seq ?_) | (refine OpsL.nil ?_; (change Trip _ _ _ _ _)))
    refine Trip.mono (Q := fun e st => e = .normal ∧ ∃ (tm' : Nat → Value) (nx' : Nat) (H' : Heap), st = ⟨tm', n, H', nx'⟩ ∧ tm' 4 = .bool true) ?_ ?_
    · refine OpsQ.drawn [1, 17, 24, 28] (K := fun _ _ _ => True) mixed13 (by kernel_rfl) (by kernel_rfl) [0, 1, 2, 3, 4, 5, 6, 7, 8, 9, 10, 11, 12, 13, 14, 15, 16, 18, 17, 19, 20, 21, 22, 23, 25, 26, 27, 24, 28, 29, 30] (by kernel_rfl) (fun _ _ => trivial) ?_
      refine OpsQ.one rfl rfl rfl (by kernel_rfl) ?_
      refine OpsL.p (by subst_vars; decide) (aop_loadAgg (k := 8) (by (first | (simp only [ASt.ev, tmPut, ↓reduceIte, Nat.reduceEqDiff, *]; done))) (by exact rfl) rfl (by exact rfl) (FA z6).1) ?_
      refine OpsL.nil ?_
      refine OpsQ.act (by kernel_rfl) (ActStep.walk rfl rfl ?_)
      refine OpsL.c1 (hf := entersFCheck) (hc := (fcheckC W0 (FA z6).2 hmod.lens)) (h := ?_)
      rintro v5 N7 H7 ⟨rfl, z7⟩
      rw [modF_iff.2 hmod, if_pos rfl]
      refine OpsL.nil ⟨fun _ _ => trivial, ?_⟩
      have g0 := (FW z7).2.1
      have g1 := (FW z7).2.2
      refine OpsQ.one rfl rfl rfl (by kernel_rfl) ?_
      refine OpsL.eqlT ?_ (c := rfl)
      refine OpsL.nil ?_
      refine OpsQ.one rfl rfl rfl (by kernel_rfl) ?_
      repeat (first | (refine OpsL.q (by exact omv) ?_) | (refine OpsL.nil ?_; (skip)))
      refine OpsQ.one rfl rfl rfl (by kernel_rfl) ?_
      repeat (first | (refine OpsL.q (by exact omv) ?_) | (refine OpsL.nil ?_; (skip)) | (refine OpsL.ung ?_))
      refine OpsQ.one rfl rfl rfl (by kernel_rfl) ?_
      repeat (first | (refine OpsL.q (by exact oixa) ?_) | (refine OpsL.nil ?_; (dsimp only)) | (refine OpsL.ung ?_))
      refine OpsQ.one rfl rfl rfl (by kernel_rfl) ?_
      repeat (first | (refine OpsL.q (by exact old) ?_) | (refine OpsL.nil ?_; (skip)) | (refine OpsL.ung ?_))
      refine OpsQ.one rfl rfl rfl (by kernel_rfl) ?_
      repeat (first | (refine OpsL.q (by exact omv) ?_) | (refine OpsL.nil ?_; (skip)) | (refine OpsL.ung ?_))
      refine OpsQ.one rfl rfl rfl (by kernel_rfl) ?_
      repeat (first | (refine OpsL.q (by exact oixa) ?_) | (refine OpsL.nil ?_; (dsimp only)) | (refine OpsL.ung ?_))
      refine OpsQ.one rfl rfl rfl (by kernel_rfl) ?_
      repeat (first | (refine OpsL.q (by exact old) ?_) | (refine OpsL.nil ?_; (skip)) | (refine OpsL.ung ?_))
      refine OpsQ.one rfl rfl rfl (by kernel_rfl) ?_
      refine OpsL.ung ?_
      refine OpsL.eqlF ?_ (c := by decide)
      refine OpsL.nil ?_
      refine OpsQ.one rfl rfl rfl (by kernel_rfl) ?_
      repeat (first | (refine OpsL.q (by exact omv) ?_) | (refine OpsL.nil ?_; (skip)) | (refine OpsL.ung ?_))
      refine OpsQ.one rfl rfl rfl (by kernel_rfl) ?_
      refine OpsL.ung ?_
      refine OpsL.p (by subst_vars; decide) (aop_eqlB (a := false) (b := false) (by (first | (simp only [ASt.ev, tmPut, ↓reduceIte, Nat.reduceEqDiff, *]; done))) (by (first | (simp only [ASt.ev, tmPut, ↓reduceIte, Nat.reduceEqDiff, *]; done))) (by exact rfl)) ?_
      rw [beq_self_eq_true]
      refine OpsL.nil ?_
      refine OpsQ.one rfl rfl rfl (by kernel_rfl) ?_
      repeat (first | (refine OpsL.q (by exact opkT) ?_) | (refine OpsL.nil ?_; (skip)))
      refine OpsQ.one rfl rfl rfl (by kernel_rfl) ?_
      repeat (first | (refine OpsL.q (by exact omv) ?_) | (refine OpsL.nil ?_; (skip)))
      refine OpsQ.one rfl rfl rfl (by kernel_rfl) ?_
      refine OpsL.ung ?_
      refine OpsL.p (by subst_vars; decide) (aop_loadAgg (k := 8) (by (first | (simp only [ASt.ev, tmPut, ↓reduceIte, Nat.reduceEqDiff, *]; done))) (by exact rfl) rfl (by exact rfl) (FA (z6.trans z7)).1) ?_
      refine OpsL.nil ?_
      refine OpsQ.one rfl rfl rfl (by kernel_rfl) ?_
      repeat (first | (refine OpsL.q (by exact omv) ?_) | (refine OpsL.nil ?_; (skip)) | (refine OpsL.ung ?_))
      refine OpsQ.one rfl rfl rfl (by kernel_rfl) ?_
      repeat (first | (refine OpsL.q (by exact omv) ?_) | (refine OpsL.nil ?_; (skip)) | (refine OpsL.ung ?_))
      refine OpsQ.act (by kernel_rfl) (ActStep.walk rfl rfl ?_)
      refine OpsL.ung ?_
      refine OpsL.c2 (hf := entersFTakes) (hc := (fTakesC W0 (FA (z6.trans z7)).2 hmod.lens hmod (FW z7).1.2 (by simp))) (h := ?_)
      rintro v6 N8 H8 ⟨rfl, z8⟩
      rw [pm_v2]
      refine OpsL.nil ⟨fun _ _ => trivial, ?_⟩
      refine OpsQ.one rfl rfl rfl (by kernel_rfl) ?_
      refine OpsL.ung ?_
      refine OpsL.p (by subst_vars; decide) (aop_eqlB (a := final) (b := final) (by (first | (simp only [ASt.ev, tmPut, ↓reduceIte, Nat.reduceEqDiff, *]; done))) (by (first | (simp only [ASt.ev, tmPut, ↓reduceIte, Nat.reduceEqDiff, *]; done))) (by exact rfl)) ?_
      rw [beq_self_eq_true]
      refine OpsL.nil ?_
      refine OpsQ.one rfl rfl rfl (by kernel_rfl) ?_
      repeat (first | (refine OpsL.q (by exact opkT) ?_) | (refine OpsL.nil ?_; (skip)))
      refine OpsQ.one rfl rfl rfl (by kernel_rfl) ?_
      repeat (first | (refine OpsL.q (by exact omv) ?_) | (refine OpsL.nil ?_; (skip)))
      refine OpsQ.one rfl rfl rfl (by kernel_rfl) ?_
      refine OpsL.ung ?_
      refine OpsL.p (by subst_vars; decide) (aop_loadAgg (k := 8) (by (first | (simp only [ASt.ev, tmPut, ↓reduceIte, Nat.reduceEqDiff, *]; done))) (by exact rfl) rfl (by exact rfl) (FA ((z6.trans z7).trans z8)).1) ?_
      refine OpsL.nil ?_
      refine OpsQ.one rfl rfl rfl (by kernel_rfl) ?_
      repeat (first | (refine OpsL.q (by exact omv) ?_) | (refine OpsL.nil ?_; (skip)) | (refine OpsL.ung ?_))
      refine OpsQ.one rfl rfl rfl (by kernel_rfl) ?_
      repeat (first | (refine OpsL.q (by exact omv) ?_) | (refine OpsL.nil ?_; (skip)) | (refine OpsL.ung ?_))
      refine OpsQ.one rfl rfl rfl (by kernel_rfl) ?_
      repeat (first | (refine OpsL.q (by exact omv) ?_) | (refine OpsL.nil ?_; (skip)) | (refine OpsL.ung ?_))
      refine OpsQ.spG 28 (v := .bool (false == final)) rfl (by kernel_rfl) (by subst_vars; decide) (by exact rfl) (by simp [tmPut, *]) trivial (fun H2 nx2 hK => aop_eqlB (a := false) (b := final) (by (first | (simp only [ASt.ev, tmPut, ↓reduceIte, Nat.reduceEqDiff, *]; done))) (by (first | (simp only [ASt.ev, tmPut, ↓reduceIte, Nat.reduceEqDiff, *]; done))) (by exact rfl)) ?_
      rw [show (false == final) = !final from by cases final <;> rfl]
      refine OpsQ.act (by kernel_rfl) (ActStep.walk rfl rfl ?_)
      refine OpsL.ung ?_
      refine OpsL.c2 (hf := entersFTakes) (hc := (fTakesC W0 (FA ((z6.trans z7).trans z8)).2 hmod.lens hmod (FW (z7.trans z8)).1.1 (by simp))) (h := ?_)
      rintro v7 N9 H9 ⟨rfl, z9⟩
      rw [pm_w2]
      refine OpsL.nil ⟨fun _ _ => trivial, ?_⟩
      refine OpsQ.act (by kernel_rfl) (ActStep.walk rfl rfl ?_)
      refine OpsL.ung ?_
      refine OpsL.p (by subst_vars; decide) (aop_eqlB (a := !final) (b := !final) (by (first | (simp only [ASt.ev, tmPut, ↓reduceIte, Nat.reduceEqDiff, *]; done))) (by (first | (simp only [ASt.ev, tmPut, ↓reduceIte, Nat.reduceEqDiff, *]; done))) (by exact rfl)) ?_
      rw [beq_self_eq_true]
      refine OpsL.nil ⟨fun _ _ => trivial, ?_⟩
      refine OpsQ.one rfl rfl rfl (by kernel_rfl) ?_
      repeat (first | (refine OpsL.q (by exact opkT) ?_) | (refine OpsL.nil ?_; (skip)))
      refine OpsQ.one rfl rfl rfl (by kernel_rfl) ?_
      repeat (first | (refine OpsL.q (by exact oasg) ?_) | (refine OpsL.nil ?_; (skip)))
      exact OpsQ.nil ⟨rfl, _, N9, H9, rfl, by simp [tmPut]⟩
    rintro e st ⟨rfl, tm, nx', H', rfl, t4⟩
    (change Trip _ _ _ _ _)
    repeat (first | (refine Trip.ret ?_; (skip)))
    exact ⟨.inr rfl, _, res_tmp, by simp [tmPut, *]⟩
  · refine Trip.ifT ?_
    have g7 : cellAt σ17.H ⟨bA, 7, none⟩ (.slice (some ⟨bre, 0, none⟩) 4 4) := hA.cell rfl
    have g8 : cellAt σ17.H ⟨bre, 0 + (3 : Int).toNat * 1, none⟩ (.slice (some ⟨br1, 0, none⟩) 1 1) := hre.cell rfl
    have g9 : cellAt σ17.H ⟨br1, 0 + (0 : Int).toNat * 1, none⟩ (.slice (some ⟨br0, 0, none⟩) 4 4) := hr1.cell rfl
    repeat (first | (refine OpsL.q (by first | exact ofa | exact old | exact oixa) ?_) | (refine Trip.ops ?_))
    refine OpsL.setC (k := 1) (v := .int .i64 0) (cs' := [.int .i64 0, .int .i64 0, .int .i64 2, .int .i64 3]) hr0 (by decide) rfl rfl (by exact rfl) rfl (by (first | (simp only [ASt.ev, tmPut, ↓reduceIte, Nat.reduceEqDiff, *]; rfl))) (by (first | (simp only [ASt.ev, tmPut, ↓reduceIte, Nat.reduceEqDiff, *]; rfl))) rfl ?_
    intro τ hr0' xt _
    clear hr0
    have hr0 := hr0'
    clear hr0' g7 g8 g9
    replace ho := ho.keep xt (by simp)
    replace he := he.keep xt (by simp)
    replace hf := hf.keep xt (by simp)
    replace hi0 := hi0.keep xt (by simp)
    replace hi1 := hi1.keep xt (by simp)
    replace hi2 := hi2.keep xt (by simp)
    replace hi3 := hi3.keep xt (by simp)
    replace hin := hin.keep xt (by simp)
    replace hl0 := hl0.keep xt (by simp)
    replace hl1 := hl1.keep xt (by simp)
    replace hl2 := hl2.keep xt (by simp)
    replace hlo := hlo.keep xt (by simp)
    replace hr1 := hr1.keep xt (by simp)
    replace hre := hre.keep xt (by simp)
    replace hA := hA.keep xt (by simp)
    clear xt
    refine OpsL.nil ?_
    (change Trip _ _ _ _ _)
    have hm : MoIn τ.H (pm 0 final) ⟨.slice (some ⟨bo, 0, none⟩) 4 4, .slice (some ⟨be, 0, none⟩) 2 2, .slice (some ⟨bf, 0, none⟩) 4 4, .slice (some ⟨bin, 0, none⟩) 4 4, .slice (some ⟨blo, 0, none⟩) 4 4, .slice (some ⟨bre, 0, none⟩) 4 4⟩ := by
      refine ⟨ints_of (l := [0, 0, 0, 1]) ho.2.2 rfl, ints_of (l := [0, 3]) he.2.2 rfl, bools_of (l := [final, final, !final, false]) hf.2.2 rfl, listAt_of (l := [[1], [0], [2], [3]]) hin.2.2 rfl rfl (fun i h1 _ => ?_), listAt_of (l := [[0], [0], [2], []]) hlo.2.2 rfl rfl (fun i h1 _ => ?_), listAt_of (l := [[], [], [], [[0, 0, 2, 3]]]) hre.2.2 rfl rfl (fun i h1 _ => ?_)⟩
      · match i, h1 with
        | 0, _ => exact ints_of (l := [1]) hi0.2.2 rfl
        | 1, _ => exact ints_of (l := [0]) hi1.2.2 rfl
        | 2, _ => exact ints_of (l := [2]) hi2.2.2 rfl
        | 3, _ => exact ints_of (l := [3]) hi3.2.2 rfl
      · match i, h1 with
        | 0, _ => exact ints_of (l := [0]) hl0.2.2 rfl
        | 1, _ => exact ints_of (l := [0]) hl1.2.2 rfl
        | 2, _ => exact ints_of (l := [2]) hl2.2.2 rfl
        | 3, _ => exact nones2
      · match i, h1 with
        | 0, _ => exact nones3
        | 1, _ => exact nones3
        | 2, _ => exact nones3
        | 3, _ => exact listAt_of (l := [[0, 0, 2, 3]]) hr1.2.2 rfl rfl (fun i h1 _ => by
            match i, h1 with
            | 0, _ => exact ints_of (l := [0, 0, 2, 3]) hr0.2.2 rfl)
    have cA : getc τ.H ⟨bA, 0, none⟩ 8 = some (moV (pm 0 final) ⟨.slice (some ⟨bo, 0, none⟩) 4 4, .slice (some ⟨be, 0, none⟩) 2 2, .slice (some ⟨bf, 0, none⟩) 4 4, .slice (some ⟨bin, 0, none⟩) 4 4, .slice (some ⟨blo, 0, none⟩) 4 4, .slice (some ⟨bre, 0, none⟩) 4 4⟩) := getc_all (m := 8) hA.2.2 rfl
    clear ho he hf hi0 hi1 hi2 hi3 hin hl0 hl1 hl2 hlo hr0 hr1 hre hA
    have hmod := modF_iff.1 (pm_m0 final)
    refine Trip.ok fun hok => ?_
    replace hok : ∀ id o, τ.H id = some o → id < τ.nx := hok
    have FA : ∀ {N : Nat} {H' : Heap}, Ext τ.nx τ.H N H' → getc H' ⟨bA, 0, none⟩ 8 = some (moV (pm 0 final) ⟨.slice (some ⟨bo, 0, none⟩) 4 4, .slice (some ⟨be, 0, none⟩) 2 2, .slice (some ⟨bf, 0, none⟩) 4 4, .slice (some ⟨bin, 0, none⟩) 4 4, .slice (some ⟨blo, 0, none⟩) 4 4, .slice (some ⟨bre, 0, none⟩) 4 4⟩) ∧ MoIn H' (pm 0 final) ⟨.slice (some ⟨bo, 0, none⟩) 4 4, .slice (some ⟨be, 0, none⟩) 2 2, .slice (some ⟨bf, 0, none⟩) 4 4, .slice (some ⟨bin, 0, none⟩) 4 4, .slice (some ⟨blo, 0, none⟩) 4 4, .slice (some ⟨bre, 0, none⟩) 4 4⟩ := fun h => ⟨getc_ext h hok cA, hm.ext h hok⟩
    clear hok cA hm
    generalize (⟨.slice (some ⟨bo, 0, none⟩) 4 4, .slice (some ⟨be, 0, none⟩) 2 2, .slice (some ⟨bf, 0, none⟩) 4 4, .slice (some ⟨bin, 0, none⟩) 4 4, .slice (some ⟨blo, 0, none⟩) 4 4, .slice (some ⟨bre, 0, none⟩) 4 4⟩ : MoV) = V at FA
    repeat (first | (refine Trip.seq ?_) | (refine Trip.ops ?_))
    refine OpsL.p (by subst_vars; decide) (aop_loadAgg (k := 8) (by (first | (simp only [ASt.ev, tmPut, ↓reduceIte, Nat.reduceEqDiff, *]; done))) (by exact rfl) rfl (by exact rfl) (FA Ext.refl).1) ?_
    refine OpsL.c1 (hf := entersFClasses) (hc := (fClassesC W0 (FA Ext.refl).2 hmod.lens hmod)) (h := ?_)
    rintro v2 N5 H5 ⟨⟨c, c1, c2, rfl, c4⟩, z5⟩
    rw [pm_c0] at c4 ⊢
    change OpsL _ _ _ _ ⟨tmPut _ _ (.slice (some ⟨c, 0, none⟩) 4 4), _, _, _⟩ _
    repeat (first | (refine OpsL.q (by first | exact oasg | exact omv | exact olen) ?_) | (refine Trip.seq ?_) | (refine Trip.ops ?_) | (refine OpsL.nil ?_; (change Trip _ _ _ _ _)))
    refine OpsL.neqF ?_ (c := rfl)
    repeat (first | (refine OpsL.nil ?_; (change Trip _ _ _ _ _)))
    refine Trip.ifF ?_
    repeat (first | (refine Trip.seq ?_) | (refine Trip.ops ?_) | (refine Trip.skip ?_; (change Trip _ _ _ _ _)))
    refine OpsL.p (by subst_vars; decide) (aop_build (l := [(0, .int .i64 3)]) (v := .agg #[.int .i64 3, .int .i64 0]) (by simp [evParts, ASt.ev, tmPut, Am.plainC, plain1, *]) (by kernel_rfl)) ?_
    refine OpsL.p (by subst_vars; decide) (aop_build (l := [(0, .int .i64 1)]) (v := .agg #[.int .i64 1, .int .i64 0]) (by simp [evParts, ASt.ev, tmPut, Am.plainC, plain1, *]) (by kernel_rfl)) ?_
    refine OpsL.p (by subst_vars; decide) (aop_build (l := [(0, .int .i64 2)]) (v := .agg #[.int .i64 2, .int .i64 0]) (by simp [evParts, ASt.ev, tmPut, Am.plainC, plain1, *]) (by kernel_rfl)) ?_
    refine OpsL.new (by subst_vars; decide) (aop_buildSlice (l := [(0, .agg #[.int .i64 3, .int .i64 0]), (1, .agg #[.int .i64 1, .int .i64 0]), (2, .agg #[.int .i64 2, .int .i64 0])]) (r := (.slice (some ⟨N5, 0, none⟩) 3 3, .new (.cells [.int .i64 3, .int .i64 0, .int .i64 1, .int .i64 0, .int .i64 2, .int .i64 0] 2 none false (some 50)))) (by simp [evParts, ASt.ev, tmPut, Am.plainC, plain1, *]) (by exact rfl)) ?_
    have y5 : Ext N5 H5 (N5 + 1) (H5.put N5 (.cells [.int .i64 3, .int .i64 0, .int .i64 1, .int .i64 0, .int .i64 2, .int .i64 0] 2 none false (some 50))) := Ext.newPut
    have hw0 : (H5.put N5 (.cells [.int .i64 3, .int .i64 0, .int .i64 1, .int .i64 0, .int .i64 2, .int .i64 0] 2 none false (some 50))) N5 = some (.cells [.int .i64 3, .int .i64 0, .int .i64 1, .int .i64 0, .int .i64 2, .int .i64 0] 2 none false (some 50)) := Heap.put_eq
    generalize (H5.put N5 (.cells [.int .i64 3, .int .i64 0, .int .i64 1, .int .i64 0, .int .i64 2, .int .i64 0] 2 none false (some 50))) = H6 at y5 hw0 ⊢
    have z6 := z5.trans y5
    have c5 : H6 c = _ := (y5.2 c c2).trans c4
    repeat (first | (refine OpsL.q (by first | exact oasg | exact omv) ?_) | (refine Trip.seq ?_) | (refine Trip.ops ?_) | (refine OpsL.nil ?_; (change Trip _ _ _ _ _)))
    refine OpsL.p (by subst_vars; decide) (aop_slice (by (first | (simp only [ASt.ev, tmPut, ↓reduceIte, Nat.reduceEqDiff, *]; done))) (by exact rfl) rfl rfl (aSlice_plain (l := 1) (h := 3) (sz := 2) (a := ⟨N5, 0, none⟩) (len := 3) (cap := 3) (by exact rfl) (by exact rfl) hw0 rfl rfl (.inr ⟨.i64, rfl⟩) (.inl ⟨rfl, rfl⟩) (by omega) (by omega))) ?_
    change OpsL _ _ _ _ ⟨tmPut _ _ (.slice (some ⟨N5, 2, none⟩) 2 2), _, _, _⟩ _
    have hcl : c < N5 + 1 := Nat.lt_succ_of_lt c2
    have FW : ∀ {N : Nat} {H' : Heap}, Ext (N5 + 1) H6 N H' → (RowsAt encPr 2 H' (.slice (some ⟨N5, 0, none⟩) 3 3) [(3, 0), (1, 0), (2, 0)] ∧ RowsAt encPr 2 H' (.slice (some ⟨N5, 2, none⟩) 2 2) [(1, 0), (2, 0)]) ∧ cellAt H' ⟨c, 0 + (0 : Int).toNat * 1, none⟩ (.int .i64 0) ∧ cellAt H' ⟨c, 0 + (1 : Int).toNat * 1, none⟩ (.int .i64 0) := fun h => ⟨words ((h.2 _ (Nat.lt_succ_self _)).trans hw0), cell_of ((h.2 c hcl).trans c5) rfl, cell_of ((h.2 c hcl).trans c5) rfl⟩
    clear hw0 c4 c5 y5 z5
    repeat (first | (refine OpsL.q (by exact oasg) ?_) | (refine Trip.seq ?_) | (refine OpsL.nil ?_; (change Trip _ _ _ _ _)))
    refine Trip.mono (Q := fun e st => e = .normal ∧ ∃ (tm' : Nat → Value) (nx' : Nat) (H' : Heap), st = ⟨tm', n, H', nx'⟩ ∧ tm' 4 = .bool true) ?_ ?_
    · refine OpsQ.drawn [1, 17, 24, 28] (K := fun _ _ _ => True) mixed13 (by kernel_rfl) (by kernel_rfl) [0, 1, 2, 3, 4, 5, 6, 7, 8, 9, 10, 11, 12, 13, 14, 15, 16, 18, 17, 19, 20, 21, 22, 23, 25, 26, 27, 24, 28, 29, 30] (by kernel_rfl) (fun _ _ => trivial) ?_
      refine OpsQ.one rfl rfl rfl (by kernel_rfl) ?_
      refine OpsL.p (by subst_vars; decide) (aop_loadAgg (k := 8) (by (first | (simp only [ASt.ev, tmPut, ↓reduceIte, Nat.reduceEqDiff, *]; done))) (by exact rfl) rfl (by exact rfl) (FA z6).1) ?_
      refine OpsL.nil ?_
      refine OpsQ.act (by kernel_rfl) (ActStep.walk rfl rfl ?_)
      refine OpsL.c1 (hf := entersFCheck) (hc := (fcheckC W0 (FA z6).2 hmod.lens)) (h := ?_)
      rintro v5 N7 H7 ⟨rfl, z7⟩
      rw [modF_iff.2 hmod, if_pos rfl]
      refine OpsL.nil ⟨fun _ _ => trivial, ?_⟩
      have g0 := (FW z7).2.1
      have g1 := (FW z7).2.2
      refine OpsQ.one rfl rfl rfl (by kernel_rfl) ?_
      refine OpsL.eqlT ?_ (c := rfl)
      refine OpsL.nil ?_
      refine OpsQ.one rfl rfl rfl (by kernel_rfl) ?_
      repeat (first | (refine OpsL.q (by exact omv) ?_) | (refine OpsL.nil ?_; (dsimp only)))
      refine OpsQ.one rfl rfl rfl (by kernel_rfl) ?_
      repeat (first | (refine OpsL.q (by exact omv) ?_) | (refine OpsL.nil ?_; (skip)) | (refine OpsL.ung ?_))
      refine OpsQ.one rfl rfl rfl (by kernel_rfl) ?_
      repeat (first | (refine OpsL.q (by exact oixa) ?_) | (refine OpsL.nil ?_; (dsimp only)) | (refine OpsL.ung ?_))
      refine OpsQ.one rfl rfl rfl (by kernel_rfl) ?_
      repeat (first | (refine OpsL.q (by exact old) ?_) | (refine OpsL.nil ?_; (skip)) | (refine OpsL.ung ?_))
      refine OpsQ.one rfl rfl rfl (by kernel_rfl) ?_
      repeat (first | (refine OpsL.q (by exact omv) ?_) | (refine OpsL.nil ?_; (skip)) | (refine OpsL.ung ?_))
      refine OpsQ.one rfl rfl rfl (by kernel_rfl) ?_
      repeat (first | (refine OpsL.q (by exact oixa) ?_) | (refine OpsL.nil ?_; (dsimp only)) | (refine OpsL.ung ?_))
      refine OpsQ.one rfl rfl rfl (by kernel_rfl) ?_
      repeat (first | (refine OpsL.q (by exact old) ?_) | (refine OpsL.nil ?_; (skip)) | (refine OpsL.ung ?_))
      refine OpsQ.one rfl rfl rfl (by kernel_rfl) ?_
      refine OpsL.ung ?_
      refine OpsL.eqlT ?_ (c := rfl)
      refine OpsL.nil ?_
      refine OpsQ.one rfl rfl rfl (by kernel_rfl) ?_
      repeat (first | (refine OpsL.q (by exact omv) ?_) | (refine OpsL.nil ?_; (skip)) | (refine OpsL.ung ?_))
      refine OpsQ.one rfl rfl rfl (by kernel_rfl) ?_
      refine OpsL.ung ?_
      refine OpsL.p (by subst_vars; decide) (aop_eqlB (a := true) (b := true) (by (first | (simp only [ASt.ev, tmPut, ↓reduceIte, Nat.reduceEqDiff, *]; done))) (by (first | (simp only [ASt.ev, tmPut, ↓reduceIte, Nat.reduceEqDiff, *]; done))) (by exact rfl)) ?_
      rw [beq_self_eq_true]
      refine OpsL.nil ?_
      refine OpsQ.one rfl rfl rfl (by kernel_rfl) ?_
      repeat (first | (refine OpsL.q (by exact opkT) ?_) | (refine OpsL.nil ?_; (skip)))
      refine OpsQ.one rfl rfl rfl (by kernel_rfl) ?_
      repeat (first | (refine OpsL.q (by exact omv) ?_) | (refine OpsL.nil ?_; (skip)))
      refine OpsQ.one rfl rfl rfl (by kernel_rfl) ?_
      refine OpsL.ung ?_
      refine OpsL.p (by subst_vars; decide) (aop_loadAgg (k := 8) (by (first | (simp only [ASt.ev, tmPut, ↓reduceIte, Nat.reduceEqDiff, *]; done))) (by exact rfl) rfl (by exact rfl) (FA (z6.trans z7)).1) ?_
      refine OpsL.nil ?_
      refine OpsQ.one rfl rfl rfl (by kernel_rfl) ?_
      repeat (first | (refine OpsL.q (by exact omv) ?_) | (refine OpsL.nil ?_; (skip)) | (refine OpsL.ung ?_))
      refine OpsQ.one rfl rfl rfl (by kernel_rfl) ?_
      repeat (first | (refine OpsL.q (by exact omv) ?_) | (refine OpsL.nil ?_; (skip)) | (refine OpsL.ung ?_))
      refine OpsQ.act (by kernel_rfl) (ActStep.walk rfl rfl ?_)
      refine OpsL.ung ?_
      refine OpsL.c2 (hf := entersFTakes) (hc := (fTakesC W0 (FA (z6.trans z7)).2 hmod.lens hmod (FW z7).1.2 (by simp))) (h := ?_)
      rintro v6 N8 H8 ⟨rfl, z8⟩
      rw [pm_v0]
      refine OpsL.nil ⟨fun _ _ => trivial, ?_⟩
      refine OpsQ.one rfl rfl rfl (by kernel_rfl) ?_
      refine OpsL.ung ?_
      refine OpsL.p (by subst_vars; decide) (aop_eqlB (a := final) (b := final) (by (first | (simp only [ASt.ev, tmPut, ↓reduceIte, Nat.reduceEqDiff, *]; done))) (by (first | (simp only [ASt.ev, tmPut, ↓reduceIte, Nat.reduceEqDiff, *]; done))) (by exact rfl)) ?_
      rw [beq_self_eq_true]
      refine OpsL.nil ?_
      refine OpsQ.one rfl rfl rfl (by kernel_rfl) ?_
      repeat (first | (refine OpsL.q (by exact opkT) ?_) | (refine OpsL.nil ?_; (skip)))
      refine OpsQ.one rfl rfl rfl (by kernel_rfl) ?_
      repeat (first | (refine OpsL.q (by exact omv) ?_) | (refine OpsL.nil ?_; (skip)))
      refine OpsQ.one rfl rfl rfl (by kernel_rfl) ?_
      refine OpsL.ung ?_
      refine OpsL.p (by subst_vars; decide) (aop_loadAgg (k := 8) (by (first | (simp only [ASt.ev, tmPut, ↓reduceIte, Nat.reduceEqDiff, *]; done))) (by exact rfl) rfl (by exact rfl) (FA ((z6.trans z7).trans z8)).1) ?_
      refine OpsL.nil ?_
      refine OpsQ.one rfl rfl rfl (by kernel_rfl) ?_
      repeat (first | (refine OpsL.q (by exact omv) ?_) | (refine OpsL.nil ?_; (skip)) | (refine OpsL.ung ?_))
      refine OpsQ.one rfl rfl rfl (by kernel_rfl) ?_
      repeat (first | (refine OpsL.q (by exact omv) ?_) | (refine OpsL.nil ?_; (skip)) | (refine OpsL.ung ?_))
      refine OpsQ.one rfl rfl rfl (by kernel_rfl) ?_
      repeat (first | (refine OpsL.q (by exact omv) ?_) | (refine OpsL.nil ?_; (skip)) | (refine OpsL.ung ?_))
      refine OpsQ.spG 28 (v := .bool (true == final)) rfl (by kernel_rfl) (by subst_vars; decide) (by exact rfl) (by simp [tmPut, *]) trivial (fun H2 nx2 hK => aop_eqlB (a := true) (b := final) (by (first | (simp only [ASt.ev, tmPut, ↓reduceIte, Nat.reduceEqDiff, *]; done))) (by (first | (simp only [ASt.ev, tmPut, ↓reduceIte, Nat.reduceEqDiff, *]; done))) (by exact rfl)) ?_
      rw [show (true == final) = final from by cases final <;> rfl]
      refine OpsQ.act (by kernel_rfl) (ActStep.walk rfl rfl ?_)
      refine OpsL.ung ?_
      refine OpsL.c2 (hf := entersFTakes) (hc := (fTakesC W0 (FA ((z6.trans z7).trans z8)).2 hmod.lens hmod (FW (z7.trans z8)).1.1 (by simp))) (h := ?_)
      rintro v7 N9 H9 ⟨rfl, z9⟩
      rw [pm_w0]
      refine OpsL.nil ⟨fun _ _ => trivial, ?_⟩
      refine OpsQ.act (by kernel_rfl) (ActStep.walk rfl rfl ?_)
      refine OpsL.ung ?_
      refine OpsL.p (by subst_vars; decide) (aop_eqlB (a := final) (b := final) (by (first | (simp only [ASt.ev, tmPut, ↓reduceIte, Nat.reduceEqDiff, *]; done))) (by (first | (simp only [ASt.ev, tmPut, ↓reduceIte, Nat.reduceEqDiff, *]; done))) (by exact rfl)) ?_
      rw [beq_self_eq_true]
      refine OpsL.nil ⟨fun _ _ => trivial, ?_⟩
      refine OpsQ.one rfl rfl rfl (by kernel_rfl) ?_
      repeat (first | (refine OpsL.q (by exact opkT) ?_) | (refine OpsL.nil ?_; (skip)))
      refine OpsQ.one rfl rfl rfl (by kernel_rfl) ?_
      repeat (first | (refine OpsL.q (by exact oasg) ?_) | (refine OpsL.nil ?_; (skip)))
      exact OpsQ.nil ⟨rfl, _, N9, H9, rfl, by simp [tmPut]⟩
    rintro e st ⟨rfl, tm, nx', H', rfl, t4⟩
    (change Trip _ _ _ _ _)
    repeat (first | (refine Trip.ret ?_; (skip)))
    exact ⟨.inr rfl, _, res_tmp, by simp [tmPut, *]⟩
theorem core (W0 : World) (nx : Nat) (H : Heap) (b0 : Bool) (b1 : Bool) (us : List Value)
    (hat : All2 (Arg.at H) [.plain (.bool b0), .plain (.bool b1)] us) (_ : ∀ id o, H id = some o → id < nx) : ACalls Try.prog W0 7 us nx H fun v _ _ => v = .bool true := by
  obtain ⟨u0, us, rfl, h0, hat⟩ := hat.cons
  obtain ⟨u1, us, rfl, h1, hat⟩ := hat.cons
  obtain rfl := hat.nil
  obtain rfl : u0 = _ := h0
  obtain rfl : u1 = _ := h1
  exact law W0 
theorem own : ownKnob Try.prog.godebug = none := by kernel_rfl
theorem laidOut : laidOutB Try.prog = true := by kernel_rfl
set_option maxRecDepth 100000 in
theorem lifted (os : Os) (started : os.Started) (H : Type) (enc : TypeId × Value → H) :
    ReturnsInHanded {} Try.checked os 7 .any (Rows.foldPushedSpec.pre6 enc Try.prog Try.f7 Rows.foldPushedRow.domain false) (Rows.foldPushedSpec.post enc Try.prog Try.f7 false true false false) := by
  refine returnsInHanded_of_change (C := Try.checked) own started (by kernel_rfl) Try.func7
    (ChangeSpec.witness6 (enc := enc) (C := Try.checked) false ⟨#[], #[.bool false, .bool false], []⟩ 8 (by kernel_rfl) (by kernel_rfl) (by kernel_rfl) (by kernel_rfl)) ?_
  intro W base args ds gs before hval0 hW _ _
  have hval : ∀ (j : Nat) t v, Try.f7.params[j]? = some t → args[j]? = some v → Value.okWide Try.prog W .any base t v := hval0
  have hW' := hW
  obtain ⟨p, q, hA0, hV, rfl, _, _⟩ := hW
  have hA : DataW.TrodAll enc Try.prog W 0 (fun _ => true) true Try.f7.params.toList args.toList ds p := hA0
  rw [Try.params7] at hA hval
  obtain ⟨v0, vs0, d0, ds0, p0, q0, hargs, rfl, rfl, h0, r0⟩ := trodAll_cons hA
  obtain ⟨v1, vs1, d1, ds1, p1, q1, rfl, rfl, rfl, h1, r1⟩ := trodAll_cons r0
  obtain ⟨rfl, rfl, rfl⟩ := trodAll_nil r1
  obtain rfl : args = #[v0, v1] := by cases args; simp_all
  obtain ⟨rfl, rfl⟩ := trodVars_none hV
  obtain ⟨b0, rfl, rfl, rfl⟩ := open_bool Try.underlying4 (hval 0 4 v0 rfl rfl) h0
  obtain ⟨b1, rfl, rfl, rfl⟩ := open_bool Try.underlying4 (hval 1 4 v1 rfl rfl) h1
  clear hA0 hval0
  refine (law_calls (ars := [.plain (.bool b0), .plain (.bool b1)]) (vs := [_, _]) ⟨⟨rfl, rfl⟩, ⟨rfl, rfl⟩, trivial⟩ (fun nx H us hat hok => core W nx H b0 b1 us hat hok)).mono fun e W' ⟨he, hg⟩ => ?_
  subst he
  exact ⟨_, rfl, law_post laidOut (by kernel_rfl) rfl Try.underlying4 rfl hW' rfl hg⟩
theorem over : Rows.foldPushedRow.holds Try.pinned (OpenSpec.ofChange Rows.foldPushedSpec) :=
  OpenClaim.holds_of_wide 7 Try.f7 rfl rfl rfl rfl rfl rfl rfl ⟨rfl, rfl, rfl, rfl, rfl⟩ rfl rfl rfl rfl rfl (by kernel_rfl) Try.func7 (by kernel_rfl)
    (of_decide_eq_true (by kernel_rfl)) (by unfold Func.isWrapper; first | (rw [if_pos (by decide +kernel)]; kernel_rfl) | (rw [if_neg (by decide +kernel)]; exact ⟨rfl, rfl⟩))
    (fun os started H enc _ => lifted os started H enc)
theorem proved : Rows.FoldPushedSaid := over
end Go.Proofs.Ytdadkkmpnecpbaa.foldPushed
