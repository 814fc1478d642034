import Derived.Test.YtooakbmehcchnaaQFM15
set_option linter.unusedSimpArgs false
set_option linter.unusedVariables false
set_option maxRecDepth 100000
set_option maxHeartbeats 16000000
namespace Go.Proofs.Ytooakbmehcchnaa.foldChecks
open Go.Am Go.RowKit Go.ChangeShapes Go.WideShapes Go.ChangeAt
attribute [local irreducible] aop OpsL Trip blockExit OpsD OpsK OpsR OpsQ
theorem entersKnown : Am.Enters Try.prog 13 := ⟨Try.f13, Try.func13, by kernel_rfl, by kernel_rfl⟩
theorem law (W0 : World) {nx : Nat} {H : Heap} {size which at_ v : Int} {nv : Value} {ns : List Int} (hn : IntsAt H nv ns) (hs : -9223372036854775808 ≤ size ∧ size ≤ 9223372036854775807) (hat : -9223372036854775808 ≤ at_ ∧ at_ ≤ 9223372036854775807) (hok0 : ∀ id o, H id = some o → id < nx) :
    ACalls Try.prog W0 6 [.int .i64 size, nv, .int .i64 which, .int .i64 at_, .int .i64 v] nx H fun v _ _ => v = .bool true := by
  refine ACalls.by_trip (fn := Try.f6) (c := _) Try.func6 rfl (fun tm n hn0 htm => ?_)
  have e0 : tm 0 = .int .i64 size := htm 0
  have e1 : tm 1 = nv := htm 1
  have e2 : tm 2 = .int .i64 which := htm 2
  have e3 : tm 3 = .int .i64 at_ := htm 3
  have e4 : tm 4 = .int .i64 v := htm 4
  clear htm
  replace hn0 : n = 160 := hn0
  repeat (first | (refine OpsL.q (by exact oasg) ?_) | (refine Trip.seq ?_) | (refine Trip.ops ?_) | (refine OpsL.nil ?_; (change Trip _ _ _ _ _)))
  refine OpsL.c0 (hf := entersKnown) (hc := ((known_told W0 Tabs.nil).2 nx H)) (h := ?_)
  rintro v0 nx0 H0 ⟨rfl, rfl, rfl⟩
  dsimp only
  repeat (first | (refine OpsL.q (by exact onot) ?_) | (refine OpsL.nil ?_; (change Trip _ _ _ _ _)))
  refine Trip.ifF ?_
  repeat (first | (refine OpsL.q (by exact omv) ?_) | (refine Trip.seq ?_) | (refine Trip.ops ?_) | (refine Trip.skip ?_; (change Trip _ _ _ _ _)))
  refine OpsL.c2 (hf := entersMake) (hc := (makeC W0 hn hok0 hs)) (h := ?_)
  rintro vm nx1 H1 ⟨V, σ, rfl, rfl, rfl, -, hm⟩
  have hq := mkP_ok size
  have hg : modF (makeF size ns) = true := makeQ_ok hq
  have hlen : MoLen (makeF size ns) := makeQ_MoLen hq
  generalize makeF size ns = m at *
  clear hq hs
  refine OpsL.newC .self (aop_alloc (l := moV noMo nilV) (by exact rfl)) (by subst_vars; decide) ?_
  intro σ1 ha x1
  replace hm := hm.keep x1 (by simp)
  refine OpsL.setAllC (vs := moV m V) ha (by exact rfl) rfl rfl hm.one (by (first | (simp only [ASt.ev, tmPut, ↓reduceIte, Nat.reduceEqDiff, *]; done))) (by (first | (simp only [ASt.ev, tmPut, ↓reduceIte, Nat.reduceEqDiff, *]; done))) ?_
  intro σ2 ha2 x2
  replace hm := hm.keep x2 (by simp)
  obtain ⟨A, hA⟩ : ∃ A, σ.nx = A := ⟨_, rfl⟩
  rw [hA] at ha2
  refine OpsL.nil ?_
  (change Trip _ _ _ _ _)
  refine Trip.seq (Trip.seq ?_)
  refine Trip.ops ?_
  refine OpsL.loadM (MoBox.of ha2.2.2) ?_ (by (first | (simp only [ASt.ev, tmPut, ↓reduceIte, Nat.reduceEqDiff, *]; done))) (by subst_vars; decide)
  refine OpsL.c1 (hf := entersFCheck) (hc := (fcheckC W0 hm.in hlen)) (h := ?_)
  rintro v1 nx1 H1 ⟨rfl, y1⟩
  rw [hg]
  obtain ⟨σ3, rfl, rfl, x3⟩ := Chg.ofExt y1
  replace hm := hm.keep x3 (by simp)
  replace ha2 := ha2.keep x3 (by simp)
  rw [if_pos rfl]
  refine OpsL.neqF ?_ (c := rfl)
  refine OpsL.nil ?_
  (change Trip _ _ _ _ _)
  refine Trip.ifF ?_
  have hsz : sizedF m = true := by
    have := hg
    unfold modF at this
    simp only [Bool.and_eq_true] at this
    exact this.1.1
  obtain ⟨s1, s2, s3, s4, s5, s6, s7, s8⟩ := of_decide_eq_true hsz
  have g2 : cellAt σ3.H ⟨A, 2, none⟩ V.o := ha2.cell rfl
  obtain ⟨bo, hvo, hbo⟩ := hm.of.block
  rw [hvo] at g2
  have hw0 := Int.emod_nonneg at_ (show (m.of.length : Int) ≠ 0 by omega)
  have hw1 := Int.emod_lt_of_pos at_ (show 0 < (m.of.length : Int) by omega)
  obtain ⟨p, hp⟩ : ∃ p : Nat, at_ % (m.of.length : Int) = p := ⟨(at_ % (m.of.length : Int)).toNat, by omega⟩
  repeat (first | (refine OpsL.q (by first | exact omv | exact ofa | exact old | exact olen) ?_) | (refine Trip.seq ?_) | (refine Trip.ops ?_) | (refine Trip.skip ?_; (change Trip _ _ _ _ _)))
  refine OpsL.c2 (hf := entersWithinN) (hc := (withinC W0 at_ m.of.length (by omega) (by omega))) (h := ?_)
  rintro v1 nx1 H1 ⟨rfl, rfl, rfl⟩
  rw [hp]
  (first | (refine OpsL.q (by exact oasg) ?_))
  refine OpsL.nil ?_
  (change Trip _ _ _ _ _)
  repeat (first | (refine OpsL.q (by exact omv) ?_) | (refine Trip.seq ?_) | (refine Trip.ops ?_))
  refine OpsL.newC .tmp (aop_buildSlice (l := [(0, .int .i64 (-1)), (1, .int .i64 0), (2, .int .i64 1), (3, .int .i64 2), (4, .int .i64 3), (5, .int .i64 20), (6, .int .i64 21), (7, .int .i64 v)]) (r := (.slice (some ⟨σ3.nx, 0, none⟩) 8 8, .new (.cells (([-1, 0, 1, 2, 3, 20, 21, v] : List Int).map (.int .i64 ·)) 1 none false (some 3)))) (by simp [evParts, ASt.ev, tmPut]; rfl) (by kernel_rfl)) (by subst_vars; decide) ?_
  intro σ4 hlit x4
  replace hm := hm.keep x4 (by simp)
  replace ha2 := ha2.keep x4 (by simp)
  repeat (first | (refine OpsL.q (by exact omv) ?_))
  refine OpsL.c2 (hf := entersWithinN) (hc := (withinC W0 v 8 (by omega) (by omega))) (h := ?_)
  rintro v1 nx1 H1 ⟨rfl, rfl, rfl⟩
  have hv0 := Int.emod_nonneg v (show (8 : Int) ≠ 0 by omega)
  have hv1 := Int.emod_lt_of_pos v (show (0 : Int) < 8 by omega)
  obtain ⟨k, hk⟩ : ∃ k : Nat, v % 8 = k := ⟨(v % 8).toNat, by omega⟩
  rw [hk]
  have hk8 : k < ([-1, 0, 1, 2, 3, 20, 21, v] : List Int).length := by show k < 8; omega
  obtain ⟨x, hx⟩ : ∃ x, ([-1, 0, 1, 2, 3, 20, 21, v] : List Int)[k] = x := ⟨_, rfl⟩
  have hcell : cellAt σ4.H ⟨σ3.nx, 0 + k * 1, none⟩ (.int .i64 x) := by
    rw [Nat.zero_add, Nat.mul_one]
    refine hlit.cell ?_
    rw [List.getElem?_map, List.getElem?_eq_getElem hk8, hx]
    rfl
  have hk8' : k < 8 := hk8
  refine OpsL.p (by subst_vars; decide) (aop_indexAddr (a := ⟨σ3.nx, 0, none⟩) (n := 8) (c := 8) (j := (k : Int)) (by (first | (simp only [ASt.ev, tmPut, ↓reduceIte, Nat.reduceEqDiff, *]; done))) (by (first | (simp only [ASt.ev, tmPut, ↓reduceIte, Nat.reduceEqDiff, *]; rfl))) (by exact rfl) (by exact rfl) (by omega) (by omega)) ?_
  refine OpsL.p (by subst_vars; decide) (aop_load (v := .int .i64 x) (by (first | (simp only [ASt.ev, tmPut, ↓reduceIte, Nat.reduceEqDiff, *]; rfl))) (by exact rfl) rfl hcell) ?_
  (first | (refine OpsL.q (by exact oasg) ?_))
  refine OpsL.nil ?_
  (change Trip _ _ _ _ _)
  clear hlit hcell hx hk hk8 hk8' hv0 hv1 g2 hbo hvo
  refine Trip.seq (Trip.seq ?_)
  refine Trip.ops ?_
  repeat (first | (refine OpsL.q (by exact omv) ?_))
  refine OpsL.c2 (hf := entersWithinN) (hc := (withinC W0 which 11 (by omega) (by omega))) (h := ?_)
  rintro v1 nx1 H1 ⟨rfl, rfl, rfl⟩
  refine OpsL.nil ?_
  (change Trip _ _ _ _ _)
  have w0 := Int.emod_nonneg which (show (11 : Int) ≠ 0 by omega)
  have w1 := Int.emod_lt_of_pos which (show (0 : Int) < 11 by omega)
  generalize which % 11 = w at *
  have hp2 : p < m.of.length := by omega
  refine Trip.mono (Q := fun e st => e = .normal ∧ ∃ tm' σ' m' V', st = ⟨tm', n, σ'.H, σ'.nx⟩ ∧ tm' 11 = .pointer (some ⟨A, 0, none⟩) ∧ ObC .self σ' A (.cells (moV m' V') 0 none false (some 28)) ∧ MoIn σ'.H m' V' ∧ MoLen m') ?_ ?_
  · have hw : w = 0 ∨ w = 1 ∨ w = 2 ∨ w = 3 ∨ w = 4 ∨ w = 5 ∨ w = 6 ∨ w = 7 ∨ w = 8 ∨ w = 9 ∨ w = 10 := by omega
    clear w0 w1
    refine Trip.block ?_
    rcases hw with rfl | rfl | rfl | rfl | rfl | rfl | rfl | rfl | rfl | rfl | rfl
    · skip
      refine Trip.seq ?_
      refine Trip.ops ?_
      refine OpsL.eqlT ?_ (c := by decide)
      (first | (refine OpsL.q (by exact oasg) ?_))
      refine OpsL.nil ?_
      (change Trip _ _ _ _ _)
      refine Trip.ifT ?_
      exact ck0 (p := p) (x := x) (at_ := at_) W0 hn0 (by simp [tmPut, *]) (by simp [tmPut, *]) (by simp [tmPut, *]) (by simp [tmPut, *]) ha2 hm hlen hg hp2 hat (fun tm' σ' m' V' b1 b2 b3 b4 => by ((repeat (refine blockExit_normal ?_))); exact ⟨rfl, tm', σ', m', V', rfl, b1, b2, b3, b4⟩)
    · skip
      refine Trip.seq ?_
      refine Trip.ops ?_
      refine OpsL.eqlF ?_ (c := by decide)
      (first | (refine OpsL.q (by exact oasg) ?_))
      refine OpsL.nil ?_
      (change Trip _ _ _ _ _)
      refine Trip.ifF ?_
      refine Trip.seq ?_
      refine Trip.ops ?_
      refine OpsL.eqlT ?_ (c := by decide)
      (first | (refine OpsL.q (by exact oasg) ?_))
      refine OpsL.nil ?_
      (change Trip _ _ _ _ _)
      refine Trip.ifT ?_
      exact ck1 (p := p) (x := x) (at_ := at_) W0 hn0 (by simp [tmPut, *]) (by simp [tmPut, *]) (by simp [tmPut, *]) (by simp [tmPut, *]) ha2 hm hlen hg hp2 hat (fun tm' σ' m' V' b1 b2 b3 b4 => by ((repeat (refine blockExit_normal ?_))); exact ⟨rfl, tm', σ', m', V', rfl, b1, b2, b3, b4⟩)
    · skip
      refine Trip.seq ?_
      refine Trip.ops ?_
      refine OpsL.eqlF ?_ (c := by decide)
      (first | (refine OpsL.q (by exact oasg) ?_))
      refine OpsL.nil ?_
      (change Trip _ _ _ _ _)
      refine Trip.ifF ?_
      refine Trip.seq ?_
      refine Trip.ops ?_
      refine OpsL.eqlF ?_ (c := by decide)
      (first | (refine OpsL.q (by exact oasg) ?_))
      refine OpsL.nil ?_
      (change Trip _ _ _ _ _)
      refine Trip.ifF ?_
      refine Trip.seq ?_
      refine Trip.ops ?_
      refine OpsL.eqlT ?_ (c := by decide)
      (first | (refine OpsL.q (by exact oasg) ?_))
      refine OpsL.nil ?_
      (change Trip _ _ _ _ _)
      refine Trip.ifT ?_
      exact ck2 (p := p) (x := x) (at_ := at_) W0 hn0 (by simp [tmPut, *]) (by simp [tmPut, *]) (by simp [tmPut, *]) (by simp [tmPut, *]) ha2 hm hlen hg hp2 hat (fun tm' σ' m' V' b1 b2 b3 b4 => by ((repeat (refine blockExit_normal ?_))); exact ⟨rfl, tm', σ', m', V', rfl, b1, b2, b3, b4⟩)
    · skip
      refine Trip.seq ?_
      refine Trip.ops ?_
      refine OpsL.eqlF ?_ (c := by decide)
      (first | (refine OpsL.q (by exact oasg) ?_))
      refine OpsL.nil ?_
      (change Trip _ _ _ _ _)
      refine Trip.ifF ?_
      refine Trip.seq ?_
      refine Trip.ops ?_
      refine OpsL.eqlF ?_ (c := by decide)
      (first | (refine OpsL.q (by exact oasg) ?_))
      refine OpsL.nil ?_
      (change Trip _ _ _ _ _)
      refine Trip.ifF ?_
      refine Trip.seq ?_
      refine Trip.ops ?_
      refine OpsL.eqlF ?_ (c := by decide)
      (first | (refine OpsL.q (by exact oasg) ?_))
      refine OpsL.nil ?_
      (change Trip _ _ _ _ _)
      refine Trip.ifF ?_
      refine Trip.seq ?_
      refine Trip.ops ?_
      refine OpsL.eqlT ?_ (c := by decide)
      (first | (refine OpsL.q (by exact oasg) ?_))
      refine OpsL.nil ?_
      (change Trip _ _ _ _ _)
      refine Trip.ifT ?_
      exact ck3 (p := p) (x := x) (at_ := at_) W0 hn0 (by simp [tmPut, *]) (by simp [tmPut, *]) (by simp [tmPut, *]) (by simp [tmPut, *]) ha2 hm hlen hg hp2 hat (fun tm' σ' m' V' b1 b2 b3 b4 => by ((repeat (refine blockExit_normal ?_))); exact ⟨rfl, tm', σ', m', V', rfl, b1, b2, b3, b4⟩)
    · skip
      refine Trip.seq ?_
      refine Trip.ops ?_
      refine OpsL.eqlF ?_ (c := by decide)
      (first | (refine OpsL.q (by exact oasg) ?_))
      refine OpsL.nil ?_
      (change Trip _ _ _ _ _)
      refine Trip.ifF ?_
      refine Trip.seq ?_
      refine Trip.ops ?_
      refine OpsL.eqlF ?_ (c := by decide)
      (first | (refine OpsL.q (by exact oasg) ?_))
      refine OpsL.nil ?_
      (change Trip _ _ _ _ _)
      refine Trip.ifF ?_
      refine Trip.seq ?_
      refine Trip.ops ?_
      refine OpsL.eqlF ?_ (c := by decide)
      (first | (refine OpsL.q (by exact oasg) ?_))
      refine OpsL.nil ?_
      (change Trip _ _ _ _ _)
      refine Trip.ifF ?_
      refine Trip.seq ?_
      refine Trip.ops ?_
      refine OpsL.eqlF ?_ (c := by decide)
      (first | (refine OpsL.q (by exact oasg) ?_))
      refine OpsL.nil ?_
      (change Trip _ _ _ _ _)
      refine Trip.ifF ?_
      refine Trip.seq ?_
      refine Trip.ops ?_
      refine OpsL.eqlT ?_ (c := by decide)
      (first | (refine OpsL.q (by exact oasg) ?_))
      refine OpsL.nil ?_
      (change Trip _ _ _ _ _)
      refine Trip.ifT ?_
      exact ck4 (p := p) (x := x) (at_ := at_) W0 hn0 (by simp [tmPut, *]) (by simp [tmPut, *]) (by simp [tmPut, *]) (by simp [tmPut, *]) ha2 hm hlen hg hp2 hat (fun tm' σ' m' V' b1 b2 b3 b4 => by ((repeat (refine blockExit_normal ?_))); exact ⟨rfl, tm', σ', m', V', rfl, b1, b2, b3, b4⟩)
    · skip
      refine Trip.seq ?_
      refine Trip.ops ?_
      refine OpsL.eqlF ?_ (c := by decide)
      (first | (refine OpsL.q (by exact oasg) ?_))
      refine OpsL.nil ?_
      (change Trip _ _ _ _ _)
      refine Trip.ifF ?_
      refine Trip.seq ?_
      refine Trip.ops ?_
      refine OpsL.eqlF ?_ (c := by decide)
      (first | (refine OpsL.q (by exact oasg) ?_))
      refine OpsL.nil ?_
      (change Trip _ _ _ _ _)
      refine Trip.ifF ?_
      refine Trip.seq ?_
      refine Trip.ops ?_
      refine OpsL.eqlF ?_ (c := by decide)
      (first | (refine OpsL.q (by exact oasg) ?_))
      refine OpsL.nil ?_
      (change Trip _ _ _ _ _)
      refine Trip.ifF ?_
      refine Trip.seq ?_
      refine Trip.ops ?_
      refine OpsL.eqlF ?_ (c := by decide)
      (first | (refine OpsL.q (by exact oasg) ?_))
      refine OpsL.nil ?_
      (change Trip _ _ _ _ _)
      refine Trip.ifF ?_
      refine Trip.seq ?_
      refine Trip.ops ?_
      refine OpsL.eqlF ?_ (c := by decide)
      (first | (refine OpsL.q (by exact oasg) ?_))
      refine OpsL.nil ?_
      (change Trip _ _ _ _ _)
      refine Trip.ifF ?_
      refine Trip.seq ?_
      refine Trip.ops ?_
      refine OpsL.eqlT ?_ (c := by decide)
      (first | (refine OpsL.q (by exact oasg) ?_))
      refine OpsL.nil ?_
      (change Trip _ _ _ _ _)
      refine Trip.ifT ?_
      exact ck5 (p := p) (x := x) (at_ := at_) W0 hn0 (by simp [tmPut, *]) (by simp [tmPut, *]) (by simp [tmPut, *]) (by simp [tmPut, *]) ha2 hm hlen hg hp2 hat (fun tm' σ' m' V' b1 b2 b3 b4 => by ((repeat (refine blockExit_normal ?_))); exact ⟨rfl, tm', σ', m', V', rfl, b1, b2, b3, b4⟩)
    · skip
      refine Trip.seq ?_
      refine Trip.ops ?_
      refine OpsL.eqlF ?_ (c := by decide)
      (first | (refine OpsL.q (by exact oasg) ?_))
      refine OpsL.nil ?_
      (change Trip _ _ _ _ _)
      refine Trip.ifF ?_
      refine Trip.seq ?_
      refine Trip.ops ?_
      refine OpsL.eqlF ?_ (c := by decide)
      (first | (refine OpsL.q (by exact oasg) ?_))
      refine OpsL.nil ?_
      (change Trip _ _ _ _ _)
      refine Trip.ifF ?_
      refine Trip.seq ?_
      refine Trip.ops ?_
      refine OpsL.eqlF ?_ (c := by decide)
      (first | (refine OpsL.q (by exact oasg) ?_))
      refine OpsL.nil ?_
      (change Trip _ _ _ _ _)
      refine Trip.ifF ?_
      refine Trip.seq ?_
      refine Trip.ops ?_
      refine OpsL.eqlF ?_ (c := by decide)
      (first | (refine OpsL.q (by exact oasg) ?_))
      refine OpsL.nil ?_
      (change Trip _ _ _ _ _)
      refine Trip.ifF ?_
      refine Trip.seq ?_
      refine Trip.ops ?_
      refine OpsL.eqlF ?_ (c := by decide)
      (first | (refine OpsL.q (by exact oasg) ?_))
      refine OpsL.nil ?_
      (change Trip _ _ _ _ _)
      refine Trip.ifF ?_
      refine Trip.seq ?_
      refine Trip.ops ?_
      refine OpsL.eqlF ?_ (c := by decide)
      (first | (refine OpsL.q (by exact oasg) ?_))
      refine OpsL.nil ?_
      (change Trip _ _ _ _ _)
      refine Trip.ifF ?_
      refine Trip.seq ?_
      refine Trip.ops ?_
      refine OpsL.eqlT ?_ (c := by decide)
      (first | (refine OpsL.q (by exact oasg) ?_))
      refine OpsL.nil ?_
      (change Trip _ _ _ _ _)
      refine Trip.ifT ?_
      exact ck6 (p := p) (x := x) (at_ := at_) W0 hn0 (by simp [tmPut, *]) (by simp [tmPut, *]) (by simp [tmPut, *]) (by simp [tmPut, *]) ha2 hm hlen hg hp2 hat (fun tm' σ' m' V' b1 b2 b3 b4 => by ((repeat (refine blockExit_normal ?_))); exact ⟨rfl, tm', σ', m', V', rfl, b1, b2, b3, b4⟩)
    · skip
      refine Trip.seq ?_
      refine Trip.ops ?_
      refine OpsL.eqlF ?_ (c := by decide)
      (first | (refine OpsL.q (by exact oasg) ?_))
      refine OpsL.nil ?_
      (change Trip _ _ _ _ _)
      refine Trip.ifF ?_
      refine Trip.seq ?_
      refine Trip.ops ?_
      refine OpsL.eqlF ?_ (c := by decide)
      (first | (refine OpsL.q (by exact oasg) ?_))
      refine OpsL.nil ?_
      (change Trip _ _ _ _ _)
      refine Trip.ifF ?_
      refine Trip.seq ?_
      refine Trip.ops ?_
      refine OpsL.eqlF ?_ (c := by decide)
      (first | (refine OpsL.q (by exact oasg) ?_))
      refine OpsL.nil ?_
      (change Trip _ _ _ _ _)
      refine Trip.ifF ?_
      refine Trip.seq ?_
      refine Trip.ops ?_
      refine OpsL.eqlF ?_ (c := by decide)
      (first | (refine OpsL.q (by exact oasg) ?_))
      refine OpsL.nil ?_
      (change Trip _ _ _ _ _)
      refine Trip.ifF ?_
      refine Trip.seq ?_
      refine Trip.ops ?_
      refine OpsL.eqlF ?_ (c := by decide)
      (first | (refine OpsL.q (by exact oasg) ?_))
      refine OpsL.nil ?_
      (change Trip _ _ _ _ _)
      refine Trip.ifF ?_
      refine Trip.seq ?_
      refine Trip.ops ?_
      refine OpsL.eqlF ?_ (c := by decide)
      (first | (refine OpsL.q (by exact oasg) ?_))
      refine OpsL.nil ?_
      (change Trip _ _ _ _ _)
      refine Trip.ifF ?_
      refine Trip.seq ?_
      refine Trip.ops ?_
      refine OpsL.eqlF ?_ (c := by decide)
      (first | (refine OpsL.q (by exact oasg) ?_))
      refine OpsL.nil ?_
      (change Trip _ _ _ _ _)
      refine Trip.ifF ?_
      refine Trip.seq ?_
      refine Trip.ops ?_
      refine OpsL.eqlT ?_ (c := by decide)
      (first | (refine OpsL.q (by exact oasg) ?_))
      refine OpsL.nil ?_
      (change Trip _ _ _ _ _)
      refine Trip.ifT ?_
      exact ck7 (p := p) (x := x) (at_ := at_) W0 hn0 (by simp [tmPut, *]) (by simp [tmPut, *]) (by simp [tmPut, *]) (by simp [tmPut, *]) ha2 hm hlen hg hp2 hat (fun tm' σ' m' V' b1 b2 b3 b4 => by ((repeat (refine blockExit_normal ?_))); exact ⟨rfl, tm', σ', m', V', rfl, b1, b2, b3, b4⟩)
    · skip
      refine Trip.seq ?_
      refine Trip.ops ?_
      refine OpsL.eqlF ?_ (c := by decide)
      (first | (refine OpsL.q (by exact oasg) ?_))
      refine OpsL.nil ?_
      (change Trip _ _ _ _ _)
      refine Trip.ifF ?_
      refine Trip.seq ?_
      refine Trip.ops ?_
      refine OpsL.eqlF ?_ (c := by decide)
      (first | (refine OpsL.q (by exact oasg) ?_))
      refine OpsL.nil ?_
      (change Trip _ _ _ _ _)
      refine Trip.ifF ?_
      refine Trip.seq ?_
      refine Trip.ops ?_
      refine OpsL.eqlF ?_ (c := by decide)
      (first | (refine OpsL.q (by exact oasg) ?_))
      refine OpsL.nil ?_
      (change Trip _ _ _ _ _)
      refine Trip.ifF ?_
      refine Trip.seq ?_
      refine Trip.ops ?_
      refine OpsL.eqlF ?_ (c := by decide)
      (first | (refine OpsL.q (by exact oasg) ?_))
      refine OpsL.nil ?_
      (change Trip _ _ _ _ _)
      refine Trip.ifF ?_
      refine Trip.seq ?_
      refine Trip.ops ?_
      refine OpsL.eqlF ?_ (c := by decide)
      (first | (refine OpsL.q (by exact oasg) ?_))
      refine OpsL.nil ?_
      (change Trip _ _ _ _ _)
      refine Trip.ifF ?_
      refine Trip.seq ?_
      refine Trip.ops ?_
      refine OpsL.eqlF ?_ (c := by decide)
      (first | (refine OpsL.q (by exact oasg) ?_))
      refine OpsL.nil ?_
      (change Trip _ _ _ _ _)
      refine Trip.ifF ?_
      refine Trip.seq ?_
      refine Trip.ops ?_
      refine OpsL.eqlF ?_ (c := by decide)
      (first | (refine OpsL.q (by exact oasg) ?_))
      refine OpsL.nil ?_
      (change Trip _ _ _ _ _)
      refine Trip.ifF ?_
      refine Trip.seq ?_
      refine Trip.ops ?_
      refine OpsL.eqlF ?_ (c := by decide)
      (first | (refine OpsL.q (by exact oasg) ?_))
      refine OpsL.nil ?_
      (change Trip _ _ _ _ _)
      refine Trip.ifF ?_
      refine Trip.seq ?_
      refine Trip.ops ?_
      refine OpsL.eqlT ?_ (c := by decide)
      (first | (refine OpsL.q (by exact oasg) ?_))
      refine OpsL.nil ?_
      (change Trip _ _ _ _ _)
      refine Trip.ifT ?_
      exact ck8 (p := p) (x := x) (at_ := at_) W0 hn0 (by simp [tmPut, *]) (by simp [tmPut, *]) (by simp [tmPut, *]) (by simp [tmPut, *]) ha2 hm hlen hg hp2 hat (fun tm' σ' m' V' b1 b2 b3 b4 => by ((repeat (refine blockExit_normal ?_))); exact ⟨rfl, tm', σ', m', V', rfl, b1, b2, b3, b4⟩)
    · skip
      refine Trip.seq ?_
      refine Trip.ops ?_
      refine OpsL.eqlF ?_ (c := by decide)
      (first | (refine OpsL.q (by exact oasg) ?_))
      refine OpsL.nil ?_
      (change Trip _ _ _ _ _)
      refine Trip.ifF ?_
      refine Trip.seq ?_
      refine Trip.ops ?_
      refine OpsL.eqlF ?_ (c := by decide)
      (first | (refine OpsL.q (by exact oasg) ?_))
      refine OpsL.nil ?_
      (change Trip _ _ _ _ _)
      refine Trip.ifF ?_
      refine Trip.seq ?_
      refine Trip.ops ?_
      refine OpsL.eqlF ?_ (c := by decide)
      (first | (refine OpsL.q (by exact oasg) ?_))
      refine OpsL.nil ?_
      (change Trip _ _ _ _ _)
      refine Trip.ifF ?_
      refine Trip.seq ?_
      refine Trip.ops ?_
      refine OpsL.eqlF ?_ (c := by decide)
      (first | (refine OpsL.q (by exact oasg) ?_))
      refine OpsL.nil ?_
      (change Trip _ _ _ _ _)
      refine Trip.ifF ?_
      refine Trip.seq ?_
      refine Trip.ops ?_
      refine OpsL.eqlF ?_ (c := by decide)
      (first | (refine OpsL.q (by exact oasg) ?_))
      refine OpsL.nil ?_
      (change Trip _ _ _ _ _)
      refine Trip.ifF ?_
      refine Trip.seq ?_
      refine Trip.ops ?_
      refine OpsL.eqlF ?_ (c := by decide)
      (first | (refine OpsL.q (by exact oasg) ?_))
      refine OpsL.nil ?_
      (change Trip _ _ _ _ _)
      refine Trip.ifF ?_
      refine Trip.seq ?_
      refine Trip.ops ?_
      refine OpsL.eqlF ?_ (c := by decide)
      (first | (refine OpsL.q (by exact oasg) ?_))
      refine OpsL.nil ?_
      (change Trip _ _ _ _ _)
      refine Trip.ifF ?_
      refine Trip.seq ?_
      refine Trip.ops ?_
      refine OpsL.eqlF ?_ (c := by decide)
      (first | (refine OpsL.q (by exact oasg) ?_))
      refine OpsL.nil ?_
      (change Trip _ _ _ _ _)
      refine Trip.ifF ?_
      refine Trip.seq ?_
      refine Trip.ops ?_
      refine OpsL.eqlF ?_ (c := by decide)
      (first | (refine OpsL.q (by exact oasg) ?_))
      refine OpsL.nil ?_
      (change Trip _ _ _ _ _)
      refine Trip.ifF ?_
      refine Trip.seq ?_
      refine Trip.ops ?_
      refine OpsL.eqlT ?_ (c := by decide)
      (first | (refine OpsL.q (by exact oasg) ?_))
      refine OpsL.nil ?_
      (change Trip _ _ _ _ _)
      refine Trip.ifT ?_
      exact ck9 (p := p) (x := x) (at_ := at_) W0 hn0 (by simp [tmPut, *]) (by simp [tmPut, *]) (by simp [tmPut, *]) (by simp [tmPut, *]) ha2 hm hlen hg hp2 hat (fun tm' σ' m' V' b1 b2 b3 b4 => by ((repeat (refine blockExit_normal ?_))); exact ⟨rfl, tm', σ', m', V', rfl, b1, b2, b3, b4⟩)
    · skip
      refine Trip.seq ?_
      refine Trip.ops ?_
      refine OpsL.eqlF ?_ (c := by decide)
      (first | (refine OpsL.q (by exact oasg) ?_))
      refine OpsL.nil ?_
      (change Trip _ _ _ _ _)
      refine Trip.ifF ?_
      refine Trip.seq ?_
      refine Trip.ops ?_
      refine OpsL.eqlF ?_ (c := by decide)
      (first | (refine OpsL.q (by exact oasg) ?_))
      refine OpsL.nil ?_
      (change Trip _ _ _ _ _)
      refine Trip.ifF ?_
      refine Trip.seq ?_
      refine Trip.ops ?_
      refine OpsL.eqlF ?_ (c := by decide)
      (first | (refine OpsL.q (by exact oasg) ?_))
      refine OpsL.nil ?_
      (change Trip _ _ _ _ _)
      refine Trip.ifF ?_
      refine Trip.seq ?_
      refine Trip.ops ?_
      refine OpsL.eqlF ?_ (c := by decide)
      (first | (refine OpsL.q (by exact oasg) ?_))
      refine OpsL.nil ?_
      (change Trip _ _ _ _ _)
      refine Trip.ifF ?_
      refine Trip.seq ?_
      refine Trip.ops ?_
      refine OpsL.eqlF ?_ (c := by decide)
      (first | (refine OpsL.q (by exact oasg) ?_))
      refine OpsL.nil ?_
      (change Trip _ _ _ _ _)
      refine Trip.ifF ?_
      refine Trip.seq ?_
      refine Trip.ops ?_
      refine OpsL.eqlF ?_ (c := by decide)
      (first | (refine OpsL.q (by exact oasg) ?_))
      refine OpsL.nil ?_
      (change Trip _ _ _ _ _)
      refine Trip.ifF ?_
      refine Trip.seq ?_
      refine Trip.ops ?_
      refine OpsL.eqlF ?_ (c := by decide)
      (first | (refine OpsL.q (by exact oasg) ?_))
      refine OpsL.nil ?_
      (change Trip _ _ _ _ _)
      refine Trip.ifF ?_
      refine Trip.seq ?_
      refine Trip.ops ?_
      refine OpsL.eqlF ?_ (c := by decide)
      (first | (refine OpsL.q (by exact oasg) ?_))
      refine OpsL.nil ?_
      (change Trip _ _ _ _ _)
      refine Trip.ifF ?_
      refine Trip.seq ?_
      refine Trip.ops ?_
      refine OpsL.eqlF ?_ (c := by decide)
      (first | (refine OpsL.q (by exact oasg) ?_))
      refine OpsL.nil ?_
      (change Trip _ _ _ _ _)
      refine Trip.ifF ?_
      refine Trip.seq ?_
      refine Trip.ops ?_
      refine OpsL.eqlF ?_ (c := by decide)
      (first | (refine OpsL.q (by exact oasg) ?_))
      refine OpsL.nil ?_
      (change Trip _ _ _ _ _)
      refine Trip.ifF ?_
      refine Trip.seq ?_
      refine Trip.ops ?_
      refine OpsL.eqlT ?_ (c := by decide)
      (first | (refine OpsL.q (by exact oasg) ?_))
      refine OpsL.nil ?_
      (change Trip _ _ _ _ _)
      refine Trip.ifT ?_
      exact ck10 (p := p) (x := x) (at_ := at_) W0 hn0 (by simp [tmPut, *]) (by simp [tmPut, *]) (by simp [tmPut, *]) (by simp [tmPut, *]) ha2 hm hlen hg hp2 hat (fun tm' σ' m' V' b1 b2 b3 b4 => by ((repeat (refine blockExit_normal ?_))); exact ⟨rfl, tm', σ', m', V', rfl, b1, b2, b3, b4⟩)
  clear e0 e1 e2 e3 e4 hm ha2 hlen hg
  rintro e st ⟨rfl, tm, σ, m', V', rfl, t11, ha, hin, hlen⟩
  refine Trip.ok fun hok => ?_
  replace hok : ∀ id o, σ.H id = some o → id < σ.nx := hok
  have hga : getc σ.H ⟨A, 0, none⟩ 8 = some (moV m' V') := (MoBox.of ha.2.2).all
  (change Trip _ _ _ _ _)
  refine Trip.seq ?_
  refine OpsQ.drawn [1, 3] (K := fun j nx H => j = 3 → getc H ⟨A, 0, none⟩ 8 = some (moV m' V')) mixed13 (by kernel_rfl) (by kernel_rfl) [0, 2, 1, 3, 4, 5] (by kernel_rfl) (fun _ _ _ => hga) ?_
  refine OpsQ.one rfl rfl rfl (by kernel_rfl) ?_
  refine OpsL.loadM (MoBox.of ha.2.2) ?_ (by (first | (simp only [ASt.ev, tmPut, ↓reduceIte, Nat.reduceEqDiff, *]; done))) (by subst_vars; decide)
  refine OpsL.nil ?_
  refine OpsQ.sp 3 (v := .agg (moV m' V').toArray) rfl (by kernel_rfl) (by subst_vars; decide) (fun _ => hga) (fun H2 nx2 hK => aop_loadAgg (k := 8) (by (first | (simp only [ASt.ev, tmPut, ↓reduceIte, Nat.reduceEqDiff, *]; done))) (by exact rfl) rfl (by exact rfl) (hK rfl)) ?_
  refine OpsQ.act (by kernel_rfl) (ActStep.walk rfl rfl ?_)
  refine OpsL.c1 (hf := entersFCheck) (hc := (fcheckC W0 hin hlen)) (h := ?_)
  rintro v1 nx1 H1 ⟨rfl, y1⟩
  refine OpsL.nil ⟨fun _ _ _ => getc_ext y1 hok hga, ?_⟩
  refine OpsQ.act (by kernel_rfl) (ActStep.walk rfl rfl ?_)
  refine OpsL.c1 (hf := entersRCheck) (hc := (rcheckC W0 (hin.ext y1 hok) hlen)) (h := ?_)
  rintro v2 nx2 H2 ⟨rfl, y2⟩
  refine OpsL.nil ⟨fun k hk e => (by subst e; simp at hk), ?_⟩
  refine OpsQ.one rfl rfl rfl (by kernel_rfl) ?_
  refine OpsL.eqlT ?_ (c := rfl)
  refine OpsL.nil ?_
  refine OpsQ.one rfl rfl rfl (by kernel_rfl) ?_
  repeat (first | (refine OpsL.q (by exact oasg) ?_) | (refine OpsL.nil ?_; (dsimp only)))
  refine OpsQ.nil ?_
  (change Trip _ _ _ _ _)
  repeat (first | (refine Trip.ret ?_; (skip)))
  exact ⟨.inr rfl, _, res_tmp, by simp [tmPut]⟩
theorem core (W0 : World) (nx : Nat) (H : Heap) (a0 : Int) (w0 : (Lit.int .i64 a0).wf = true) (x1 : List Int) (w1 : ∀ x ∈ x1, (Lit.int .i64 x).wf = true) (a2 : Int) (w2 : (Lit.int .i64 a2).wf = true) (a3 : Int) (w3 : (Lit.int .i64 a3).wf = true) (a4 : Int) (w4 : (Lit.int .i64 a4).wf = true) (us : List Value)
    (hat : All2 (Arg.at H) [.plain (.int .i64 a0), .ints .i64 x1, .plain (.int .i64 a2), .plain (.int .i64 a3), .plain (.int .i64 a4)] us) (hok : ∀ id o, H id = some o → id < nx) : ACalls Try.prog W0 6 us nx H fun v _ _ => v = .bool true := by
  obtain ⟨u0, us, rfl, h0, hat⟩ := hat.cons
  obtain ⟨u1, us, rfl, h1, hat⟩ := hat.cons
  obtain ⟨u2, us, rfl, h2, hat⟩ := hat.cons
  obtain ⟨u3, us, rfl, h3, hat⟩ := hat.cons
  obtain ⟨u4, us, rfl, h4, hat⟩ := hat.cons
  obtain rfl := hat.nil
  obtain rfl : u0 = _ := h0
  obtain rfl : u2 = _ := h2
  obtain rfl : u3 = _ := h3
  obtain rfl : u4 = _ := h4
  exact law W0 h1.1 (wf64 w0) (wf64 w3) hok
theorem own : ownKnob Try.prog.godebug = none := by kernel_rfl
theorem laidOut : laidOutB Try.prog = true := by kernel_rfl
theorem cells_ints : Try.prog.cellsOf 3 = 1 := by kernel_rfl
theorem lifted (os : Os) (started : os.Started) (H : Type) (enc : TypeId × Value → H) :
    ReturnsInHanded {} Try.checked os 6 .any (Rows.foldChecksSpec.pre6 enc Try.prog Try.f6 Rows.foldChecksRow.domain false) (Rows.foldChecksSpec.post enc Try.prog Try.f6 false true false false) := by
  refine returnsInHanded_of_change (C := Try.checked) own started (by kernel_rfl) Try.func6
    (ChangeSpec.witness6 (enc := enc) (C := Try.checked) false ⟨#[], #[.int .i64 0, .slice none 0 0, .int .i64 0, .int .i64 0, .int .i64 0], []⟩ 8 (by kernel_rfl) (by kernel_rfl) (by kernel_rfl) (by kernel_rfl)) ?_
  intro W base args ds gs before hval0 hW _ _
  have hval : ∀ (j : Nat) t v, Try.f6.params[j]? = some t → args[j]? = some v → Value.okWide Try.prog W .any base t v := hval0
  have hW' := hW
  obtain ⟨p, q, hA0, hV, rfl, _, _⟩ := hW
  have hA : DataW.TrodAll enc Try.prog W 0 (fun _ => true) true Try.f6.params.toList args.toList ds p := hA0
  rw [Try.params6] at hA hval
  obtain ⟨v0, vs0, d0, ds0, p0, q0, hargs, rfl, rfl, h0, r0⟩ := trodAll_cons hA
  obtain ⟨v1, vs1, d1, ds1, p1, q1, rfl, rfl, rfl, h1, r1⟩ := trodAll_cons r0
  obtain ⟨v2, vs2, d2, ds2, p2, q2, rfl, rfl, rfl, h2, r2⟩ := trodAll_cons r1
  obtain ⟨v3, vs3, d3, ds3, p3, q3, rfl, rfl, rfl, h3, r3⟩ := trodAll_cons r2
  obtain ⟨v4, vs4, d4, ds4, p4, q4, rfl, rfl, rfl, h4, r4⟩ := trodAll_cons r3
  obtain ⟨rfl, rfl, rfl⟩ := trodAll_nil r4
  obtain rfl : args = #[v0, v1, v2, v3, v4] := by cases args; simp_all
  obtain ⟨rfl, rfl⟩ := trodVars_none hV
  obtain ⟨a0, rfl, rfl, rfl, w0⟩ := open_int Try.underlying3 (hval 0 3 v0 rfl rfl) h0
  obtain ⟨x1, c1, w1⟩ := came_ints Try.underlying23 Try.underlying3 cells_ints (hval 1 23 v1 rfl rfl) h1
  obtain ⟨a2, rfl, rfl, rfl, w2⟩ := open_int Try.underlying3 (hval 2 3 v2 rfl rfl) h2
  obtain ⟨a3, rfl, rfl, rfl, w3⟩ := open_int Try.underlying3 (hval 3 3 v3 rfl rfl) h3
  obtain ⟨a4, rfl, rfl, rfl, w4⟩ := open_int Try.underlying3 (hval 4 3 v4 rfl rfl) h4
  clear hA0 hval0
  refine (law_calls (ars := [.plain (.int .i64 a0), .ints .i64 x1, .plain (.int .i64 a2), .plain (.int .i64 a3), .plain (.int .i64 a4)]) (vs := [_, _, _, _, _]) ⟨⟨rfl, rfl⟩, c1, ⟨rfl, rfl⟩, ⟨rfl, rfl⟩, ⟨rfl, rfl⟩, trivial⟩ (fun nx H us hat hok => core W nx H a0 w0 x1 w1 a2 w2 a3 w3 a4 w4 us hat hok)).mono fun e W' ⟨he, hg⟩ => ?_
  subst he
  exact ⟨_, rfl, law_post laidOut (by kernel_rfl) rfl Try.underlying4 rfl hW' rfl hg⟩
theorem over : Rows.foldChecksRow.holds Try.pinned (OpenSpec.ofChange Rows.foldChecksSpec) :=
  OpenClaim.holds_of_wide 6 Try.f6 rfl rfl rfl rfl rfl rfl rfl ⟨rfl, rfl, rfl, rfl, rfl⟩ rfl rfl rfl rfl rfl (by kernel_rfl) Try.func6 (by kernel_rfl)
    (of_decide_eq_true (by kernel_rfl)) (by unfold Func.isWrapper; first | (rw [if_pos (by decide +kernel)]; kernel_rfl) | (rw [if_neg (by decide +kernel)]; exact ⟨rfl, rfl⟩))
    (fun os started H enc _ => lifted os started H enc)
end Go.Proofs.Ytooakbmehcchnaa.foldChecks
