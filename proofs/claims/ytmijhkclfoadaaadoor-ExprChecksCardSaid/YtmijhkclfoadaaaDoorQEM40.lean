import Derived.Test.YtmijhkclfoadaaaDoorQEM39
import Derived.Test.YtmijhkclfoadaaaDoorQEM21
namespace Go.Am
set_option linter.unusedSimpArgs false
set_option linter.unusedVariables false
open Go.RowKit
section
variable {P : Program} {W0 : World} {ops : Array Oper} {acts : List Nat} {K : Nat → Heap → Prop}
theorem OpsR.act2k {m i k : Nat} {l : List Nat} {st : ASt} {Q : ASt → Prop} (hw : ((l.all fun j => Nat.beq j k || ((i :: l).erase j).any fun q => depD ops j q) && !Nat.beq i k) = true) (h1 : ActStep P W0 ops acts K i st fun s => OpsR P W0 ops acts K m l s Q) (h2 : ActStep P W0 ops acts K k st fun s => OpsR P W0 ops acts K m ((i :: l).erase k) s Q) : OpsR P W0 ops acts K (m + 1) (i :: l) st Q := by
  simp only [Bool.and_eq_true, Bool.not_eq_true'] at hw
  refine .inr fun j hj hf => ?_
  by_cases e : j = i
  · subst e
    rw [List.erase_cons_head]
    exact h1
  · by_cases e2 : j = k
    · subst e2
      exact h2
    · exfalso
      have hj2 : j ∈ l := by
        rcases List.mem_cons.1 hj with h | h
        · exact absurd h e
        · exact h
      have := List.all_eq_true.1 hw.1 j hj2
      rw [Bool.or_eq_true] at this
      rcases this with h | h
      · exact e2 (Nat.eq_of_beq_eq_true h)
      · rw [List.any_eq_true] at h
        obtain ⟨q, hq, hd⟩ := h
        have := List.all_eq_true.1 hf q hq
        rw [hd] at this
        cases this
end
section
variable {P : Program} {H : Heap} {nx : Nat} {ev : Operand → Option Value} {dst : Option Tmp} {type : TypeId} {pos : String} {after : Array Edge} {guard : Option (Nat × Bool)}
theorem aop_quoT {t u : TypeId} {x y : Operand} {a b : Int} (hx : ev x = some (.int .i64 a)) (hy : ev y = some (.int .i64 b)) (hb : 0 < b) (h0 : -9223372036854775808 ≤ a) (h1 : a ≤ 9223372036854775807) :
    aop P H nx ev ⟨dst, .binOp .quo t x y u, type, pos, after, guard⟩ = some (.int .i64 (a.tdiv b), .none) := by
  have hb0 : ¬ b = 0 := by omega
  have e : -9223372036854775808 ≤ a.tdiv b ∧ a.tdiv b ≤ 9223372036854775807 := by
    rcases Int.le_total 0 a with h | h
    · have h2 := Int.tdiv_le_self (b := b) (a := a) h
      have h3 := Int.tdiv_nonneg h (show 0 ≤ b by omega)
      omega
    · obtain ⟨c, rfl⟩ : ∃ c : Int, a = -c := ⟨-a, by omega⟩
      have hc : 0 ≤ c := by omega
      rw [Int.neg_tdiv]
      have h2 := Int.tdiv_le_self (b := b) (a := c) hc
      have h3 := Int.tdiv_nonneg hc (show 0 ≤ b by omega)
      omega
  have w : IntKind.i64.wrap (a.tdiv b) = a.tdiv b := by rw [wrap_i64]; omega
  simp [aop, hx, hy, aBin, intArith, hb0, w]
end
end Go.Am
namespace Go.Proofs.YtmijhkclfoadaaaDoor
set_option linter.unusedSimpArgs false
set_option linter.unusedVariables false
open Go.Am Go.RowKit
attribute [local irreducible] aop OpsL Trip blockExit OpsD OpsK OpsR
theorem size_one (k s f : Int) (x : Ex) : sizeX (.node k s f [x]) = sizeX x + 1 := by simp [sizeX, sizeXL]; omega
set_option maxRecDepth 20000 in
set_option maxHeartbeats 8000000 in
theorem sw5 (W0 : World) {e x : Ex} {H1 H : Heap} {nx1 nx A X : Nat} {tm : Nat → Value} {n : Nat} {v : Int} {lv : Value} (hn0 : n = 127) (h : XSt H1 nx1 e H nx A X x) (t3 : tm 3 = .int .i64 v) (t11 : tm 11 = lv) (t12 : tm 12 = .pointer (some ⟨A, 0, none⟩)) (t13 : tm 13 = .pointer (some ⟨X, 0, none⟩)) {Q : AExit → ASt → Prop}
    (hQ : ∀ tm' nx' H' x', tm' 3 = .int .i64 v → tm' 11 = lv → tm' 12 = .pointer (some ⟨A, 0, none⟩) → tm' 13 = .pointer (some ⟨X, 0, none⟩) → XSt H1 nx1 e H' nx' A X x' → sizeX x' ≤ sizeX x + 23 → Q .normal ⟨tm', n, H', nx'⟩) {deep : Int} (t4 : tm 4 = .int .i64 deep) : Trip Tryd.prog W0 (subX [1, 1, 1, 1, 1, 0, 1, 2, 1, 4, 1, 4, 1, 4, 1, 4, 1, 4, 1, 3] (bodyX Tryd.f3)) ⟨tm, n, H, nx⟩ Q := by
  repeat (first | (refine OpsL.q (by exact oasg) ?_) | (refine Trip.seq ?_) | (refine Trip.ops ?_) | (refine Trip.block ?_) | (refine OpsL.nil ?_; (change Trip _ _ _ _ _)))
  refine Trip.inv (fun (i : Nat) s => ∃ tm G nx' x', s = ⟨tm, n, G, nx'⟩ ∧ tm 3 = .int .i64 v ∧ tm 4 = .int .i64 deep ∧ tm 11 = lv ∧ tm 12 = .pointer (some ⟨A, 0, none⟩) ∧ tm 13 = .pointer (some ⟨X, 0, none⟩) ∧ tm 14 = .int .i64 i ∧ XSt H1 nx1 e G nx' A X x' ∧ sizeX x' ≤ sizeX x + i ∧ i ≤ 23) (fun i => 23 - i) 0 ?_ ?_
  · exact ⟨_, _, _, x, rfl, by simp [tmPut, *], by simp [tmPut, *], by simp [tmPut, *], by simp [tmPut, *], by simp [tmPut, *], by simp [tmPut], h, by omega, by omega⟩
  clear t3 t4 t11 t12 t13 h
  rintro i st ⟨tm, G, nz, x', rfl, t3, t4, t11, t12, t13, t14, h, hsz, hi⟩
  repeat (first | (refine OpsL.q (by exact omv) ?_) | (refine Trip.seq ?_) | (refine Trip.ops ?_))
  refine OpsL.c2 (hf := entersWithin5) (hc := (within5C W0 _ _ (by omega) (by omega))) (h := ?_)
  rintro u n6 H6 ⟨rfl, h2', h3'⟩
  subst h2'; subst h3'
  have p0 := Int.emod_nonneg deep (show (24 : Int) ≠ 0 by omega)
  have p1 := Int.emod_lt_of_pos deep (show (0 : Int) < 24 by omega)
  generalize deep % 24 = dm at *
  by_cases hlt : (i : Int) < dm
  · refine OpsL.lssT ?_ (c := hlt)
    repeat (first | (refine OpsL.nil ?_; (change Trip _ _ _ _ _)))
    refine Trip.ifT ?_
    obtain ⟨cs, B, hc, hcA⟩ := h.x
    obtain ⟨k, s, f, l⟩ := x'
    obtain ⟨va, vc, hcs⟩ := hc.ex.cells
    subst hcs
    have g4 : getc H6 ⟨X, 0, none⟩ 4 = some [.int .i64 k, .int .i64 s, .int .i64 f, .slice va l.length vc] := by unfold getc; simp [hc.cell]
    repeat (first | (refine OpsL.q (by exact aop_loadAgg (k := 4) (by (first | (simp only [ASt.ev, tmPut, ↓reduceIte, Nat.reduceEqDiff, *]; rfl))) (by exact rfl) rfl (by exact rfl) (by assumption)) ?_) | (refine Trip.seq ?_) | (refine Trip.ops ?_) | (refine Trip.block ?_) | (refine Trip.skip ?_; (change Trip _ _ _ _ _)))
    refine OpsL.new (by subst_vars; decide) (aop_buildSlice (l := [(0, .agg #[.int .i64 k, .int .i64 s, .int .i64 f, .slice va l.length vc])]) (r := (.slice (some ⟨n6, 0, none⟩) 1 1, .new (.cells [.int .i64 k, .int .i64 s, .int .i64 f, .slice va l.length vc] 4 none false (some 28)))) (by simp [evParts, ASt.ev, tmPut, plainC, plain1, *]) (by exact rfl)) ?_
    obtain ⟨G5, hG5⟩ : ∃ G5, G5 = H6.put n6 (.cells [.int .i64 k, .int .i64 s, .int .i64 f, .slice va l.length vc] 4 none false (some 28)) := ⟨_, rfl⟩
    have x5 : Ext n6 H6 (n6 + 1) G5 := by rw [hG5]; exact Ext.newPut
    have hrow : G5 n6 = some (.cells [.int .i64 k, .int .i64 s, .int .i64 f, .slice va l.length vc] 4 none false (some 28)) := by rw [hG5]; exact Heap.put_eq
    rw [← hG5]
    clear hG5
    have h5 := h.next x5
    have c5 := hc.ext h.hX.2.1 x5
    repeat fail
    refine OpsL.p (by subst_vars; decide) (aop_build (l := [(0, .int .i64 7), (3, .slice (some ⟨n6, 0, none⟩) 1 1)]) (by simp [evParts, ASt.ev, tmPut, plainC, plain1, *]) (v := .agg #[.int .i64 7, .int .i64 0, .int .i64 0, .slice (some ⟨n6, 0, none⟩) 1 1]) (by exact rfl)) ?_
    refine OpsL.storeX ?_ (by (first | (simp only [ASt.ev, tmPut, ↓reduceIte, Nat.reduceEqDiff, *]; done))) (by (first | (simp only [ASt.ev, tmPut, ↓reduceIte, Nat.reduceEqDiff, *]; rfl))) c5.cell rfl rfl rfl
    intro G9 hG9 hs9
    repeat (first | (refine OpsL.q (by first | exact omv | exact oadd | exact oasg) ?_) | (refine Trip.ops ?_) | (refine OpsL.nil ?_; ((repeat (refine blockExit_normal ?_)); first | (change Trip _ _ _ _ _) | (dsimp only))))
    exact ⟨i + 1, ⟨_, _, _, .node 7 0 0 [.node k s f l], rfl, by simp [tmPut, *], by simp [tmPut, *], by simp [tmPut, *], by simp [tmPut, *], by simp [tmPut, *], by simp [tmPut, *], h5.set hs9 hG9 (ExC.row1 (k := 7) (s := 0) (e := 0) (c := 1) hrow rfl c5.ex) (List.nodup_cons.2 ⟨fun hm => by have := hc.lt _ hm; omega, hc.nd⟩) (fun b hb => by
      have q1 := h.hX
      have q2 := h.hA
      rcases List.mem_cons.1 hb with rfl | hb
      · omega
      · have := hc.lt b hb
        exact ⟨by omega, hc.ne b hb, hcA b hb⟩), by rw [size_one]; omega, by omega⟩, by omega⟩
  · refine OpsL.lssF ?_ (c := hlt)
    repeat (first | (refine OpsL.nil ?_; (change Trip _ _ _ _ _)))
    refine Trip.ifF ?_
    repeat (first | (refine Trip.exit ?_; ((repeat (refine blockExit_eq ?_)))))
    exact hQ _ _ _ x' (by simp [tmPut, *]) (by simp [tmPut, *]) (by simp [tmPut, *]) (by simp [tmPut, *]) h (by omega)
set_option maxRecDepth 20000 in
set_option maxHeartbeats 8000000 in
theorem sw4 (W0 : World) {e x : Ex} {H1 H : Heap} {nx1 nx A X : Nat} {tm : Nat → Value} {n : Nat} {v : Int} {lv : Value} (hn0 : n = 127) (h : XSt H1 nx1 e H nx A X x) (t3 : tm 3 = .int .i64 v) (t11 : tm 11 = lv) (t12 : tm 12 = .pointer (some ⟨A, 0, none⟩)) (t13 : tm 13 = .pointer (some ⟨X, 0, none⟩)) {Q : AExit → ASt → Prop}
    (hQ : ∀ tm' nx' H' x', tm' 3 = .int .i64 v → tm' 11 = lv → tm' 12 = .pointer (some ⟨A, 0, none⟩) → tm' 13 = .pointer (some ⟨X, 0, none⟩) → XSt H1 nx1 e H' nx' A X x' → sizeX x' ≤ sizeX e + 1 → Q .normal ⟨tm', n, H', nx'⟩) (hv : -9223372036854775808 ≤ v ∧ v ≤ 9223372036854775807) : Trip Tryd.prog W0 (subX [1, 1, 1, 1, 1, 0, 1, 2, 1, 4, 1, 4, 1, 4, 1, 4, 1, 3] (bodyX Tryd.f3)) ⟨tm, n, H, nx⟩ Q := by
  obtain ⟨ds, D, ha, haX⟩ := h.a
  obtain ⟨k, s, f, l⟩ := e
  obtain ⟨va, vc, hcs⟩ := ha.ex.cells
  subst hcs
  have g4 : getc H ⟨A, 0, none⟩ 4 = some [.int .i64 k, .int .i64 s, .int .i64 f, .slice va l.length vc] := getc_all ha.cell rfl
  refine OpsR.drawn [1, 4, 6, 8] (K := fun _ H' => getc H' ⟨A, 0, none⟩ 4 = some [.int .i64 k, .int .i64 s, .int .i64 f, .slice va l.length vc]) mixedX (by kernel_rfl) (by kernel_rfl) [0, 2, 3, 5, 1, 4, 6, 7, 8] (by kernel_rfl) g4 ?_
  refine OpsR.one rfl rfl rfl (by kernel_rfl) ?_
  repeat (first | (refine OpsL.q (by exact omv) ?_) | (refine OpsL.nil ?_; (skip)))
  refine OpsR.one rfl rfl rfl (by kernel_rfl) ?_
  repeat (first | (refine OpsL.q (by exact omv) ?_) | (refine OpsL.nil ?_; (skip)))
  refine OpsR.one rfl rfl rfl (by kernel_rfl) ?_
  refine OpsL.p (by subst_vars; decide) (aop_quoT (by (first | (simp only [ASt.ev, tmPut, ↓reduceIte, Nat.reduceEqDiff, *]; done))) (by (first | (simp only [ASt.ev, tmPut, ↓reduceIte, Nat.reduceEqDiff, *]; rfl))) (by omega) hv.1 hv.2) ?_
  repeat (first | (refine OpsL.nil ?_; (skip)))
  refine OpsR.sp (v := .agg #[.int .i64 k, .int .i64 s, .int .i64 f, .slice va l.length vc]) rfl (by kernel_rfl) (by subst_vars; decide) g4 (fun H' nx' hK => aop_loadAgg (k := 4) (vs := [.int .i64 k, .int .i64 s, .int .i64 f, .slice va l.length vc]) (by (first | (simp only [ASt.ev, tmPut, ↓reduceIte, Nat.reduceEqDiff, *]; done))) (by exact rfl) rfl (by exact rfl) hK) ?_
  refine OpsR.act2k (k := 6) (by kernel_rfl) (ActStep.walk rfl rfl ?_) (ActStep.walk rfl rfl ?_)
  · skip
    refine OpsL.c2 (hf := entersWithin5) (hc := (within5C W0 _ _ (by omega) (by omega))) (h := ?_)
    rintro u n8 H8 ⟨rfl, g2, g3⟩
    rw [g2, g3]
    clear g2 g3
    refine OpsL.nil ⟨g4, ?_⟩
    refine OpsR.act2k (k := 6) (by kernel_rfl) (ActStep.walk rfl rfl ?_) (ActStep.walk rfl rfl ?_)
    · skip
      refine OpsL.c2 (hf := entersWithin5) (hc := (within5C W0 _ _ (by omega) (by omega))) (h := ?_)
      rintro u n8 H8 ⟨rfl, g2, g3⟩
      rw [g2, g3]
      clear g2 g3
      refine OpsL.nil ⟨g4, ?_⟩
      refine OpsR.act (by kernel_rfl) (ActStep.walk rfl rfl ?_)
      refine OpsL.new (by subst_vars; decide) (aop_buildSlice (l := [(0, .agg #[.int .i64 k, .int .i64 s, .int .i64 f, .slice va l.length vc])]) (r := (.slice (some ⟨nx, 0, none⟩) 1 1, .new (.cells [.int .i64 k, .int .i64 s, .int .i64 f, .slice va l.length vc] 4 none false (some 28)))) (by simp [evParts, ASt.ev, tmPut, plainC, plain1, *]) (by exact rfl)) ?_
      obtain ⟨G5, hG5⟩ : ∃ G5, G5 = H.put nx (.cells [.int .i64 k, .int .i64 s, .int .i64 f, .slice va l.length vc] 4 none false (some 28)) := ⟨_, rfl⟩
      have x5 : Ext nx H (nx + 1) G5 := by rw [hG5]; exact Ext.newPut
      have hrow : G5 nx = some (.cells [.int .i64 k, .int .i64 s, .int .i64 f, .slice va l.length vc] 4 none false (some 28)) := by rw [hG5]; exact Heap.put_eq
      rw [← hG5]
      clear hG5
      have h5 := h.next x5
      have c5 := ha.ext h.hA.2 x5
      have k5 : getc G5 ⟨A, 0, none⟩ 4 = some [.int .i64 k, .int .i64 s, .int .i64 f, .slice va l.length vc] := getc_all c5.cell rfl
      refine OpsL.nil ⟨k5, ?_⟩
      refine OpsR.one rfl rfl rfl (by kernel_rfl) ?_
      refine OpsL.p (by subst_vars; decide) (aop_build (l := [(0, .int .i64 4), (1, .int .i64 (v % 4)), (2, .int .i64 (v.tdiv 4 % 4)), (3, .slice (some ⟨nx, 0, none⟩) 1 1)]) (by simp [evParts, ASt.ev, tmPut, plainC, plain1, *]) (v := .agg #[.int .i64 4, .int .i64 (v % 4), .int .i64 (v.tdiv 4 % 4), .slice (some ⟨nx, 0, none⟩) 1 1]) (by exact rfl)) ?_
      refine OpsL.nil ?_
      refine OpsR.act (by kernel_rfl) (ActStep.walk rfl rfl ?_)
      obtain ⟨xs, XB, hxc, -⟩ := h5.x
      obtain ⟨xk, xs', xf, xl⟩ := x
      obtain ⟨xa, xc, hxs⟩ := hxc.ex.cells
      subst hxs
      refine OpsL.storeX ?_ (by (first | (simp only [ASt.ev, tmPut, ↓reduceIte, Nat.reduceEqDiff, *]; done))) (by (first | (simp only [ASt.ev, tmPut, ↓reduceIte, Nat.reduceEqDiff, *]; rfl))) hxc.cell rfl rfl rfl
      intro G9 hG9 hs9
      have k9 : getc G9 ⟨A, 0, none⟩ 4 = some [.int .i64 k, .int .i64 s, .int .i64 f, .slice va l.length vc] := getc_all ((hs9 A h.hX.2.2.symm).trans c5.cell) rfl
      refine OpsL.nil ⟨k9, ?_⟩
      refine OpsR.nil ?_
      (skip)
      repeat fail
      exact hQ _ _ _ (.node 4 (v % 4) (v.tdiv 4 % 4) [.node k s f l]) (by simp [tmPut, *]) (by simp [tmPut, *]) (by simp [tmPut, *]) (by simp [tmPut, *]) (h5.set hs9 hG9 (ExC.row1 (k := 4) (s := v % 4) (e := v.tdiv 4 % 4) (c := 1) hrow rfl c5.ex) (List.nodup_cons.2 ⟨fun hm => by have := ha.lt _ hm; omega, ha.nd⟩) (fun b hb => by
        have q1 := h.hX
        have q2 := h.hA
        rcases List.mem_cons.1 hb with rfl | hb
        · omega
        · have := ha.lt b hb
          exact ⟨by omega, haX b hb, ha.ne b hb⟩)) (by rw [size_one]; omega)
    · skip
      refine OpsL.new (by subst_vars; decide) (aop_buildSlice (l := [(0, .agg #[.int .i64 k, .int .i64 s, .int .i64 f, .slice va l.length vc])]) (r := (.slice (some ⟨nx, 0, none⟩) 1 1, .new (.cells [.int .i64 k, .int .i64 s, .int .i64 f, .slice va l.length vc] 4 none false (some 28)))) (by simp [evParts, ASt.ev, tmPut, plainC, plain1, *]) (by exact rfl)) ?_
      obtain ⟨G5, hG5⟩ : ∃ G5, G5 = H.put nx (.cells [.int .i64 k, .int .i64 s, .int .i64 f, .slice va l.length vc] 4 none false (some 28)) := ⟨_, rfl⟩
      have x5 : Ext nx H (nx + 1) G5 := by rw [hG5]; exact Ext.newPut
      have hrow : G5 nx = some (.cells [.int .i64 k, .int .i64 s, .int .i64 f, .slice va l.length vc] 4 none false (some 28)) := by rw [hG5]; exact Heap.put_eq
      rw [← hG5]
      clear hG5
      have h5 := h.next x5
      have c5 := ha.ext h.hA.2 x5
      have k5 : getc G5 ⟨A, 0, none⟩ 4 = some [.int .i64 k, .int .i64 s, .int .i64 f, .slice va l.length vc] := getc_all c5.cell rfl
      refine OpsL.nil ⟨k5, ?_⟩
      refine OpsR.act (by kernel_rfl) (ActStep.walk rfl rfl ?_)
      refine OpsL.c2 (hf := entersWithin5) (hc := (within5C W0 _ _ (by omega) (by omega))) (h := ?_)
      rintro u n8 H8 ⟨rfl, g2, g3⟩
      rw [g2, g3]
      clear g2 g3
      refine OpsL.nil ⟨k5, ?_⟩
      refine OpsR.one rfl rfl rfl (by kernel_rfl) ?_
      refine OpsL.p (by subst_vars; decide) (aop_build (l := [(0, .int .i64 4), (1, .int .i64 (v % 4)), (2, .int .i64 (v.tdiv 4 % 4)), (3, .slice (some ⟨nx, 0, none⟩) 1 1)]) (by simp [evParts, ASt.ev, tmPut, plainC, plain1, *]) (v := .agg #[.int .i64 4, .int .i64 (v % 4), .int .i64 (v.tdiv 4 % 4), .slice (some ⟨nx, 0, none⟩) 1 1]) (by exact rfl)) ?_
      refine OpsL.nil ?_
      refine OpsR.act (by kernel_rfl) (ActStep.walk rfl rfl ?_)
      obtain ⟨xs, XB, hxc, -⟩ := h5.x
      obtain ⟨xk, xs', xf, xl⟩ := x
      obtain ⟨xa, xc, hxs⟩ := hxc.ex.cells
      subst hxs
      refine OpsL.storeX ?_ (by (first | (simp only [ASt.ev, tmPut, ↓reduceIte, Nat.reduceEqDiff, *]; done))) (by (first | (simp only [ASt.ev, tmPut, ↓reduceIte, Nat.reduceEqDiff, *]; rfl))) hxc.cell rfl rfl rfl
      intro G9 hG9 hs9
      have k9 : getc G9 ⟨A, 0, none⟩ 4 = some [.int .i64 k, .int .i64 s, .int .i64 f, .slice va l.length vc] := getc_all ((hs9 A h.hX.2.2.symm).trans c5.cell) rfl
      refine OpsL.nil ⟨k9, ?_⟩
      refine OpsR.nil ?_
      (skip)
      repeat fail
      exact hQ _ _ _ (.node 4 (v % 4) (v.tdiv 4 % 4) [.node k s f l]) (by simp [tmPut, *]) (by simp [tmPut, *]) (by simp [tmPut, *]) (by simp [tmPut, *]) (h5.set hs9 hG9 (ExC.row1 (k := 4) (s := v % 4) (e := v.tdiv 4 % 4) (c := 1) hrow rfl c5.ex) (List.nodup_cons.2 ⟨fun hm => by have := ha.lt _ hm; omega, ha.nd⟩) (fun b hb => by
        have q1 := h.hX
        have q2 := h.hA
        rcases List.mem_cons.1 hb with rfl | hb
        · omega
        · have := ha.lt b hb
          exact ⟨by omega, haX b hb, ha.ne b hb⟩)) (by rw [size_one]; omega)
  · skip
    refine OpsL.new (by subst_vars; decide) (aop_buildSlice (l := [(0, .agg #[.int .i64 k, .int .i64 s, .int .i64 f, .slice va l.length vc])]) (r := (.slice (some ⟨nx, 0, none⟩) 1 1, .new (.cells [.int .i64 k, .int .i64 s, .int .i64 f, .slice va l.length vc] 4 none false (some 28)))) (by simp [evParts, ASt.ev, tmPut, plainC, plain1, *]) (by exact rfl)) ?_
    obtain ⟨G5, hG5⟩ : ∃ G5, G5 = H.put nx (.cells [.int .i64 k, .int .i64 s, .int .i64 f, .slice va l.length vc] 4 none false (some 28)) := ⟨_, rfl⟩
    have x5 : Ext nx H (nx + 1) G5 := by rw [hG5]; exact Ext.newPut
    have hrow : G5 nx = some (.cells [.int .i64 k, .int .i64 s, .int .i64 f, .slice va l.length vc] 4 none false (some 28)) := by rw [hG5]; exact Heap.put_eq
    rw [← hG5]
    clear hG5
    have h5 := h.next x5
    have c5 := ha.ext h.hA.2 x5
    have k5 : getc G5 ⟨A, 0, none⟩ 4 = some [.int .i64 k, .int .i64 s, .int .i64 f, .slice va l.length vc] := getc_all c5.cell rfl
    refine OpsL.nil ⟨k5, ?_⟩
    refine OpsR.act (by kernel_rfl) (ActStep.walk rfl rfl ?_)
    refine OpsL.c2 (hf := entersWithin5) (hc := (within5C W0 _ _ (by omega) (by omega))) (h := ?_)
    rintro u n8 H8 ⟨rfl, g2, g3⟩
    rw [g2, g3]
    clear g2 g3
    refine OpsL.nil ⟨k5, ?_⟩
    refine OpsR.act (by kernel_rfl) (ActStep.walk rfl rfl ?_)
    refine OpsL.c2 (hf := entersWithin5) (hc := (within5C W0 _ _ (by omega) (by omega))) (h := ?_)
    rintro u n8 H8 ⟨rfl, g2, g3⟩
    rw [g2, g3]
    clear g2 g3
    refine OpsL.nil ⟨k5, ?_⟩
    refine OpsR.one rfl rfl rfl (by kernel_rfl) ?_
    refine OpsL.p (by subst_vars; decide) (aop_build (l := [(0, .int .i64 4), (1, .int .i64 (v % 4)), (2, .int .i64 (v.tdiv 4 % 4)), (3, .slice (some ⟨nx, 0, none⟩) 1 1)]) (by simp [evParts, ASt.ev, tmPut, plainC, plain1, *]) (v := .agg #[.int .i64 4, .int .i64 (v % 4), .int .i64 (v.tdiv 4 % 4), .slice (some ⟨nx, 0, none⟩) 1 1]) (by exact rfl)) ?_
    refine OpsL.nil ?_
    refine OpsR.act (by kernel_rfl) (ActStep.walk rfl rfl ?_)
    obtain ⟨xs, XB, hxc, -⟩ := h5.x
    obtain ⟨xk, xs', xf, xl⟩ := x
    obtain ⟨xa, xc, hxs⟩ := hxc.ex.cells
    subst hxs
    refine OpsL.storeX ?_ (by (first | (simp only [ASt.ev, tmPut, ↓reduceIte, Nat.reduceEqDiff, *]; done))) (by (first | (simp only [ASt.ev, tmPut, ↓reduceIte, Nat.reduceEqDiff, *]; rfl))) hxc.cell rfl rfl rfl
    intro G9 hG9 hs9
    have k9 : getc G9 ⟨A, 0, none⟩ 4 = some [.int .i64 k, .int .i64 s, .int .i64 f, .slice va l.length vc] := getc_all ((hs9 A h.hX.2.2.symm).trans c5.cell) rfl
    refine OpsL.nil ⟨k9, ?_⟩
    refine OpsR.nil ?_
    (skip)
    repeat fail
    exact hQ _ _ _ (.node 4 (v % 4) (v.tdiv 4 % 4) [.node k s f l]) (by simp [tmPut, *]) (by simp [tmPut, *]) (by simp [tmPut, *]) (by simp [tmPut, *]) (h5.set hs9 hG9 (ExC.row1 (k := 4) (s := v % 4) (e := v.tdiv 4 % 4) (c := 1) hrow rfl c5.ex) (List.nodup_cons.2 ⟨fun hm => by have := ha.lt _ hm; omega, ha.nd⟩) (fun b hb => by
      have q1 := h.hX
      have q2 := h.hA
      rcases List.mem_cons.1 hb with rfl | hb
      · omega
      · have := ha.lt b hb
        exact ⟨by omega, haX b hb, ha.ne b hb⟩)) (by rw [size_one]; omega)
end Go.Proofs.YtmijhkclfoadaaaDoor
namespace Go.Am
set_option linter.unusedSimpArgs false
set_option linter.unusedVariables false
open Go.RowKit
abbrev XV := Int × Int × Int × Option Addr × Nat × Nat
def encX (q : XV) : List Value := [.int .i64 q.1, .int .i64 q.2.1, .int .i64 q.2.2.1, .slice q.2.2.2.1 q.2.2.2.2.1 q.2.2.2.2.2]
theorem encX_len (q : XV) : (encX q).length = 4 := rfl
theorem encX_one (q : XV) : (encX q).all (·.oneCell') = true := rfl
def decX : List Value → XV
  | [.int _ k, .int _ s, .int _ e, .slice a n c] => (k, s, e, a, n, c)
  | _ => (0, 0, 0, none, 0, 0)
theorem ExC.dec {H : Heap} {cs : List Value} {x : Ex} {B : List Nat} (h : ExC H cs x B) : encX (decX cs) = cs := by
  cases x
  obtain ⟨a, c, rfl⟩ := h.cells
  rfl
def XsAt (H : Heap) (us : List XV) (l : List Ex) (Bs : Nat → List Nat) : Prop := us.length = l.length ∧ ∀ i (hi : i < l.length) (hu : i < us.length), ExC H (encX us[i]) l[i] (Bs i)
theorem ExC.rows {H : Heap} {k s e : Int} {l : List Ex} {v : Value} {B : List Nat} (h : ExC H [.int .i64 k, .int .i64 s, .int .i64 e, v] (.node k s e l) B) : ∃ us : List XV, RowsAt encX 4 H v us ∧ ∃ Bs : Nat → List Nat, XsAt H us l Bs ∧ ((List.range l.length).flatMap Bs).Sublist B := by
  cases h with
  | leaf k s e c => exact ⟨[], .inl ⟨_, rfl, rfl⟩, fun _ => [], ⟨rfl, fun i hi => absurd hi (by simp)⟩, by simp⟩
  | node k s e l p c cs Bs hl hob h h2 =>
    refine ⟨(List.range l.length).map fun i => decX (cs i), .inr ⟨p, c, by simp, fun i hi => ?_⟩, Bs, ⟨by simp, fun i hi hu => ?_⟩, List.sublist_cons_self _ _⟩
    · have hi' : i < l.length := by simpa using hi
      rw [h i hi', List.getElem_map, List.getElem_range, (h2 i hi').dec]
    · rw [List.getElem_map, List.getElem_range, (h2 i hi).dec]
      exact h2 i hi
theorem XsAt.same {H H' : Heap} {us : List XV} {l : List Ex} {Bs : Nat → List Nat} (h : XsAt H us l Bs) (hs : ∀ b ∈ (List.range l.length).flatMap Bs, H' b = H b) : XsAt H' us l Bs :=
  ⟨h.1, fun i hi hu => (h.2 i hi hu).same fun b hb => hs b (List.mem_flatMap.2 ⟨i, List.mem_range.2 hi, hb⟩)⟩
theorem XsAt.snoc {H : Heap} {us : List XV} {l : List Ex} {Bs : Nat → List Nat} (h : XsAt H us l Bs) (z : Int) : XsAt H (us ++ [(z, 0, 0, none, 0, 0)]) (l ++ [.node z 0 0 []]) (fun i => if i < l.length then Bs i else []) := by
  refine ⟨by simp [h.1], fun i hi hu => ?_⟩
  by_cases hlt : i < l.length
  · have hl2 : i < us.length := by rw [h.1]; exact hlt
    simp only [if_pos hlt]
    rw [ List.getElem_append_left hlt, List.getElem_append_left hl2]
    exact h.2 i hlt hl2
  · have hie : i = l.length := by simp at hi; omega
    subst hie
    have hl2 := h.1
    simp only [if_neg hlt]
    rw [List.getElem_append_right (Nat.le_refl _), List.getElem_append_right (by omega)]
    simp only [Nat.sub_self, hl2, List.getElem_cons_zero]
    exact .leaf ..
theorem snoc_blocks {l : List Ex} {Bs : Nat → List Nat} {x : Ex} : (List.range (l ++ [x]).length).flatMap (fun i => if i < l.length then Bs i else []) = (List.range l.length).flatMap Bs := by
  rw [List.length_append, List.length_singleton, List.range_succ, List.flatMap_append]
  have h1 : (List.range l.length).flatMap (fun i => if i < l.length then Bs i else []) = (List.range l.length).flatMap Bs := by
    rw [List.flatMap_def, List.flatMap_def]
    congr 1
    exact List.map_congr_left fun i hi => if_pos (List.mem_range.1 hi)
  rw [h1]
  simp
theorem XsAt.node {H : Heap} {us : List XV} {l : List Ex} {Bs : Nat → List Nat} {el : TypeId} {ob : Option (Nat × Nat)} {v : Value} (h : XsAt H us l Bs) (hr : OwnOf encX 4 el H ob v us) (hl : l ≠ []) (k s e : Int) : ∃ b t, ob = some (b, t) ∧ v = .slice (some ⟨b, 0, some t⟩) l.length l.length ∧ ExC H [.int .i64 k, .int .i64 s, .int .i64 e, v] (.node k s e l) (b :: (List.range l.length).flatMap Bs) := by
  have hl0 : 0 < l.length := List.length_pos_iff.2 hl
  have hat := hr.at encX_len
  cases ob with
  | none =>
    obtain ⟨_, _, h2⟩ := hr
    have := h.1
    omega
  | some bt =>
    obtain ⟨b, t⟩ := bt
    obtain ⟨rfl, _, rest, ho⟩ := hr
    rw [h.1] at hat ⊢
    refine ⟨b, t, rfl, rfl, ?_⟩
    rcases hat with ⟨c, hc, _⟩ | ⟨a, c, hc, hg⟩
    · cases hc
    · obtain ⟨rfl, rfl⟩ : (⟨b, 0, some t⟩ : Addr) = a ∧ l.length = c := by
        simp only [Value.slice.injEq, Option.some.injEq] at hc
        exact ⟨hc.1, hc.2.2⟩
      refine ExC.node k s e l ⟨b, 0, some t⟩ _ (fun i => if hu : i < us.length then encX us[i] else []) Bs hl ⟨_, _, ho⟩ (fun i hi => ?_) (fun i hi => ?_)
      · have hu : i < us.length := by rw [h.1]; exact hi
        rw [dif_pos hu]
        exact hg i hu
      · have hu : i < us.length := by rw [h.1]; exact hi
        rw [dif_pos hu]
        exact h.2 i hi hu
theorem sizeX_snoc (k s e k' s' e' : Int) (l : List Ex) (z : Int) : sizeX (.node k s e (l ++ [.node z 0 0 []])) = sizeX (.node k' s' e' l) + 1 := by
  simp only [sizeX, sizeXL_app]
  simp [sizeXL, sizeX]
end Go.Am
namespace Go.Proofs.YtmijhkclfoadaaaDoor
set_option linter.unusedSimpArgs false
set_option linter.unusedVariables false
open Go.Am Go.RowKit
attribute [local irreducible] aop OpsL Trip blockExit OpsD OpsK OpsR
set_option maxRecDepth 20000 in
set_option maxHeartbeats 8000000 in
theorem sw3 (W0 : World) {e x : Ex} {H1 H : Heap} {nx1 nx A X : Nat} {tm : Nat → Value} {n : Nat} {v : Int} {lv : Value} (hn0 : n = 127) (h : XSt H1 nx1 e H nx A X x) (t3 : tm 3 = .int .i64 v) (t11 : tm 11 = lv) (t12 : tm 12 = .pointer (some ⟨A, 0, none⟩)) (t13 : tm 13 = .pointer (some ⟨X, 0, none⟩)) {Q : AExit → ASt → Prop}
    (hQ : ∀ tm' nx' H' x', tm' 3 = .int .i64 v → tm' 11 = lv → tm' 12 = .pointer (some ⟨A, 0, none⟩) → tm' 13 = .pointer (some ⟨X, 0, none⟩) → XSt H1 nx1 e H' nx' A X x' → sizeX x' ≤ sizeX x + 1 → Q .normal ⟨tm', n, H', nx'⟩) (hsz : sizeX x ≤ 900000) : Trip Tryd.prog W0 (subX [1, 1, 1, 1, 1, 0, 1, 2, 1, 4, 1, 4, 1, 4, 1, 3] (bodyX Tryd.f3)) ⟨tm, n, H, nx⟩ Q := by
  obtain ⟨cs, B, hc, hcA⟩ := h.x
  obtain ⟨k, s, f, l⟩ := x
  obtain ⟨va, vc, hcs⟩ := hc.ex.cells
  subst hcs
  refine Trip.ok fun hok => ?_
  replace hok : ∀ id o, H id = some o → id < nx := hok
  have hx := h.hX
  have hA := h.hA
  have hlen := size_len l 1
  have hszl : sizeX (.node k s f l) = sizeXL l 1 := by simp only [sizeX]
  obtain ⟨us, hus, Bs, hxs, hsub⟩ := hc.ex.rows
  repeat (first | (refine Trip.ops ?_))
  refine OpsL.new (by subst_vars; decide) (aop_buildSlice (l := []) (r := (.slice (some ⟨nx, 0, none⟩) 0 0, .new (.cells [] 4 none false (some 28)))) (by simp only [evParts]) (by exact rfl)) ?_
  obtain ⟨G, hG⟩ : ∃ G, G = H.put nx (.cells [] 4 none false (some 28)) := ⟨_, rfl⟩
  have x1 : Ext nx H (nx + 1) G := by rw [hG]; exact Ext.newPut
  have r1 : G nx = some (.cells [] 4 none false (some 28)) := by rw [hG]; exact Heap.put_eq
  have ok1 : ∀ id o, G id = some o → id < nx + 1 := by rw [hG]; exact ok_new hok
  rw [← hG]
  clear hG
  have c1 := hc.ext hx.2.1 x1
  have g3 : cellAt G ⟨X, 3, none⟩ (.slice va l.length vc) := cell_of c1.cell rfl
  repeat (first | (refine OpsL.q (by first | exact ofa | exact old) ?_))
  have hus1 : RowsAt encX 4 G (.slice va l.length vc) us := hus.ext x1 hok
  have hrow0 : RowE encX 4 28 G none (.slice (some ⟨nx, 0, none⟩) 0 0) ([] : List XV) := .inr ⟨rfl, rfl, nx, 4, false, _, rfl, r1⟩
  have hul := hxs.1
  refine OpsL.appendE (bytes := 48) (z := [.int .i64 0, .int .i64 0, .int .i64 0, .slice none 0 0]) encX_len encX_one (by omega) (by subst_vars; decide) hrow0 hus1 (by (first | (simp only [ASt.ev, tmPut, ↓reduceIte, Nat.reduceEqDiff, *]; done))) (by (first | (simp only [ASt.ev, tmPut, ↓reduceIte, Nat.reduceEqDiff, *]; done))) (fun b t e => by cases e) (by exact rfl) (by exact rfl) (by exact rfl) (by exact rfl) (by exact rfl) rfl (by simp; omega) (by omega) ?_
  intro v2 n2 G2 ob2 a2
  have ok2 := a2.ok (fun b t e => by cases e) ok1
  have x2 : Ext (nx + 1) G n2 G2 := ⟨a2.le, fun i hi => a2.same i hi fun b t e => by cases e⟩
  have own2 := a2.own
  rw [List.nil_append] at own2
  have blk2 : ∀ b t, ob2 = some (b, t) → b < n2 ∧ nx < b := fun b t e => by
    have := a2.blk b t e
    rcases this with ⟨h1, rfl | ⟨t', h2⟩⟩
    · omega
    · cases h2
  repeat (first | (refine OpsL.q (by exact omv) ?_))
  refine OpsL.c2 (hf := entersWithin5) (hc := (within5C W0 _ _ (by omega) (by omega))) (h := ?_)
  rintro u n3 G3 ⟨rfl, h2', h3'⟩
  subst h2'; subst h3'
  repeat fail
  refine OpsL.p (by subst_vars; decide) (aop_build (l := [(0, .int .i64 (v % 9))]) (by simp [evParts, ASt.ev, tmPut, plainC, plain1, *]) (v := .agg #[.int .i64 (v % 9), .int .i64 0, .int .i64 0, .slice none 0 0]) (by exact rfl)) ?_
  refine OpsL.new (by subst_vars; decide) (aop_buildSlice (l := [(0, .agg #[.int .i64 (v % 9), .int .i64 0, .int .i64 0, .slice none 0 0])]) (r := (.slice (some ⟨n3, 0, none⟩) 1 1, .new (.cells [.int .i64 (v % 9), .int .i64 0, .int .i64 0, .slice none 0 0] 4 none false (some 28)))) (by simp [evParts, ASt.ev, tmPut, plainC, plain1, *]) (by exact rfl)) ?_
  generalize v % 9 = z at *
  obtain ⟨G4, hG4⟩ : ∃ G4, G4 = G3.put n3 (.cells [.int .i64 z, .int .i64 0, .int .i64 0, .slice none 0 0] 4 none false (some 28)) := ⟨_, rfl⟩
  have x4 : Ext n3 G3 (n3 + 1) G4 := by rw [hG4]; exact Ext.newPut
  have r4 : G4 n3 = some (.cells [.int .i64 z, .int .i64 0, .int .i64 0, .slice none 0 0] 4 none false (some 28)) := by rw [hG4]; exact Heap.put_eq
  have ok4 : ∀ id o, G4 id = some o → id < n3 + 1 := by rw [hG4]; exact ok_new ok2
  rw [← hG4]
  clear hG4
  have own4 := own2.same x4 ok2 fun b t e => (blk2 b t e).1
  have hu4 : RowsAt encX 4 G4 (.slice (some ⟨n3, 0, none⟩) 1 1) [(z, 0, 0, none, 0, 0)] := .inr ⟨_, _, rfl, fun i hi => by
    have : i = 0 := by simpa using hi
    subst this
    exact getc_all r4 rfl⟩
  refine OpsL.appendE (bytes := 48) (z := [.int .i64 0, .int .i64 0, .int .i64 0, .slice none 0 0]) encX_len encX_one (by omega) (by subst_vars; decide) own4 hu4 (by (first | (simp only [ASt.ev, tmPut, ↓reduceIte, Nat.reduceEqDiff, *]; done))) (by (first | (simp only [ASt.ev, tmPut, ↓reduceIte, Nat.reduceEqDiff, *]; done))) (fun b t e => by have := blk2 b t e; omega) (by exact rfl) (by exact rfl) (by exact rfl) (by exact rfl) (by exact rfl) rfl (by simp; omega) (by omega) ?_
  intro v5 n5 G5 ob5 a5
  have x25 : Ext (nx + 1) G n5 G5 := by
    have q1 := x2.1
    have q4 := x4.1
    have q5 := a5.le
    refine ⟨by omega, fun i hi => ?_⟩
    rw [a5.same i (by omega) (fun b t e => by have := blk2 b t e; omega), x4.2 i (by omega), x2.2 i hi]
  have x5 := x1.trans x25
  have h5 := h.next x5
  have c5 := hc.ext hx.2.1 x5
  have own5 : OwnOf encX 4 28 G5 ob5 v5 (us ++ [(z, 0, 0, none, 0, 0)]) := by
    rcases a5.own with h | ⟨_, h, _⟩
    · exact h
    · simp at h
  have hxs5 : XsAt G5 us l Bs := hxs.same fun b hb => x5.2 b (hc.lt b (hsub.subset hb))
  obtain ⟨nb, t, hob, hv5, hex⟩ := (hxs5.snoc z).node own5 (by simp) k s f
  have hnb : nx < nb ∧ nb < n5 := by
    have q1 := x2.1
    have := a5.blk nb t hob
    rcases this with ⟨h1, rfl | ⟨t', h2⟩⟩
    · omega
    · have := blk2 nb t' h2
      omega
  subst hv5
  repeat (first | (refine OpsL.q (by exact ofa) ?_))
  refine OpsL.storeAt 3 (cs' := [.int .i64 k, .int .i64 s, .int .i64 f, .slice (some ⟨nb, 0, some t⟩) (l ++ [Ex.node z 0 0 []]).length (l ++ [Ex.node z 0 0 []]).length]) (by (first | (simp only [ASt.ev, tmPut, ↓reduceIte, Nat.reduceEqDiff, *]; rfl))) (by (first | (simp only [ASt.ev, tmPut, ↓reduceIte, Nat.reduceEqDiff, *]; rfl))) (by exact rfl) rfl rfl c5.cell rfl (by simp) rfl ?_
  repeat (first | (refine OpsL.nil ?_; (dsimp only)))
  rw [snoc_blocks] at hex
  exact hQ _ _ _ (.node k s f (l ++ [.node z 0 0 []])) (by simp [tmPut, *]) (by simp [tmPut, *]) (by simp [tmPut, *]) (by simp [tmPut, *]) (h5.set (fun i hi => Heap.put_ne hi) Heap.put_eq hex (List.nodup_cons.2 ⟨fun hm => by have := hc.lt _ (hsub.subset hm); omega, hc.nd.sublist hsub⟩) (fun b hb => by
    rcases List.mem_cons.1 hb with rfl | hb
    · omega
    · have hb' := hsub.subset hb
      have := hc.lt b hb'
      exact ⟨by omega, hc.ne b hb', hcA b hb'⟩)) (by rw [sizeX_snoc k s f k s f l z]; omega)
end Go.Proofs.YtmijhkclfoadaaaDoor
