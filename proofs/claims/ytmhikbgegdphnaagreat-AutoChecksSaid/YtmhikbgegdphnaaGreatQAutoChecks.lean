/-
  The law AutoChecks of chapter 3 holds for all numbers: of a machine with one thing turned whether it may be is told as the document says.
  Conditions: none beyond the row's own.
-/
import Derived.Test.YtmhikbgegdphnaaGreatQCheck3
import Derived.Test.YtmhikbgegdphnaaGreatQRefChk3
import Derived.Test.YtmhikbgegdphnaaGreatQMake3
namespace Go.Am
set_option linter.unusedSimpArgs false
set_option linter.unusedVariables false
open Go.RowKit
section
variable {P : Program} {W0 : World} {ops : Array Oper} {acts : List Nat} {K : Nat → Heap → Prop}
/-- Two that act, the second one further on. -/
theorem OpsR.act2k {m i k : Nat} {l : List Nat} {st : ASt} {Q : ASt → Prop} (hw : ((l.all fun j => Nat.beq j k || ((i :: l).erase j).any fun q => depD ops j q) && !Nat.beq i k) = true) (h1 : ActStep P W0 ops acts K i st fun s => OpsR P W0 ops acts K m l s Q) (h2 : ActStep P W0 ops acts K k st fun s => OpsR P W0 ops acts K m ((i :: l).erase k) s Q) : OpsR P W0 ops acts K (m + 1) (i :: l) st Q := by
  simp only [Bool.and_eq_true, Bool.not_eq_true'] at hw
  refine .inr fun j hj hf => ?_
  by_cases e : j = i
  · subst e
    rw [List.erase_cons_head]
    exact h1
  · by_cases e2 : j = k
    · subst e2
      exact h2
    · exfalso
      have hj2 : j ∈ l := by
        rcases List.mem_cons.1 hj with h | h
        · exact absurd h e
        · exact h
      have := List.all_eq_true.1 hw.1 j hj2
      rw [Bool.or_eq_true] at this
      rcases this with h | h
      · exact e2 (Nat.eq_of_beq_eq_true h)
      · rw [List.any_eq_true] at h
        obtain ⟨q, hq, hd⟩ := h
        have := List.all_eq_true.1 hf q hq
        rw [hd] at this
        cases this
end
section
variable {P : Program} {W0 : World} {ops : Array Oper} {H : Heap} {nx n : Nat} {type : TypeId} {pos : String} {after : Array Edge} {l : List Oper} {tm : Nat → Value} {QQ : ASt → Prop} {d : Tmp} {ts : Array TypeId} {f : FuncId} {R : Value → Nat → Heap → Prop}
theorem OpsL.call4 {x y z w : Operand} {a b c e : Value} (hd : d < n) (hx : ASt.ev ⟨tm, n, H, nx⟩ x = some a) (hy : ASt.ev ⟨tm, n, H, nx⟩ y = some b) (hz : ASt.ev ⟨tm, n, H, nx⟩ z = some c) (hw : ASt.ev ⟨tm, n, H, nx⟩ w = some e) (hf : Enters P f) (hcall : ACalls P W0 f [a, b, c, e] nx H R) (h : ∀ v nx' H', R v nx' H' → OpsL P W0 ops l ⟨tmPut tm (some d) v, n, H', nx'⟩ QQ) :
    OpsL P W0 ops (⟨some d, .call ⟨.value (.func f), #[x, y, z, w], ts⟩, type, pos, after, none⟩ :: l) ⟨tm, n, H, nx⟩ QQ := by
  refine OpsL.call R (by simp [dstOk, hd]) rfl ?_ hf hcall h
  have hf' : ASt.ev ⟨tm, n, H, nx⟩ (.func f) = some (.func (.func f) #[] #[]) := rfl
  simp [callee, hf', evAll, hx, hy, hz, hw]
end
theorem wf64 {a : Int} (h : (Lit.int .i64 a).wf = true) : -9223372036854775808 ≤ a ∧ a ≤ 9223372036854775807 := by
  have h' : (decide (IntKind.i64.min ≤ a) && decide (a ≤ IntKind.i64.max)) = true := h
  rw [Bool.and_eq_true, decide_eq_true_eq, decide_eq_true_eq] at h'
  exact h'
section
variable {P : Program} {H : Heap} {nx : Nat} {ev : Operand → Option Value} {dst : Option Tmp} {type : TypeId} {pos : String} {after : Array Edge} {guard : Option (Nat × Bool)}
theorem aop_quoT {t u : TypeId} {x y : Operand} {a b : Int} (hx : ev x = some (.int .i64 a)) (hy : ev y = some (.int .i64 b)) (hb : 0 < b) (h0 : -9223372036854775808 ≤ a) (h1 : a ≤ 9223372036854775807) :
    aop P H nx ev ⟨dst, .binOp .quo t x y u, type, pos, after, guard⟩ = some (.int .i64 (a.tdiv b), .none) := by
  have hb0 : ¬ b = 0 := by omega
  have e : -9223372036854775808 ≤ a.tdiv b ∧ a.tdiv b ≤ 9223372036854775807 := by
    rcases Int.le_total 0 a with h | h
    · have h2 := Int.tdiv_le_self (b := b) (a := a) h
      have h3 := Int.tdiv_nonneg h (show 0 ≤ b by omega)
      omega
    · obtain ⟨c, rfl⟩ : ∃ c : Int, a = -c := ⟨-a, by omega⟩
      have hc : 0 ≤ c := by omega
      rw [Int.neg_tdiv]
      have h2 := Int.tdiv_le_self (b := b) (a := c) hc
      have h3 := Int.tdiv_nonneg hc (show 0 ≤ b by omega)
      omega
  have w : IntKind.i64.wrap (a.tdiv b) = a.tdiv b := by rw [wrap_i64]; omega
  simp [aop, hx, hy, aBin, intArith, hb0, w]
end
end Go.Am
namespace Go.Proofs.YtmhikbgegdphnaaGreat
set_option linter.unusedSimpArgs false
set_option linter.unusedVariables false
open Go.Am Go.RowKit
theorem MkIn.num {H : Heap} {base A nx : Nat} {a : Aut} {l : List (Option (Nat × Nat))} {vi vf vo vc vn : Value} (h : MkIn H base A nx a l vi vf vo vc vn) (N G : Int) :
    MkIn (H.put A (.cells (autV ⟨N, G, a.init, a.final, a.opens, a.closes, a.inners⟩ vi vf vo vc vn) 0 none false (some 30))) base A nx ⟨N, G, a.init, a.final, a.opens, a.closes, a.inners⟩ l vi vf vo vc vn := by
  have hs : ∀ (k : Nat) (ob : Option (Nat × Nat)), l[k]? = some ob → ∀ b t, ob = some (b, t) → (H.put A (.cells (autV ⟨N, G, a.init, a.final, a.opens, a.closes, a.inners⟩ vi vf vo vc vn) 0 none false (some 30))) b = H b := fun k ob hl b t e => by
    subst e
    exact Heap.put_ne (h.sep.1 k b t hl).2.1
  refine ⟨Heap.put_eq, h.len, ?_, ?_, ?_, ?_, ?_, h.sep, h.hA, h.hb⟩
  · obtain ⟨b, h1, h2⟩ := h.init; exact ⟨b, h1, AppI.same (hs _ _ h1) h2⟩
  · obtain ⟨b, h1, h2⟩ := h.final; exact ⟨b, h1, OwnRow.same (hs _ _ h1) h2⟩
  · obtain ⟨b, h1, h2⟩ := h.opens; exact ⟨b, h1, OwnRow.same (hs _ _ h1) h2⟩
  · obtain ⟨b, h1, h2⟩ := h.closes; exact ⟨b, h1, OwnRow.same (hs _ _ h1) h2⟩
  · obtain ⟨b, h1, h2⟩ := h.inners; exact ⟨b, h1, OwnRow.same (hs _ _ h1) h2⟩
end Go.Proofs.YtmhikbgegdphnaaGreat
namespace Go.Proofs.YtmhikbgegdphnaaGreat.autoChecks
set_option linter.unusedSimpArgs false
set_option linter.unusedVariables false
open Go.Am Go.RowKit Go.ChangeShapes Go.WideShapes Go.ChangeAt
attribute [local irreducible] aop OpsL Trip blockExit OpsD OpsK OpsR
theorem entersKnown : Am.Enters Tryz.prog 12 := ⟨Tryz.f12, Tryz.func12, by kernel_rfl, by kernel_rfl⟩
set_option maxRecDepth 20000 in
set_option maxHeartbeats 32000000 in
theorem law (W0 : World) {nx : Nat} {H : Heap} {m size which at_ v : Int} {nv : Value} {ns : List Int} (hn : IntsAt H nv ns) (hs : -9223372036854775808 ≤ size ∧ size ≤ 9223372036854775807) (hat : -9223372036854775808 ≤ at_ ∧ at_ ≤ 9223372036854775807) :
    ACalls Tryz.prog W0 3 [.int .i64 m, .int .i64 size, nv, .int .i64 which, .int .i64 at_, .int .i64 v] nx H fun v _ _ => v = .bool true := by
  refine ACalls.by_trip (fn := Tryz.f3) (c := _) Tryz.func3 rfl (fun tm n hn0 htm => ?_)
  have e0 : tm 0 = .int .i64 m := htm 0
  have e1 : tm 1 = .int .i64 size := htm 1
  have e2 : tm 2 = nv := htm 2
  have q3 : tm 3 = .int .i64 which := htm 3
  have q4 : tm 4 = .int .i64 at_ := htm 4
  have e5 : tm 5 = .int .i64 v := htm 5
  clear htm
  replace hn0 : n = 162 := hn0
  refine Trip.ok fun hok => ?_
  replace hok : ∀ id o, H id = some o → id < nx := hok
  repeat (first | (refine OpsL.p (by subst_vars; decide) (by (first | (exact aop_assign (by (first | (simp only [ASt.ev, tmPut, ↓reduceIte, Nat.reduceEqDiff, *]; rfl)))))) ?_) | (refine Trip.seq ?_) | (refine Trip.ops ?_) | (refine OpsL.nil ?_; (change Trip _ _ _ _ _)))
  refine OpsL.call0 (by subst_vars; decide) entersKnown ((known_told W0 Tabs.nil).2 nx H) ?_
  rintro v0 nx0 H0 ⟨rfl, rfl, rfl⟩
  dsimp only
  repeat (first | (refine OpsL.p (by subst_vars; decide) (by (first | (exact aop_not (by (first | (simp only [ASt.ev, tmPut, ↓reduceIte, Nat.reduceEqDiff, *]; rfl)))))) ?_) | (refine OpsL.nil ?_; (change Trip _ _ _ _ _)))
  refine Trip.iteB (b := false) (by (first | (simp only [ASt.ev, tmPut, ↓reduceIte, Nat.reduceEqDiff, *]; rfl))) (fun h => absurd h (by decide)) (fun _ => ?_)
  repeat (first | (refine OpsL.p (by subst_vars; decide) (by (first | (exact aop_move (by (first | (simp only [ASt.ev, tmPut, ↓reduceIte, Nat.reduceEqDiff, *]; rfl)))))) ?_) | (refine Trip.seq ?_) | (refine Trip.ops ?_) | (refine Trip.skip ?_; (change Trip _ _ _ _ _)))
  refine OpsL.call2 (by subst_vars; decide) (by (first | (simp only [ASt.ev, tmPut, ↓reduceIte, Nat.reduceEqDiff, *]; rfl))) (by (first | (simp only [ASt.ev, tmPut, ↓reduceIte, Nat.reduceEqDiff, *]; done))) entersSyms (symsC W0 hn).ok ?_
  rintro lv nx1 H1 ⟨⟨hl, x1⟩, k1⟩
  obtain ⟨hg1, hg2, -⟩ := symsF_good m ns
  have hss : (symsF m ns).length ≤ 1000 := by omega
  have hl1 := hl
  generalize symsF m ns = ss at *
  repeat (first | (refine OpsL.p (by subst_vars; decide) (by (first | (exact aop_move (by (first | (simp only [ASt.ev, tmPut, ↓reduceIte, Nat.reduceEqDiff, *]; rfl)))) | (exact aop_assign (by (first | (simp only [ASt.ev, tmPut, ↓reduceIte, Nat.reduceEqDiff, *]; rfl)))))) ?_) | (refine Trip.seq ?_) | (refine Trip.ops ?_) | (refine OpsL.nil ?_; (change Trip _ _ _ _ _)))
  refine OpsL.call4 (by subst_vars; decide) (by (first | (simp only [ASt.ev, tmPut, ↓reduceIte, Nat.reduceEqDiff, *]; done))) (by (first | (simp only [ASt.ev, tmPut, ↓reduceIte, Nat.reduceEqDiff, *]; done))) (by (first | (simp only [ASt.ev, tmPut, ↓reduceIte, Nat.reduceEqDiff, *]; done))) (by (first | (simp only [ASt.ev, tmPut, ↓reduceIte, Nat.reduceEqDiff, *]; rfl))) entersMake (makeC W0 hl hss (hn.ext x1 hok) (show (1 : Int) ≤ 4 by omega) (by omega) hs.1 hs.2).ok ?_
  rintro u nx2 H2 ⟨⟨A0, l, vi, vf, vo, vc, vn, rfl, hmk, x2⟩, k2⟩
  have hgood := GoodM.make ss (size := size) (show (1 : Int) ≤ 4 by omega) ns
  generalize makeM ss size 4 ns = a at *
  dsimp only
  repeat fail
  refine OpsL.new (by subst_vars; decide) (aop_alloc (l := zeroA) (by kernel_rfl)) ?_
  have hone : ((autV a vi vf vo vc vn).all (·.oneCell')) = true := by
    obtain ⟨b0, _, w0⟩ := hmk.init
    obtain ⟨b1, _, w1⟩ := hmk.final
    obtain ⟨b2, _, w2⟩ := hmk.opens
    obtain ⟨b3, _, w3⟩ := hmk.closes
    obtain ⟨b4, _, w4⟩ := hmk.inners
    obtain ⟨_, _, z0⟩ := w0.at.slice
    obtain ⟨_, _, z1⟩ := w1.at.slice
    obtain ⟨_, _, z2⟩ := (w2.at e4_len).slice
    obtain ⟨_, _, z3⟩ := (w3.at e4_len).slice
    obtain ⟨_, _, z4⟩ := (w4.at e3_len).slice
    rw [z0, z1, z2, z3, z4]
    rfl
  refine OpsL.upd (aop_store (k := 7) (by (first | (simp only [ASt.ev, tmPut, ↓reduceIte, Nat.reduceEqDiff, *]; rfl))) (by (first | (simp only [ASt.ev, tmPut, ↓reduceIte, Nat.reduceEqDiff, *]; rfl))) (by exact rfl) rfl (o := .cells (autV a vi vf vo vc vn) 0 none false (some 30)) (by
    unfold setc
    simp only [Heap.put_eq]
    rw [if_pos ⟨trivial, by simp [Value.cells, autV, zeroA], trivial, by simpa [Value.cells] using hone⟩]
    simp [Value.cells, autV, zeroA])) ?_
  obtain ⟨G, hG⟩ : ∃ G, G = (H2.put nx2 (.cells zeroA 0 none false (some 30))).put nx2 (.cells (autV a vi vf vo vc vn) 0 none false (some 30)) := ⟨_, rfl⟩
  have x3 : Ext nx2 H2 (nx2 + 1) G := by rw [hG]; exact Ext.newPut.put (Nat.le_refl _)
  have hm := hmk.move (A' := nx2) x3 (Nat.le_refl _) (Nat.lt_succ_self _) (by rw [hG, Heap.put_eq])
  have k3 : ∀ id o, G id = some o → id < nx2 + 1 := fun id o h => by
    by_cases c : id = nx2
    · omega
    · rw [hG, Heap.put_ne c, Heap.put_ne c] at h
      have := k2 id o h
      omega
  change OpsL _ _ _ _ (ASt.mk _ _ ((H2.put nx2 (.cells zeroA 0 none false (some 30))).put nx2 (.cells (autV a vi vf vo vc vn) 0 none false (some 30))) _) _
  rw [← hG]
  clear hG hmk hone
  repeat (first | (refine OpsL.p (by subst_vars; decide) (by (first | (exact aop_move (by (first | (simp only [ASt.ev, tmPut, ↓reduceIte, Nat.reduceEqDiff, *]; rfl)))))) ?_) | (refine Trip.seq ?_) | (refine Trip.ops ?_) | (refine OpsL.nil ?_; (change Trip _ _ _ _ _)))
  refine OpsL.p (by subst_vars; decide) (aop_loadAgg (k := 7) (by (first | (simp only [ASt.ev, tmPut, ↓reduceIte, Nat.reduceEqDiff, *]; done))) (by exact rfl) rfl (by exact rfl) (getc_all hm.cell rfl)) ?_
  refine OpsL.call2 (by subst_vars; decide) (by (first | (simp only [ASt.ev, tmPut, ↓reduceIte, Nat.reduceEqDiff, *]; done))) (by (first | (simp only [ASt.ev, tmPut, ↓reduceIte, Nat.reduceEqDiff, *]; done))) entersCheck (checkC W0 (hl.ext (x2.trans x3) k1) hss hm.in (hgood.lens (by omega))).ok ?_
  rintro u nx4 H4 ⟨⟨rfl, x4⟩, k4⟩
  rw [hgood.check (by omega) (by omega)]
  dsimp only
  replace hm := hm.ext x4
  replace hl := hl.ext ((x2.trans x3).trans x4) k1
  have x14 := (x2.trans x3).trans x4
  repeat fail
  refine OpsL.p (by subst_vars; decide) (aop_neqF (by (first | (simp only [ASt.ev, tmPut, ↓reduceIte, Nat.reduceEqDiff, *]; rfl))) (by (first | (simp only [ASt.ev, tmPut, ↓reduceIte, Nat.reduceEqDiff, *]; rfl))) rfl) ?_
  repeat (first | (refine OpsL.nil ?_; (change Trip _ _ _ _ _)))
  refine Trip.iteB (b := false) (by (first | (simp only [ASt.ev, tmPut, ↓reduceIte, Nat.reduceEqDiff, *]; done))) (fun h => absurd h (by decide)) (fun _ => ?_)
  repeat (first | (refine OpsL.p (by subst_vars; decide) (by (first | (exact aop_move (by (first | (simp only [ASt.ev, tmPut, ↓reduceIte, Nat.reduceEqDiff, *]; rfl)))))) ?_) | (refine Trip.seq ?_) | (refine Trip.ops ?_) | (refine Trip.skip ?_; (change Trip _ _ _ _ _)))
  have p0 := Int.emod_nonneg v (show (11 : Int) ≠ 0 by omega)
  have p1 := Int.emod_lt_of_pos v (show (0 : Int) < 11 by omega)
  obtain ⟨k, hk⟩ : ∃ k : Nat, v % 11 = k := ⟨(v % 11).toNat, by omega⟩
  have hk11 : k < ([-1, 0, 1, 2, 3, 4, 200, 201, 10000, 10001, v] : List Int).length := by show k < 11; omega
  refine OpsL.new (by subst_vars; decide) (aop_buildSlice (l := [(0, .int .i64 (-1)), (1, .int .i64 0), (2, .int .i64 1), (3, .int .i64 2), (4, .int .i64 3), (5, .int .i64 4), (6, .int .i64 200), (7, .int .i64 201), (8, .int .i64 10000), (9, .int .i64 10001), (10, .int .i64 v)]) (r := (.slice (some ⟨nx4, 0, none⟩) 11 11, .new (.cells (([-1, 0, 1, 2, 3, 4, 200, 201, 10000, 10001, v] : List Int).map (.int .i64 ·)) 1 none false (some 3)))) (by simp [evParts, ASt.ev, tmPut, plainC, plain1, *]) (by kernel_rfl)) ?_
  have x5 : Ext nx4 H4 (nx4 + 1) (H4.put nx4 (.cells (([-1, 0, 1, 2, 3, 4, 200, 201, 10000, 10001, v] : List Int).map (.int .i64 ·)) 1 none false (some 3))) := Ext.newPut
  have hx5 : (H4.put nx4 (.cells (([-1, 0, 1, 2, 3, 4, 200, 201, 10000, 10001, v] : List Int).map (.int .i64 ·)) 1 none false (some 3))) nx4 = some (.cells (([-1, 0, 1, 2, 3, 4, 200, 201, 10000, 10001, v] : List Int).map (.int .i64 ·)) 1 none false (some 3)) := Heap.put_eq
  have k5 := ok_new (o := (.cells (([-1, 0, 1, 2, 3, 4, 200, 201, 10000, 10001, v] : List Int).map (.int .i64 ·)) 1 none false (some 3))) k4
  generalize (H4.put nx4 (.cells (([-1, 0, 1, 2, 3, 4, 200, 201, 10000, 10001, v] : List Int).map (.int .i64 ·)) 1 none false (some 3))) = H5 at *
  have hc5 : cellAt H5 ⟨nx4, 0 + (k : Int).toNat * 1, none⟩ (.int .i64 ([-1, 0, 1, 2, 3, 4, 200, 201, 10000, 10001, v] : List Int)[k]) := by
    have := cell_of (k := k) (v := .int .i64 ([-1, 0, 1, 2, 3, 4, 200, 201, 10000, 10001, v] : List Int)[k]) hx5 (by rw [List.getElem?_map, List.getElem?_eq_getElem hk11]; rfl)
    simpa using this
  generalize ([-1, 0, 1, 2, 3, 4, 200, 201, 10000, 10001, v] : List Int)[k] = x at *
  replace hm := hm.ext x5
  replace hl := hl.ext x5 k4
  replace x14 := x14.trans x5
  clear x5 hx5
  obtain ⟨n5, hn5⟩ : ∃ q, q = nx4 + 1 := ⟨_, rfl⟩
  rw [← hn5] at hm k5 x14 ⊢
  repeat (first | (refine OpsL.p (by subst_vars; decide) (by (first | (exact aop_move (by (first | (simp only [ASt.ev, tmPut, ↓reduceIte, Nat.reduceEqDiff, *]; rfl)))))) ?_))
  refine OpsL.call2 (by subst_vars; decide) (by (first | (simp only [ASt.ev, tmPut, ↓reduceIte, Nat.reduceEqDiff, *]; rfl))) (by (first | (simp only [ASt.ev, tmPut, ↓reduceIte, Nat.reduceEqDiff, *]; rfl))) entersWithin (within3C W0 _ _ (by omega) (by omega)) ?_
  rintro u n6 H6 ⟨rfl, h2', h3'⟩
  subst h2'; subst h3'
  rw [hk]
  repeat (first | (refine OpsL.p (by subst_vars; decide) (by (first | (exact aop_move (by (first | (simp only [ASt.ev, tmPut, ↓reduceIte, Nat.reduceEqDiff, *]; rfl)))) | (exact aop_assign (by (first | (simp only [ASt.ev, tmPut, ↓reduceIte, Nat.reduceEqDiff, *]; rfl)))) | (exact aop_indexAddr (by (first | (simp only [ASt.ev, tmPut, ↓reduceIte, Nat.reduceEqDiff, *]; rfl))) (by (first | (simp only [ASt.ev, tmPut, ↓reduceIte, Nat.reduceEqDiff, *]; rfl))) (by exact rfl) (by exact rfl) (by omega) (by omega)) | (exact aop_load (by (first | (simp only [ASt.ev, tmPut, ↓reduceIte, Nat.reduceEqDiff, *]; rfl))) (by exact rfl) rfl (by assumption)))) ?_) | (refine Trip.seq ?_) | (refine Trip.ops ?_) | (refine OpsL.nil ?_; (change Trip _ _ _ _ _)))
  refine OpsL.call2 (by subst_vars; decide) (by (first | (simp only [ASt.ev, tmPut, ↓reduceIte, Nat.reduceEqDiff, *]; rfl))) (by (first | (simp only [ASt.ev, tmPut, ↓reduceIte, Nat.reduceEqDiff, *]; rfl))) entersWithin (within3C W0 _ _ (by omega) (by omega)) ?_
  rintro u n7 H7 ⟨rfl, h2', h3'⟩
  subst h2'; subst h3'
  have w0 := Int.emod_nonneg which (show (12 : Int) ≠ 0 by omega)
  have w1 := Int.emod_lt_of_pos which (show (0 : Int) < 12 by omega)
  generalize which % 12 = w at *
  refine OpsL.nil ?_
  (change Trip _ _ _ _ _)
  have hA := hm.hA
  have hlen := hgood.len
  have hxl : ∀ i, i < nx1 → H7 i = H1 i := x14.2
  have hx1 := x14.1
  refine Trip.mono (Q := fun e st => e = .normal ∧ ∃ (tm' : Nat → Value) (nx5 : Nat) (H5 : Heap) (b : Aut) (l' : List (Option (Nat × Nat))) (wi wf wo wc wn : Value), st = ⟨tm', n, H5, nx5⟩ ∧ MkIn H5 nx1 nx2 nx5 b l' wi wf wo wc wn ∧ AutLen b ∧ Ext nx1 H1 nx5 H5 ∧ tm' 13 = lv ∧ tm' 14 = .pointer (some ⟨nx2, 0, none⟩)) ?_ ?_
  · clear e0 e1 e2 q3 e5 hc5
    have c2 : cellAt H7 ⟨nx2, 2, none⟩ vi := cell_of hm.cell rfl
    have c3 : cellAt H7 ⟨nx2, 3, none⟩ vf := cell_of hm.cell rfl
    have c4 : cellAt H7 ⟨nx2, 4, none⟩ vo := cell_of hm.cell rfl
    have c5 : cellAt H7 ⟨nx2, 5, none⟩ vc := cell_of hm.cell rfl
    have c6 : cellAt H7 ⟨nx2, 6, none⟩ vn := cell_of hm.cell rfl
    have x21 := x2.1
    repeat (first | (refine Trip.seq ?_) | (refine Trip.ops ?_) | (refine Trip.block ?_))
    by_cases m0 : w = 0
    · refine OpsL.p (by subst_vars; decide) (aop_eqlT (by (first | (simp only [ASt.ev, tmPut, ↓reduceIte, Nat.reduceEqDiff, *]; rfl))) (by (first | (simp only [ASt.ev, tmPut, ↓reduceIte, Nat.reduceEqDiff, *]; rfl))) m0) ?_
      repeat (first | (refine OpsL.p (by subst_vars; decide) (by (first | (exact aop_assign (by (first | (simp only [ASt.ev, tmPut, ↓reduceIte, Nat.reduceEqDiff, *]; rfl)))))) ?_) | (refine OpsL.nil ?_; (change Trip _ _ _ _ _)))
      refine Trip.iteB (b := true) (by (first | (simp only [ASt.ev, tmPut, ↓reduceIte, Nat.reduceEqDiff, *]; done))) (fun _ => ?_) (fun h => absurd h (by decide))
      repeat (first | (refine OpsL.p (by subst_vars; decide) (by (first | (exact aop_move (by (first | (simp only [ASt.ev, tmPut, ↓reduceIte, Nat.reduceEqDiff, *]; rfl)))) | (exact aop_fieldAddr (by (first | (simp only [ASt.ev, tmPut, ↓reduceIte, Nat.reduceEqDiff, *]; rfl))) (by exact rfl)))) ?_) | (refine Trip.ops ?_))
      refine OpsL.storeAt 0 (cs' := autV ⟨x, a.G, a.init, a.final, a.opens, a.closes, a.inners⟩ vi vf vo vc vn) (by (first | (simp only [ASt.ev, tmPut, ↓reduceIte, Nat.reduceEqDiff, *]; rfl))) (by (first | (simp only [ASt.ev, tmPut, ↓reduceIte, Nat.reduceEqDiff, *]; rfl))) (by exact rfl) rfl rfl hm.cell rfl (by simp [autV]) rfl ?_
      have hm2 := hm.num x a.G
      have hlb : AutLen ⟨x, a.G, a.init, a.final, a.opens, a.closes, a.inners⟩ := ⟨by show a.init.length ≤ 1000; omega, by show a.final.length ≤ 1000; omega, by show a.opens.length ≤ 1000; omega, by show a.closes.length ≤ 1000; omega, by show a.inners.length ≤ 1000; omega⟩
      repeat (first | (refine OpsL.nil ?_; ((repeat (refine blockExit_normal ?_)); dsimp only)))
      exact ⟨rfl, _, _, _, _, _, _, _, _, _, _, rfl, hm2, hlb, ⟨hx1, fun i hi => by rw [Heap.put_ne (show i ≠ nx2 by omega), hxl i hi]⟩, by simp [tmPut, *], by simp [tmPut, *]⟩
    refine OpsL.p (by subst_vars; decide) (aop_eqlF (by (first | (simp only [ASt.ev, tmPut, ↓reduceIte, Nat.reduceEqDiff, *]; rfl))) (by (first | (simp only [ASt.ev, tmPut, ↓reduceIte, Nat.reduceEqDiff, *]; rfl))) m0) ?_
    repeat (first | (refine OpsL.p (by subst_vars; decide) (by (first | (exact aop_assign (by (first | (simp only [ASt.ev, tmPut, ↓reduceIte, Nat.reduceEqDiff, *]; rfl)))))) ?_) | (refine OpsL.nil ?_; (change Trip _ _ _ _ _)))
    refine Trip.iteB (b := false) (by (first | (simp only [ASt.ev, tmPut, ↓reduceIte, Nat.reduceEqDiff, *]; done))) (fun h => absurd h (by decide)) (fun _ => ?_)
    repeat (first | (refine Trip.seq ?_) | (refine Trip.ops ?_))
    by_cases m1 : w = 1
    · refine OpsL.p (by subst_vars; decide) (aop_eqlT (by (first | (simp only [ASt.ev, tmPut, ↓reduceIte, Nat.reduceEqDiff, *]; rfl))) (by (first | (simp only [ASt.ev, tmPut, ↓reduceIte, Nat.reduceEqDiff, *]; rfl))) m1) ?_
      repeat (first | (refine OpsL.p (by subst_vars; decide) (by (first | (exact aop_assign (by (first | (simp only [ASt.ev, tmPut, ↓reduceIte, Nat.reduceEqDiff, *]; rfl)))))) ?_) | (refine OpsL.nil ?_; (change Trip _ _ _ _ _)))
      refine Trip.iteB (b := true) (by (first | (simp only [ASt.ev, tmPut, ↓reduceIte, Nat.reduceEqDiff, *]; done))) (fun _ => ?_) (fun h => absurd h (by decide))
      repeat (first | (refine OpsL.p (by subst_vars; decide) (by (first | (exact aop_move (by (first | (simp only [ASt.ev, tmPut, ↓reduceIte, Nat.reduceEqDiff, *]; rfl)))) | (exact aop_fieldAddr (by (first | (simp only [ASt.ev, tmPut, ↓reduceIte, Nat.reduceEqDiff, *]; rfl))) (by exact rfl)))) ?_) | (refine Trip.ops ?_))
      refine OpsL.storeAt 1 (cs' := autV ⟨a.N, x, a.init, a.final, a.opens, a.closes, a.inners⟩ vi vf vo vc vn) (by (first | (simp only [ASt.ev, tmPut, ↓reduceIte, Nat.reduceEqDiff, *]; rfl))) (by (first | (simp only [ASt.ev, tmPut, ↓reduceIte, Nat.reduceEqDiff, *]; rfl))) (by exact rfl) rfl rfl hm.cell rfl (by simp [autV]) rfl ?_
      have hm2 := hm.num a.N x
      have hlb : AutLen ⟨a.N, x, a.init, a.final, a.opens, a.closes, a.inners⟩ := ⟨by show a.init.length ≤ 1000; omega, by show a.final.length ≤ 1000; omega, by show a.opens.length ≤ 1000; omega, by show a.closes.length ≤ 1000; omega, by show a.inners.length ≤ 1000; omega⟩
      repeat (first | (refine OpsL.nil ?_; ((repeat (refine blockExit_normal ?_)); dsimp only)))
      exact ⟨rfl, _, _, _, _, _, _, _, _, _, _, rfl, hm2, hlb, ⟨hx1, fun i hi => by rw [Heap.put_ne (show i ≠ nx2 by omega), hxl i hi]⟩, by simp [tmPut, *], by simp [tmPut, *]⟩
    refine OpsL.p (by subst_vars; decide) (aop_eqlF (by (first | (simp only [ASt.ev, tmPut, ↓reduceIte, Nat.reduceEqDiff, *]; rfl))) (by (first | (simp only [ASt.ev, tmPut, ↓reduceIte, Nat.reduceEqDiff, *]; rfl))) m1) ?_
    repeat (first | (refine OpsL.p (by subst_vars; decide) (by (first | (exact aop_assign (by (first | (simp only [ASt.ev, tmPut, ↓reduceIte, Nat.reduceEqDiff, *]; rfl)))))) ?_) | (refine OpsL.nil ?_; (change Trip _ _ _ _ _)))
    refine Trip.iteB (b := false) (by (first | (simp only [ASt.ev, tmPut, ↓reduceIte, Nat.reduceEqDiff, *]; done))) (fun h => absurd h (by decide)) (fun _ => ?_)
    repeat (first | (refine Trip.seq ?_) | (refine Trip.ops ?_))
    by_cases m2 : w = 2
    · refine OpsL.p (by subst_vars; decide) (aop_eqlT (by (first | (simp only [ASt.ev, tmPut, ↓reduceIte, Nat.reduceEqDiff, *]; rfl))) (by (first | (simp only [ASt.ev, tmPut, ↓reduceIte, Nat.reduceEqDiff, *]; rfl))) m2) ?_
      repeat (first | (refine OpsL.p (by subst_vars; decide) (by (first | (exact aop_assign (by (first | (simp only [ASt.ev, tmPut, ↓reduceIte, Nat.reduceEqDiff, *]; rfl)))))) ?_) | (refine OpsL.nil ?_; (change Trip _ _ _ _ _)))
      refine Trip.iteB (b := true) (by (first | (simp only [ASt.ev, tmPut, ↓reduceIte, Nat.reduceEqDiff, *]; done))) (fun _ => ?_) (fun h => absurd h (by decide))
      repeat (first | (refine OpsL.p (by subst_vars; decide) (by (first | (exact aop_move (by (first | (simp only [ASt.ev, tmPut, ↓reduceIte, Nat.reduceEqDiff, *]; rfl)))) | (exact aop_fieldAddr (by (first | (simp only [ASt.ev, tmPut, ↓reduceIte, Nat.reduceEqDiff, *]; rfl))) (by exact rfl)) | (exact aop_load (by (first | (simp only [ASt.ev, tmPut, ↓reduceIte, Nat.reduceEqDiff, *]; rfl))) (by exact rfl) rfl (by assumption)))) ?_) | (refine Trip.ops ?_))
      obtain ⟨ob, hj, hown⟩ := hm.init
      have hbl : ∀ b t, ob = some (b, t) → nx1 ≤ b ∧ b ≠ nx2 ∧ b < n7 := fun b t hb => hm.sep.1 0 b t (by rw [hj, hb])
      refine OpsL.appendA (by subst_vars; decide) (by subst_vars; decide) (by (first | (simp only [ASt.ev, tmPut, ↓reduceIte, Nat.reduceEqDiff, *]; rfl))) (by decide) (by (simp only [tmPut, ↓reduceIte, reduceIte, Option.some.injEq, Nat.reduceEqDiff, *])) hown (fun b t hb => (hbl b t hb).2.2) (by exact rfl) (by exact rfl) (by exact rfl) (by exact rfl) (by omega) ?_
      rintro v' ob' H8 hown' ⟨b, rfl, hb⟩ hsame
      have hm2 := hm.putI (p := x) (nx1 := n7 + 1 + 1) hj (.inl hown') (by rcases hb with hb | hb; exact .inl (by omega); exact .inr hb) (by rcases hb with rfl | ⟨t, hb⟩; omega; have := hbl b t hb; omega) (by omega) hsame
      have hcA : H8 nx2 = _ := (hsame nx2 hA (fun b t hb e => (hbl b t hb).2.1 e.symm)).trans hm.cell
      repeat (first | (refine OpsL.p (by subst_vars; decide) (by (first | (exact aop_fieldAddr (by (first | (simp only [ASt.ev, tmPut, ↓reduceIte, Nat.reduceEqDiff, *]; rfl))) (by exact rfl)))) ?_))
      refine OpsL.storeAt 2 (cs' := autV (putI a x) v' vf vo vc vn) (by (first | (simp only [ASt.ev, tmPut, ↓reduceIte, Nat.reduceEqDiff, *]; rfl))) (by (first | (simp only [ASt.ev, tmPut, ↓reduceIte, Nat.reduceEqDiff, *]; rfl))) (by exact rfl) (by rw [hown'.1]; rfl) (by rw [hown'.1]; rfl) hcA rfl (by simp [autV]) rfl ?_
      repeat (first | (refine OpsL.nil ?_; ((repeat (refine blockExit_normal ?_)); dsimp only)))
      have hlb : AutLen (putI a x) := ⟨by simp [putI, putF, putO, putC, putN]; omega, by simp [putI, putF, putO, putC, putN]; omega, by simp [putI, putF, putO, putC, putN]; omega, by simp [putI, putF, putO, putC, putN]; omega, by simp [putI, putF, putO, putC, putN]; omega⟩
      exact ⟨rfl, _, _, _, _, _, _, _, _, _, _, rfl, hm2, hlb, ⟨by omega, fun j hj => by rw [Heap.put_ne (show j ≠ nx2 by omega), hsame j (by omega) (fun b t hb => by have := hbl b t hb; omega), hxl j hj]⟩, by simp [tmPut, *], by simp [tmPut, *]⟩
    refine OpsL.p (by subst_vars; decide) (aop_eqlF (by (first | (simp only [ASt.ev, tmPut, ↓reduceIte, Nat.reduceEqDiff, *]; rfl))) (by (first | (simp only [ASt.ev, tmPut, ↓reduceIte, Nat.reduceEqDiff, *]; rfl))) m2) ?_
    repeat (first | (refine OpsL.p (by subst_vars; decide) (by (first | (exact aop_assign (by (first | (simp only [ASt.ev, tmPut, ↓reduceIte, Nat.reduceEqDiff, *]; rfl)))))) ?_) | (refine OpsL.nil ?_; (change Trip _ _ _ _ _)))
    refine Trip.iteB (b := false) (by (first | (simp only [ASt.ev, tmPut, ↓reduceIte, Nat.reduceEqDiff, *]; done))) (fun h => absurd h (by decide)) (fun _ => ?_)
    repeat (first | (refine Trip.seq ?_) | (refine Trip.ops ?_))
    by_cases m3 : w = 3
    · refine OpsL.p (by subst_vars; decide) (aop_eqlT (by (first | (simp only [ASt.ev, tmPut, ↓reduceIte, Nat.reduceEqDiff, *]; rfl))) (by (first | (simp only [ASt.ev, tmPut, ↓reduceIte, Nat.reduceEqDiff, *]; rfl))) m3) ?_
      repeat (first | (refine OpsL.p (by subst_vars; decide) (by (first | (exact aop_assign (by (first | (simp only [ASt.ev, tmPut, ↓reduceIte, Nat.reduceEqDiff, *]; rfl)))))) ?_) | (refine OpsL.nil ?_; (change Trip _ _ _ _ _)))
      refine Trip.iteB (b := true) (by (first | (simp only [ASt.ev, tmPut, ↓reduceIte, Nat.reduceEqDiff, *]; done))) (fun _ => ?_) (fun h => absurd h (by decide))
      repeat (first | (refine OpsL.p (by subst_vars; decide) (by (first | (exact aop_move (by (first | (simp only [ASt.ev, tmPut, ↓reduceIte, Nat.reduceEqDiff, *]; rfl)))) | (exact aop_fieldAddr (by (first | (simp only [ASt.ev, tmPut, ↓reduceIte, Nat.reduceEqDiff, *]; rfl))) (by exact rfl)) | (exact aop_load (by (first | (simp only [ASt.ev, tmPut, ↓reduceIte, Nat.reduceEqDiff, *]; rfl))) (by exact rfl) rfl (by assumption)))) ?_) | (refine Trip.ops ?_))
      obtain ⟨ob, hj, hown⟩ := hm.final
      have hbl : ∀ b t, ob = some (b, t) → nx1 ≤ b ∧ b ≠ nx2 ∧ b < n7 := fun b t hb => hm.sep.1 1 b t (by rw [hj, hb])
      refine OpsL.appendI (by subst_vars; decide) (by subst_vars; decide) (by (first | (simp only [ASt.ev, tmPut, ↓reduceIte, Nat.reduceEqDiff, *]; rfl))) (by decide) (by (simp only [tmPut, ↓reduceIte, reduceIte, Option.some.injEq, Nat.reduceEqDiff, *])) hown (fun b t hb => (hbl b t hb).2.2) (by exact rfl) (by exact rfl) (by exact rfl) (by exact rfl) (by omega) ?_
      rintro v' ob' H8 hown' ⟨b, rfl, hb⟩ hsame
      have hm2 := hm.putF (p := x) (nx1 := n7 + 1 + 1) hj hown' (by rcases hb with hb | hb; exact .inl (by omega); exact .inr hb) (by rcases hb with rfl | ⟨t, hb⟩; omega; have := hbl b t hb; omega) (by omega) hsame
      have hcA : H8 nx2 = _ := (hsame nx2 hA (fun b t hb e => (hbl b t hb).2.1 e.symm)).trans hm.cell
      repeat (first | (refine OpsL.p (by subst_vars; decide) (by (first | (exact aop_fieldAddr (by (first | (simp only [ASt.ev, tmPut, ↓reduceIte, Nat.reduceEqDiff, *]; rfl))) (by exact rfl)))) ?_))
      refine OpsL.storeAt 3 (cs' := autV (putF a x) vi v' vo vc vn) (by (first | (simp only [ASt.ev, tmPut, ↓reduceIte, Nat.reduceEqDiff, *]; rfl))) (by (first | (simp only [ASt.ev, tmPut, ↓reduceIte, Nat.reduceEqDiff, *]; rfl))) (by exact rfl) (by rw [hown'.1]; rfl) (by rw [hown'.1]; rfl) hcA rfl (by simp [autV]) rfl ?_
      repeat (first | (refine OpsL.nil ?_; ((repeat (refine blockExit_normal ?_)); dsimp only)))
      have hlb : AutLen (putF a x) := ⟨by simp [putI, putF, putO, putC, putN]; omega, by simp [putI, putF, putO, putC, putN]; omega, by simp [putI, putF, putO, putC, putN]; omega, by simp [putI, putF, putO, putC, putN]; omega, by simp [putI, putF, putO, putC, putN]; omega⟩
      exact ⟨rfl, _, _, _, _, _, _, _, _, _, _, rfl, hm2, hlb, ⟨by omega, fun j hj => by rw [Heap.put_ne (show j ≠ nx2 by omega), hsame j (by omega) (fun b t hb => by have := hbl b t hb; omega), hxl j hj]⟩, by simp [tmPut, *], by simp [tmPut, *]⟩
    refine OpsL.p (by subst_vars; decide) (aop_eqlF (by (first | (simp only [ASt.ev, tmPut, ↓reduceIte, Nat.reduceEqDiff, *]; rfl))) (by (first | (simp only [ASt.ev, tmPut, ↓reduceIte, Nat.reduceEqDiff, *]; rfl))) m3) ?_
    repeat (first | (refine OpsL.p (by subst_vars; decide) (by (first | (exact aop_assign (by (first | (simp only [ASt.ev, tmPut, ↓reduceIte, Nat.reduceEqDiff, *]; rfl)))))) ?_) | (refine OpsL.nil ?_; (change Trip _ _ _ _ _)))
    refine Trip.iteB (b := false) (by (first | (simp only [ASt.ev, tmPut, ↓reduceIte, Nat.reduceEqDiff, *]; done))) (fun h => absurd h (by decide)) (fun _ => ?_)
    repeat (first | (refine Trip.seq ?_) | (refine Trip.ops ?_))
    by_cases m4 : w = 4
    · refine OpsL.p (by subst_vars; decide) (aop_eqlT (by (first | (simp only [ASt.ev, tmPut, ↓reduceIte, Nat.reduceEqDiff, *]; rfl))) (by (first | (simp only [ASt.ev, tmPut, ↓reduceIte, Nat.reduceEqDiff, *]; rfl))) m4) ?_
      repeat (first | (refine OpsL.p (by subst_vars; decide) (by (first | (exact aop_assign (by (first | (simp only [ASt.ev, tmPut, ↓reduceIte, Nat.reduceEqDiff, *]; rfl)))))) ?_) | (refine OpsL.nil ?_; (change Trip _ _ _ _ _)))
      refine Trip.iteB (b := true) (by (first | (simp only [ASt.ev, tmPut, ↓reduceIte, Nat.reduceEqDiff, *]; done))) (fun _ => ?_) (fun h => absurd h (by decide))
      repeat fail
      refine OpsR.drawn [1, 3, 6, 9, 12, 13, 15] (K := fun _ _ => True) mixed3M (by kernel_rfl) (by kernel_rfl) [0, 2, 4, 5, 7, 8, 10, 3, 6, 9, 11, 1, 12, 13, 14, 15] (by kernel_rfl) trivial ?_
      refine OpsR.one rfl rfl rfl (by kernel_rfl) ?_
      repeat (first | (refine OpsL.p (by subst_vars; decide) (by (first | (exact aop_fieldAddr (by (first | (simp only [ASt.ev, tmPut, ↓reduceIte, Nat.reduceEqDiff, *]; rfl))) (by exact rfl)))) ?_) | (refine OpsL.nil ?_; (dsimp only)))
      refine OpsR.one rfl rfl rfl (by kernel_rfl) ?_
      repeat (first | (refine OpsL.p (by subst_vars; decide) (by (first | (exact aop_move (by (first | (simp only [ASt.ev, tmPut, ↓reduceIte, Nat.reduceEqDiff, *]; rfl)))))) ?_) | (refine OpsL.nil ?_; (skip)))
      refine OpsR.one rfl rfl rfl (by kernel_rfl) ?_
      repeat (first | (refine OpsL.p (by subst_vars; decide) (by (first | (exact aop_move (by (first | (simp only [ASt.ev, tmPut, ↓reduceIte, Nat.reduceEqDiff, *]; rfl)))))) ?_) | (refine OpsL.nil ?_; (skip)))
      refine OpsR.one rfl rfl rfl (by kernel_rfl) ?_
      refine OpsL.p (by subst_vars; decide) (aop_quoT (by (first | (simp only [ASt.ev, tmPut, ↓reduceIte, Nat.reduceEqDiff, *]; done))) (by (first | (simp only [ASt.ev, tmPut, ↓reduceIte, Nat.reduceEqDiff, *]; rfl))) (by omega) hat.1 hat.2) ?_
      repeat (first | (refine OpsL.nil ?_; (skip)))
      refine OpsR.one rfl rfl rfl (by kernel_rfl) ?_
      repeat (first | (refine OpsL.p (by subst_vars; decide) (by (first | (exact aop_move (by (first | (simp only [ASt.ev, tmPut, ↓reduceIte, Nat.reduceEqDiff, *]; rfl)))))) ?_) | (refine OpsL.nil ?_; (skip)))
      refine OpsR.one rfl rfl rfl (by kernel_rfl) ?_
      refine OpsL.p (by subst_vars; decide) (aop_quoT (by (first | (simp only [ASt.ev, tmPut, ↓reduceIte, Nat.reduceEqDiff, *]; done))) (by (first | (simp only [ASt.ev, tmPut, ↓reduceIte, Nat.reduceEqDiff, *]; rfl))) (by omega) hat.1 hat.2) ?_
      repeat (first | (refine OpsL.nil ?_; (skip)))
      refine OpsR.one rfl rfl rfl (by kernel_rfl) ?_
      repeat (first | (refine OpsL.p (by subst_vars; decide) (by (first | (exact aop_move (by (first | (simp only [ASt.ev, tmPut, ↓reduceIte, Nat.reduceEqDiff, *]; rfl)))))) ?_) | (refine OpsL.nil ?_; (skip)))
      refine OpsR.act2k (k := 1) (by kernel_rfl) (ActStep.walk rfl rfl ?_) (ActStep.walk rfl rfl ?_)
      · skip
        refine OpsL.call2 (by subst_vars; decide) (by (first | (simp only [ASt.ev, tmPut, ↓reduceIte, Nat.reduceEqDiff, *]; rfl))) (by (first | (simp only [ASt.ev, tmPut, ↓reduceIte, Nat.reduceEqDiff, *]; rfl))) entersWithin (within3C W0 _ _ (by omega) (by omega)) ?_
        rintro u n8 H8 ⟨rfl, g2, g3⟩
        rw [g2, g3]
        clear g2 g3
        refine OpsL.nil ⟨trivial, ?_⟩
        refine OpsR.act2k (k := 1) (by kernel_rfl) (ActStep.walk rfl rfl ?_) (ActStep.walk rfl rfl ?_)
        · skip
          refine OpsL.call2 (by subst_vars; decide) (by (first | (simp only [ASt.ev, tmPut, ↓reduceIte, Nat.reduceEqDiff, *]; rfl))) (by (first | (simp only [ASt.ev, tmPut, ↓reduceIte, Nat.reduceEqDiff, *]; rfl))) entersWithin (within3C W0 _ _ (by omega) (by omega)) ?_
          rintro u n8 H8 ⟨rfl, g2, g3⟩
          rw [g2, g3]
          clear g2 g3
          refine OpsL.nil ⟨trivial, ?_⟩
          refine OpsR.act2k (k := 1) (by kernel_rfl) (ActStep.walk rfl rfl ?_) (ActStep.walk rfl rfl ?_)
          · skip
            refine OpsL.call2 (by subst_vars; decide) (by (first | (simp only [ASt.ev, tmPut, ↓reduceIte, Nat.reduceEqDiff, *]; rfl))) (by (first | (simp only [ASt.ev, tmPut, ↓reduceIte, Nat.reduceEqDiff, *]; rfl))) entersWithin (within3C W0 _ _ (by omega) (by omega)) ?_
            rintro u n8 H8 ⟨rfl, g2, g3⟩
            rw [g2, g3]
            clear g2 g3
            refine OpsL.nil ⟨trivial, ?_⟩
            refine OpsR.one rfl rfl rfl (by kernel_rfl) ?_
            refine OpsL.p (by subst_vars; decide) (aop_build (v := .agg (e4 (at_ % 5, at_.tdiv 5 % 8, at_.tdiv 40 % 5, x)).toArray) (l := [(0, .int .i64 (at_ % 5)), (1, .int .i64 (at_.tdiv 5 % 8)), (2, .int .i64 (at_.tdiv 40 % 5)), (3, .int .i64 x)]) (by simp [evParts, ASt.ev, tmPut, plainC, plain1, *]) (by kernel_rfl)) ?_
            repeat (first | (refine OpsL.nil ?_; (skip)))
            refine OpsR.act2 (by kernel_rfl) (ActStep.walk rfl rfl ?_) (ActStep.walk rfl rfl ?_)
            · skip
              refine OpsL.p (by subst_vars; decide) (aop_load (by (first | (simp only [ASt.ev, tmPut, ↓reduceIte, Nat.reduceEqDiff, *]; rfl))) (by exact rfl) rfl c4) ?_
              refine OpsL.nil ⟨trivial, ?_⟩
              refine OpsR.act (by kernel_rfl) (ActStep.walk rfl rfl ?_)
              refine bsO (by subst_vars; decide) (by (first | (simp only [ASt.ev, tmPut, ↓reduceIte, Nat.reduceEqDiff, *]; rfl))) fun G3 x4 hone => ?_
              refine OpsL.nil ⟨trivial, ?_⟩
              refine OpsR.act (by kernel_rfl) (ActStep.walk rfl rfl ?_)
              refine appO hm (by omega) x4 hone (by subst_vars; decide) (by (first | (simp only [ASt.ev, tmPut, ↓reduceIte, Nat.reduceEqDiff, *]; done))) (by (first | (simp only [ASt.ev, tmPut, ↓reduceIte, Nat.reduceEqDiff, *]; done))) fun v' nx5 H5 l5 hcA hm2 hsame hle5 w1 w2 => ?_
              refine OpsL.nil ⟨trivial, ?_⟩
              refine OpsR.one rfl rfl rfl (by kernel_rfl) ?_
              repeat (first | (refine OpsL.p (by subst_vars; decide) (by (first | (exact aop_fieldAddr (by (first | (simp only [ASt.ev, tmPut, ↓reduceIte, Nat.reduceEqDiff, *]; rfl))) (by exact rfl)))) ?_) | (refine OpsL.nil ?_; (dsimp only)))
              refine OpsR.act (by kernel_rfl) (ActStep.walk rfl rfl ?_)
              refine OpsL.storeAt 4 (cs' := autV (putO a (at_ % 5, at_.tdiv 5 % 8, at_.tdiv 40 % 5, x)) vi vf v' vc vn) (by (first | (simp only [ASt.ev, tmPut, ↓reduceIte, Nat.reduceEqDiff, *]; rfl))) (by (first | (simp only [ASt.ev, tmPut, ↓reduceIte, Nat.reduceEqDiff, *]; done))) (by exact rfl) w1 w2 hcA rfl (by simp [autV]) rfl ?_
              refine OpsL.nil ⟨trivial, ?_⟩
              refine OpsR.nil ?_
              ((repeat (refine blockExit_normal ?_)); dsimp only)
              repeat fail
              exact ⟨rfl, _, _, _, _, _, _, _, _, _, _, rfl, hm2, lens25 hlen (by simp [putO]), ⟨by omega, fun j hj => by rw [Heap.put_ne (show j ≠ nx2 by omega), hsame j hj (by omega), hxl j hj]⟩, by simp [tmPut, *], by simp [tmPut, *]⟩
            · skip
              refine bsO (by subst_vars; decide) (by (first | (simp only [ASt.ev, tmPut, ↓reduceIte, Nat.reduceEqDiff, *]; rfl))) fun G3 x4 hone => ?_
              refine OpsL.nil ⟨trivial, ?_⟩
              refine OpsR.act (by kernel_rfl) (ActStep.walk rfl rfl ?_)
              refine OpsL.p (by subst_vars; decide) (aop_load (by (first | (simp only [ASt.ev, tmPut, ↓reduceIte, Nat.reduceEqDiff, *]; rfl))) (by exact rfl) rfl (cell_of ((x4.2 nx2 hA).trans hm.cell) rfl)) ?_
              refine OpsL.nil ⟨trivial, ?_⟩
              refine OpsR.act (by kernel_rfl) (ActStep.walk rfl rfl ?_)
              refine appO hm (by omega) x4 hone (by subst_vars; decide) (by (first | (simp only [ASt.ev, tmPut, ↓reduceIte, Nat.reduceEqDiff, *]; done))) (by (first | (simp only [ASt.ev, tmPut, ↓reduceIte, Nat.reduceEqDiff, *]; done))) fun v' nx5 H5 l5 hcA hm2 hsame hle5 w1 w2 => ?_
              refine OpsL.nil ⟨trivial, ?_⟩
              refine OpsR.one rfl rfl rfl (by kernel_rfl) ?_
              repeat (first | (refine OpsL.p (by subst_vars; decide) (by (first | (exact aop_fieldAddr (by (first | (simp only [ASt.ev, tmPut, ↓reduceIte, Nat.reduceEqDiff, *]; rfl))) (by exact rfl)))) ?_) | (refine OpsL.nil ?_; (dsimp only)))
              refine OpsR.act (by kernel_rfl) (ActStep.walk rfl rfl ?_)
              refine OpsL.storeAt 4 (cs' := autV (putO a (at_ % 5, at_.tdiv 5 % 8, at_.tdiv 40 % 5, x)) vi vf v' vc vn) (by (first | (simp only [ASt.ev, tmPut, ↓reduceIte, Nat.reduceEqDiff, *]; rfl))) (by (first | (simp only [ASt.ev, tmPut, ↓reduceIte, Nat.reduceEqDiff, *]; done))) (by exact rfl) w1 w2 hcA rfl (by simp [autV]) rfl ?_
              refine OpsL.nil ⟨trivial, ?_⟩
              refine OpsR.nil ?_
              ((repeat (refine blockExit_normal ?_)); dsimp only)
              repeat fail
              exact ⟨rfl, _, _, _, _, _, _, _, _, _, _, rfl, hm2, lens25 hlen (by simp [putO]), ⟨by omega, fun j hj => by rw [Heap.put_ne (show j ≠ nx2 by omega), hsame j hj (by omega), hxl j hj]⟩, by simp [tmPut, *], by simp [tmPut, *]⟩
          · skip
            refine OpsL.p (by subst_vars; decide) (aop_load (by (first | (simp only [ASt.ev, tmPut, ↓reduceIte, Nat.reduceEqDiff, *]; rfl))) (by exact rfl) rfl c4) ?_
            refine OpsL.nil ⟨trivial, ?_⟩
            refine OpsR.act (by kernel_rfl) (ActStep.walk rfl rfl ?_)
            refine OpsL.call2 (by subst_vars; decide) (by (first | (simp only [ASt.ev, tmPut, ↓reduceIte, Nat.reduceEqDiff, *]; rfl))) (by (first | (simp only [ASt.ev, tmPut, ↓reduceIte, Nat.reduceEqDiff, *]; rfl))) entersWithin (within3C W0 _ _ (by omega) (by omega)) ?_
            rintro u n8 H8 ⟨rfl, g2, g3⟩
            rw [g2, g3]
            clear g2 g3
            refine OpsL.nil ⟨trivial, ?_⟩
            refine OpsR.one rfl rfl rfl (by kernel_rfl) ?_
            refine OpsL.p (by subst_vars; decide) (aop_build (v := .agg (e4 (at_ % 5, at_.tdiv 5 % 8, at_.tdiv 40 % 5, x)).toArray) (l := [(0, .int .i64 (at_ % 5)), (1, .int .i64 (at_.tdiv 5 % 8)), (2, .int .i64 (at_.tdiv 40 % 5)), (3, .int .i64 x)]) (by simp [evParts, ASt.ev, tmPut, plainC, plain1, *]) (by kernel_rfl)) ?_
            repeat (first | (refine OpsL.nil ?_; (skip)))
            refine OpsR.act (by kernel_rfl) (ActStep.walk rfl rfl ?_)
            refine bsO (by subst_vars; decide) (by (first | (simp only [ASt.ev, tmPut, ↓reduceIte, Nat.reduceEqDiff, *]; rfl))) fun G3 x4 hone => ?_
            refine OpsL.nil ⟨trivial, ?_⟩
            refine OpsR.act (by kernel_rfl) (ActStep.walk rfl rfl ?_)
            refine appO hm (by omega) x4 hone (by subst_vars; decide) (by (first | (simp only [ASt.ev, tmPut, ↓reduceIte, Nat.reduceEqDiff, *]; done))) (by (first | (simp only [ASt.ev, tmPut, ↓reduceIte, Nat.reduceEqDiff, *]; done))) fun v' nx5 H5 l5 hcA hm2 hsame hle5 w1 w2 => ?_
            refine OpsL.nil ⟨trivial, ?_⟩
            refine OpsR.one rfl rfl rfl (by kernel_rfl) ?_
            repeat (first | (refine OpsL.p (by subst_vars; decide) (by (first | (exact aop_fieldAddr (by (first | (simp only [ASt.ev, tmPut, ↓reduceIte, Nat.reduceEqDiff, *]; rfl))) (by exact rfl)))) ?_) | (refine OpsL.nil ?_; (dsimp only)))
            refine OpsR.act (by kernel_rfl) (ActStep.walk rfl rfl ?_)
            refine OpsL.storeAt 4 (cs' := autV (putO a (at_ % 5, at_.tdiv 5 % 8, at_.tdiv 40 % 5, x)) vi vf v' vc vn) (by (first | (simp only [ASt.ev, tmPut, ↓reduceIte, Nat.reduceEqDiff, *]; rfl))) (by (first | (simp only [ASt.ev, tmPut, ↓reduceIte, Nat.reduceEqDiff, *]; done))) (by exact rfl) w1 w2 hcA rfl (by simp [autV]) rfl ?_
            refine OpsL.nil ⟨trivial, ?_⟩
            refine OpsR.nil ?_
            ((repeat (refine blockExit_normal ?_)); dsimp only)
            repeat fail
            exact ⟨rfl, _, _, _, _, _, _, _, _, _, _, rfl, hm2, lens25 hlen (by simp [putO]), ⟨by omega, fun j hj => by rw [Heap.put_ne (show j ≠ nx2 by omega), hsame j hj (by omega), hxl j hj]⟩, by simp [tmPut, *], by simp [tmPut, *]⟩
        · skip
          refine OpsL.p (by subst_vars; decide) (aop_load (by (first | (simp only [ASt.ev, tmPut, ↓reduceIte, Nat.reduceEqDiff, *]; rfl))) (by exact rfl) rfl c4) ?_
          refine OpsL.nil ⟨trivial, ?_⟩
          refine OpsR.act (by kernel_rfl) (ActStep.walk rfl rfl ?_)
          refine OpsL.call2 (by subst_vars; decide) (by (first | (simp only [ASt.ev, tmPut, ↓reduceIte, Nat.reduceEqDiff, *]; rfl))) (by (first | (simp only [ASt.ev, tmPut, ↓reduceIte, Nat.reduceEqDiff, *]; rfl))) entersWithin (within3C W0 _ _ (by omega) (by omega)) ?_
          rintro u n8 H8 ⟨rfl, g2, g3⟩
          rw [g2, g3]
          clear g2 g3
          refine OpsL.nil ⟨trivial, ?_⟩
          refine OpsR.act (by kernel_rfl) (ActStep.walk rfl rfl ?_)
          refine OpsL.call2 (by subst_vars; decide) (by (first | (simp only [ASt.ev, tmPut, ↓reduceIte, Nat.reduceEqDiff, *]; rfl))) (by (first | (simp only [ASt.ev, tmPut, ↓reduceIte, Nat.reduceEqDiff, *]; rfl))) entersWithin (within3C W0 _ _ (by omega) (by omega)) ?_
          rintro u n8 H8 ⟨rfl, g2, g3⟩
          rw [g2, g3]
          clear g2 g3
          refine OpsL.nil ⟨trivial, ?_⟩
          refine OpsR.one rfl rfl rfl (by kernel_rfl) ?_
          refine OpsL.p (by subst_vars; decide) (aop_build (v := .agg (e4 (at_ % 5, at_.tdiv 5 % 8, at_.tdiv 40 % 5, x)).toArray) (l := [(0, .int .i64 (at_ % 5)), (1, .int .i64 (at_.tdiv 5 % 8)), (2, .int .i64 (at_.tdiv 40 % 5)), (3, .int .i64 x)]) (by simp [evParts, ASt.ev, tmPut, plainC, plain1, *]) (by kernel_rfl)) ?_
          repeat (first | (refine OpsL.nil ?_; (skip)))
          refine OpsR.act (by kernel_rfl) (ActStep.walk rfl rfl ?_)
          refine bsO (by subst_vars; decide) (by (first | (simp only [ASt.ev, tmPut, ↓reduceIte, Nat.reduceEqDiff, *]; rfl))) fun G3 x4 hone => ?_
          refine OpsL.nil ⟨trivial, ?_⟩
          refine OpsR.act (by kernel_rfl) (ActStep.walk rfl rfl ?_)
          refine appO hm (by omega) x4 hone (by subst_vars; decide) (by (first | (simp only [ASt.ev, tmPut, ↓reduceIte, Nat.reduceEqDiff, *]; done))) (by (first | (simp only [ASt.ev, tmPut, ↓reduceIte, Nat.reduceEqDiff, *]; done))) fun v' nx5 H5 l5 hcA hm2 hsame hle5 w1 w2 => ?_
          refine OpsL.nil ⟨trivial, ?_⟩
          refine OpsR.one rfl rfl rfl (by kernel_rfl) ?_
          repeat (first | (refine OpsL.p (by subst_vars; decide) (by (first | (exact aop_fieldAddr (by (first | (simp only [ASt.ev, tmPut, ↓reduceIte, Nat.reduceEqDiff, *]; rfl))) (by exact rfl)))) ?_) | (refine OpsL.nil ?_; (dsimp only)))
          refine OpsR.act (by kernel_rfl) (ActStep.walk rfl rfl ?_)
          refine OpsL.storeAt 4 (cs' := autV (putO a (at_ % 5, at_.tdiv 5 % 8, at_.tdiv 40 % 5, x)) vi vf v' vc vn) (by (first | (simp only [ASt.ev, tmPut, ↓reduceIte, Nat.reduceEqDiff, *]; rfl))) (by (first | (simp only [ASt.ev, tmPut, ↓reduceIte, Nat.reduceEqDiff, *]; done))) (by exact rfl) w1 w2 hcA rfl (by simp [autV]) rfl ?_
          refine OpsL.nil ⟨trivial, ?_⟩
          refine OpsR.nil ?_
          ((repeat (refine blockExit_normal ?_)); dsimp only)
          repeat fail
          exact ⟨rfl, _, _, _, _, _, _, _, _, _, _, rfl, hm2, lens25 hlen (by simp [putO]), ⟨by omega, fun j hj => by rw [Heap.put_ne (show j ≠ nx2 by omega), hsame j hj (by omega), hxl j hj]⟩, by simp [tmPut, *], by simp [tmPut, *]⟩
      · skip
        refine OpsL.p (by subst_vars; decide) (aop_load (by (first | (simp only [ASt.ev, tmPut, ↓reduceIte, Nat.reduceEqDiff, *]; rfl))) (by exact rfl) rfl c4) ?_
        refine OpsL.nil ⟨trivial, ?_⟩
        refine OpsR.act (by kernel_rfl) (ActStep.walk rfl rfl ?_)
        refine OpsL.call2 (by subst_vars; decide) (by (first | (simp only [ASt.ev, tmPut, ↓reduceIte, Nat.reduceEqDiff, *]; rfl))) (by (first | (simp only [ASt.ev, tmPut, ↓reduceIte, Nat.reduceEqDiff, *]; rfl))) entersWithin (within3C W0 _ _ (by omega) (by omega)) ?_
        rintro u n8 H8 ⟨rfl, g2, g3⟩
        rw [g2, g3]
        clear g2 g3
        refine OpsL.nil ⟨trivial, ?_⟩
        refine OpsR.act (by kernel_rfl) (ActStep.walk rfl rfl ?_)
        refine OpsL.call2 (by subst_vars; decide) (by (first | (simp only [ASt.ev, tmPut, ↓reduceIte, Nat.reduceEqDiff, *]; rfl))) (by (first | (simp only [ASt.ev, tmPut, ↓reduceIte, Nat.reduceEqDiff, *]; rfl))) entersWithin (within3C W0 _ _ (by omega) (by omega)) ?_
        rintro u n8 H8 ⟨rfl, g2, g3⟩
        rw [g2, g3]
        clear g2 g3
        refine OpsL.nil ⟨trivial, ?_⟩
        refine OpsR.act (by kernel_rfl) (ActStep.walk rfl rfl ?_)
        refine OpsL.call2 (by subst_vars; decide) (by (first | (simp only [ASt.ev, tmPut, ↓reduceIte, Nat.reduceEqDiff, *]; rfl))) (by (first | (simp only [ASt.ev, tmPut, ↓reduceIte, Nat.reduceEqDiff, *]; rfl))) entersWithin (within3C W0 _ _ (by omega) (by omega)) ?_
        rintro u n8 H8 ⟨rfl, g2, g3⟩
        rw [g2, g3]
        clear g2 g3
        refine OpsL.nil ⟨trivial, ?_⟩
        refine OpsR.one rfl rfl rfl (by kernel_rfl) ?_
        refine OpsL.p (by subst_vars; decide) (aop_build (v := .agg (e4 (at_ % 5, at_.tdiv 5 % 8, at_.tdiv 40 % 5, x)).toArray) (l := [(0, .int .i64 (at_ % 5)), (1, .int .i64 (at_.tdiv 5 % 8)), (2, .int .i64 (at_.tdiv 40 % 5)), (3, .int .i64 x)]) (by simp [evParts, ASt.ev, tmPut, plainC, plain1, *]) (by kernel_rfl)) ?_
        repeat (first | (refine OpsL.nil ?_; (skip)))
        refine OpsR.act (by kernel_rfl) (ActStep.walk rfl rfl ?_)
        refine bsO (by subst_vars; decide) (by (first | (simp only [ASt.ev, tmPut, ↓reduceIte, Nat.reduceEqDiff, *]; rfl))) fun G3 x4 hone => ?_
        refine OpsL.nil ⟨trivial, ?_⟩
        refine OpsR.act (by kernel_rfl) (ActStep.walk rfl rfl ?_)
        refine appO hm (by omega) x4 hone (by subst_vars; decide) (by (first | (simp only [ASt.ev, tmPut, ↓reduceIte, Nat.reduceEqDiff, *]; done))) (by (first | (simp only [ASt.ev, tmPut, ↓reduceIte, Nat.reduceEqDiff, *]; done))) fun v' nx5 H5 l5 hcA hm2 hsame hle5 w1 w2 => ?_
        refine OpsL.nil ⟨trivial, ?_⟩
        refine OpsR.one rfl rfl rfl (by kernel_rfl) ?_
        repeat (first | (refine OpsL.p (by subst_vars; decide) (by (first | (exact aop_fieldAddr (by (first | (simp only [ASt.ev, tmPut, ↓reduceIte, Nat.reduceEqDiff, *]; rfl))) (by exact rfl)))) ?_) | (refine OpsL.nil ?_; (dsimp only)))
        refine OpsR.act (by kernel_rfl) (ActStep.walk rfl rfl ?_)
        refine OpsL.storeAt 4 (cs' := autV (putO a (at_ % 5, at_.tdiv 5 % 8, at_.tdiv 40 % 5, x)) vi vf v' vc vn) (by (first | (simp only [ASt.ev, tmPut, ↓reduceIte, Nat.reduceEqDiff, *]; rfl))) (by (first | (simp only [ASt.ev, tmPut, ↓reduceIte, Nat.reduceEqDiff, *]; done))) (by exact rfl) w1 w2 hcA rfl (by simp [autV]) rfl ?_
        refine OpsL.nil ⟨trivial, ?_⟩
        refine OpsR.nil ?_
        ((repeat (refine blockExit_normal ?_)); dsimp only)
        repeat fail
        exact ⟨rfl, _, _, _, _, _, _, _, _, _, _, rfl, hm2, lens25 hlen (by simp [putO]), ⟨by omega, fun j hj => by rw [Heap.put_ne (show j ≠ nx2 by omega), hsame j hj (by omega), hxl j hj]⟩, by simp [tmPut, *], by simp [tmPut, *]⟩
    refine OpsL.p (by subst_vars; decide) (aop_eqlF (by (first | (simp only [ASt.ev, tmPut, ↓reduceIte, Nat.reduceEqDiff, *]; rfl))) (by (first | (simp only [ASt.ev, tmPut, ↓reduceIte, Nat.reduceEqDiff, *]; rfl))) m4) ?_
    repeat (first | (refine OpsL.p (by subst_vars; decide) (by (first | (exact aop_assign (by (first | (simp only [ASt.ev, tmPut, ↓reduceIte, Nat.reduceEqDiff, *]; rfl)))))) ?_) | (refine OpsL.nil ?_; (change Trip _ _ _ _ _)))
    refine Trip.iteB (b := false) (by (first | (simp only [ASt.ev, tmPut, ↓reduceIte, Nat.reduceEqDiff, *]; done))) (fun h => absurd h (by decide)) (fun _ => ?_)
    repeat (first | (refine Trip.seq ?_) | (refine Trip.ops ?_))
    by_cases m5 : w = 5
    · refine OpsL.p (by subst_vars; decide) (aop_eqlT (by (first | (simp only [ASt.ev, tmPut, ↓reduceIte, Nat.reduceEqDiff, *]; rfl))) (by (first | (simp only [ASt.ev, tmPut, ↓reduceIte, Nat.reduceEqDiff, *]; rfl))) m5) ?_
      repeat (first | (refine OpsL.p (by subst_vars; decide) (by (first | (exact aop_assign (by (first | (simp only [ASt.ev, tmPut, ↓reduceIte, Nat.reduceEqDiff, *]; rfl)))))) ?_) | (refine OpsL.nil ?_; (change Trip _ _ _ _ _)))
      refine Trip.iteB (b := true) (by (first | (simp only [ASt.ev, tmPut, ↓reduceIte, Nat.reduceEqDiff, *]; done))) (fun _ => ?_) (fun h => absurd h (by decide))
      repeat (first | (refine OpsL.p (by subst_vars; decide) (by (first | (exact aop_move (by (first | (simp only [ASt.ev, tmPut, ↓reduceIte, Nat.reduceEqDiff, *]; rfl)))) | (exact aop_fieldAddr (by (first | (simp only [ASt.ev, tmPut, ↓reduceIte, Nat.reduceEqDiff, *]; rfl))) (by exact rfl)) | (exact aop_load (by (first | (simp only [ASt.ev, tmPut, ↓reduceIte, Nat.reduceEqDiff, *]; rfl))) (by exact rfl) rfl (by assumption)))) ?_) | (refine Trip.ops ?_))
      refine OpsL.p (by subst_vars; decide) (aop_build (v := .agg (e4 (x, 0, 0, 1)).toArray) (l := [(0, .int .i64 x), (1, .int .i64 0), (2, .int .i64 0), (3, .int .i64 1)]) (by simp [evParts, ASt.ev, tmPut, plainC, plain1, *]) (by kernel_rfl)) ?_
      refine bsO (by subst_vars; decide) (by (first | (simp only [ASt.ev, tmPut, ↓reduceIte, Nat.reduceEqDiff, *]; rfl))) fun G3 x4 hone => ?_
      refine appO hm (by omega) x4 hone (by subst_vars; decide) (by (first | (simp only [ASt.ev, tmPut, ↓reduceIte, Nat.reduceEqDiff, *]; done))) (by (first | (simp only [ASt.ev, tmPut, ↓reduceIte, Nat.reduceEqDiff, *]; done))) fun v' nx5 H5 l5 hcA hm2 hsame hle5 w1 w2 => ?_
      repeat (first | (refine OpsL.p (by subst_vars; decide) (by (first | (exact aop_fieldAddr (by (first | (simp only [ASt.ev, tmPut, ↓reduceIte, Nat.reduceEqDiff, *]; rfl))) (by exact rfl)))) ?_))
      refine OpsL.storeAt 4 (cs' := autV (putO a (x, 0, 0, 1)) vi vf v' vc vn) (by (first | (simp only [ASt.ev, tmPut, ↓reduceIte, Nat.reduceEqDiff, *]; rfl))) (by (first | (simp only [ASt.ev, tmPut, ↓reduceIte, Nat.reduceEqDiff, *]; done))) (by exact rfl) w1 w2 hcA rfl (by simp [autV]) rfl ?_
      repeat (first | (refine OpsL.nil ?_; ((repeat (refine blockExit_normal ?_)); dsimp only)))
      exact ⟨rfl, _, _, _, _, _, _, _, _, _, _, rfl, hm2, lens25 hlen (by simp [putO]), ⟨by omega, fun j hj => by rw [Heap.put_ne (show j ≠ nx2 by omega), hsame j hj (by omega), hxl j hj]⟩, by simp [tmPut, *], by simp [tmPut, *]⟩
    refine OpsL.p (by subst_vars; decide) (aop_eqlF (by (first | (simp only [ASt.ev, tmPut, ↓reduceIte, Nat.reduceEqDiff, *]; rfl))) (by (first | (simp only [ASt.ev, tmPut, ↓reduceIte, Nat.reduceEqDiff, *]; rfl))) m5) ?_
    repeat (first | (refine OpsL.p (by subst_vars; decide) (by (first | (exact aop_assign (by (first | (simp only [ASt.ev, tmPut, ↓reduceIte, Nat.reduceEqDiff, *]; rfl)))))) ?_) | (refine OpsL.nil ?_; (change Trip _ _ _ _ _)))
    refine Trip.iteB (b := false) (by (first | (simp only [ASt.ev, tmPut, ↓reduceIte, Nat.reduceEqDiff, *]; done))) (fun h => absurd h (by decide)) (fun _ => ?_)
    repeat (first | (refine Trip.seq ?_) | (refine Trip.ops ?_))
    by_cases m6 : w = 6
    · refine OpsL.p (by subst_vars; decide) (aop_eqlT (by (first | (simp only [ASt.ev, tmPut, ↓reduceIte, Nat.reduceEqDiff, *]; rfl))) (by (first | (simp only [ASt.ev, tmPut, ↓reduceIte, Nat.reduceEqDiff, *]; rfl))) m6) ?_
      repeat (first | (refine OpsL.p (by subst_vars; decide) (by (first | (exact aop_assign (by (first | (simp only [ASt.ev, tmPut, ↓reduceIte, Nat.reduceEqDiff, *]; rfl)))))) ?_) | (refine OpsL.nil ?_; (change Trip _ _ _ _ _)))
      refine Trip.iteB (b := true) (by (first | (simp only [ASt.ev, tmPut, ↓reduceIte, Nat.reduceEqDiff, *]; done))) (fun _ => ?_) (fun h => absurd h (by decide))
      repeat fail
      refine OpsR.drawn [1, 3, 6, 9, 12, 13, 15] (K := fun _ _ => True) mixed3M (by kernel_rfl) (by kernel_rfl) [0, 2, 4, 5, 7, 8, 10, 3, 6, 9, 11, 1, 12, 13, 14, 15] (by kernel_rfl) trivial ?_
      refine OpsR.one rfl rfl rfl (by kernel_rfl) ?_
      repeat (first | (refine OpsL.p (by subst_vars; decide) (by (first | (exact aop_fieldAddr (by (first | (simp only [ASt.ev, tmPut, ↓reduceIte, Nat.reduceEqDiff, *]; rfl))) (by exact rfl)))) ?_) | (refine OpsL.nil ?_; (dsimp only)))
      refine OpsR.one rfl rfl rfl (by kernel_rfl) ?_
      repeat (first | (refine OpsL.p (by subst_vars; decide) (by (first | (exact aop_move (by (first | (simp only [ASt.ev, tmPut, ↓reduceIte, Nat.reduceEqDiff, *]; rfl)))))) ?_) | (refine OpsL.nil ?_; (skip)))
      refine OpsR.one rfl rfl rfl (by kernel_rfl) ?_
      repeat (first | (refine OpsL.p (by subst_vars; decide) (by (first | (exact aop_move (by (first | (simp only [ASt.ev, tmPut, ↓reduceIte, Nat.reduceEqDiff, *]; rfl)))))) ?_) | (refine OpsL.nil ?_; (skip)))
      refine OpsR.one rfl rfl rfl (by kernel_rfl) ?_
      refine OpsL.p (by subst_vars; decide) (aop_quoT (by (first | (simp only [ASt.ev, tmPut, ↓reduceIte, Nat.reduceEqDiff, *]; done))) (by (first | (simp only [ASt.ev, tmPut, ↓reduceIte, Nat.reduceEqDiff, *]; rfl))) (by omega) hat.1 hat.2) ?_
      repeat (first | (refine OpsL.nil ?_; (skip)))
      refine OpsR.one rfl rfl rfl (by kernel_rfl) ?_
      repeat (first | (refine OpsL.p (by subst_vars; decide) (by (first | (exact aop_move (by (first | (simp only [ASt.ev, tmPut, ↓reduceIte, Nat.reduceEqDiff, *]; rfl)))))) ?_) | (refine OpsL.nil ?_; (skip)))
      refine OpsR.one rfl rfl rfl (by kernel_rfl) ?_
      refine OpsL.p (by subst_vars; decide) (aop_quoT (by (first | (simp only [ASt.ev, tmPut, ↓reduceIte, Nat.reduceEqDiff, *]; done))) (by (first | (simp only [ASt.ev, tmPut, ↓reduceIte, Nat.reduceEqDiff, *]; rfl))) (by omega) hat.1 hat.2) ?_
      repeat (first | (refine OpsL.nil ?_; (skip)))
      refine OpsR.one rfl rfl rfl (by kernel_rfl) ?_
      repeat (first | (refine OpsL.p (by subst_vars; decide) (by (first | (exact aop_move (by (first | (simp only [ASt.ev, tmPut, ↓reduceIte, Nat.reduceEqDiff, *]; rfl)))))) ?_) | (refine OpsL.nil ?_; (skip)))
      refine OpsR.act2k (k := 1) (by kernel_rfl) (ActStep.walk rfl rfl ?_) (ActStep.walk rfl rfl ?_)
      · skip
        refine OpsL.call2 (by subst_vars; decide) (by (first | (simp only [ASt.ev, tmPut, ↓reduceIte, Nat.reduceEqDiff, *]; rfl))) (by (first | (simp only [ASt.ev, tmPut, ↓reduceIte, Nat.reduceEqDiff, *]; rfl))) entersWithin (within3C W0 _ _ (by omega) (by omega)) ?_
        rintro u n8 H8 ⟨rfl, g2, g3⟩
        rw [g2, g3]
        clear g2 g3
        refine OpsL.nil ⟨trivial, ?_⟩
        refine OpsR.act2k (k := 1) (by kernel_rfl) (ActStep.walk rfl rfl ?_) (ActStep.walk rfl rfl ?_)
        · skip
          refine OpsL.call2 (by subst_vars; decide) (by (first | (simp only [ASt.ev, tmPut, ↓reduceIte, Nat.reduceEqDiff, *]; rfl))) (by (first | (simp only [ASt.ev, tmPut, ↓reduceIte, Nat.reduceEqDiff, *]; rfl))) entersWithin (within3C W0 _ _ (by omega) (by omega)) ?_
          rintro u n8 H8 ⟨rfl, g2, g3⟩
          rw [g2, g3]
          clear g2 g3
          refine OpsL.nil ⟨trivial, ?_⟩
          refine OpsR.act2k (k := 1) (by kernel_rfl) (ActStep.walk rfl rfl ?_) (ActStep.walk rfl rfl ?_)
          · skip
            refine OpsL.call2 (by subst_vars; decide) (by (first | (simp only [ASt.ev, tmPut, ↓reduceIte, Nat.reduceEqDiff, *]; rfl))) (by (first | (simp only [ASt.ev, tmPut, ↓reduceIte, Nat.reduceEqDiff, *]; rfl))) entersWithin (within3C W0 _ _ (by omega) (by omega)) ?_
            rintro u n8 H8 ⟨rfl, g2, g3⟩
            rw [g2, g3]
            clear g2 g3
            refine OpsL.nil ⟨trivial, ?_⟩
            refine OpsR.one rfl rfl rfl (by kernel_rfl) ?_
            refine OpsL.p (by subst_vars; decide) (aop_build (v := .agg (e4 (at_ % 5, at_.tdiv 5 % 8, x, at_.tdiv 40 % 5)).toArray) (l := [(0, .int .i64 (at_ % 5)), (1, .int .i64 (at_.tdiv 5 % 8)), (3, .int .i64 (at_.tdiv 40 % 5)), (2, .int .i64 x)]) (by simp [evParts, ASt.ev, tmPut, plainC, plain1, *]) (by kernel_rfl)) ?_
            repeat (first | (refine OpsL.nil ?_; (skip)))
            refine OpsR.act2 (by kernel_rfl) (ActStep.walk rfl rfl ?_) (ActStep.walk rfl rfl ?_)
            · skip
              refine OpsL.p (by subst_vars; decide) (aop_load (by (first | (simp only [ASt.ev, tmPut, ↓reduceIte, Nat.reduceEqDiff, *]; rfl))) (by exact rfl) rfl c5) ?_
              refine OpsL.nil ⟨trivial, ?_⟩
              refine OpsR.act (by kernel_rfl) (ActStep.walk rfl rfl ?_)
              refine bsC (by subst_vars; decide) (by (first | (simp only [ASt.ev, tmPut, ↓reduceIte, Nat.reduceEqDiff, *]; rfl))) fun G3 x4 hone => ?_
              refine OpsL.nil ⟨trivial, ?_⟩
              refine OpsR.act (by kernel_rfl) (ActStep.walk rfl rfl ?_)
              refine appC hm (by omega) x4 hone (by subst_vars; decide) (by (first | (simp only [ASt.ev, tmPut, ↓reduceIte, Nat.reduceEqDiff, *]; done))) (by (first | (simp only [ASt.ev, tmPut, ↓reduceIte, Nat.reduceEqDiff, *]; done))) fun v' nx5 H5 l5 hcA hm2 hsame hle5 w1 w2 => ?_
              refine OpsL.nil ⟨trivial, ?_⟩
              refine OpsR.one rfl rfl rfl (by kernel_rfl) ?_
              repeat (first | (refine OpsL.p (by subst_vars; decide) (by (first | (exact aop_fieldAddr (by (first | (simp only [ASt.ev, tmPut, ↓reduceIte, Nat.reduceEqDiff, *]; rfl))) (by exact rfl)))) ?_) | (refine OpsL.nil ?_; (dsimp only)))
              refine OpsR.act (by kernel_rfl) (ActStep.walk rfl rfl ?_)
              refine OpsL.storeAt 5 (cs' := autV (putC a (at_ % 5, at_.tdiv 5 % 8, x, at_.tdiv 40 % 5)) vi vf vo v' vn) (by (first | (simp only [ASt.ev, tmPut, ↓reduceIte, Nat.reduceEqDiff, *]; rfl))) (by (first | (simp only [ASt.ev, tmPut, ↓reduceIte, Nat.reduceEqDiff, *]; done))) (by exact rfl) w1 w2 hcA rfl (by simp [autV]) rfl ?_
              refine OpsL.nil ⟨trivial, ?_⟩
              refine OpsR.nil ?_
              ((repeat (refine blockExit_normal ?_)); dsimp only)
              repeat fail
              exact ⟨rfl, _, _, _, _, _, _, _, _, _, _, rfl, hm2, lens25 hlen (by simp [putC]), ⟨by omega, fun j hj => by rw [Heap.put_ne (show j ≠ nx2 by omega), hsame j hj (by omega), hxl j hj]⟩, by simp [tmPut, *], by simp [tmPut, *]⟩
            · skip
              refine bsC (by subst_vars; decide) (by (first | (simp only [ASt.ev, tmPut, ↓reduceIte, Nat.reduceEqDiff, *]; rfl))) fun G3 x4 hone => ?_
              refine OpsL.nil ⟨trivial, ?_⟩
              refine OpsR.act (by kernel_rfl) (ActStep.walk rfl rfl ?_)
              refine OpsL.p (by subst_vars; decide) (aop_load (by (first | (simp only [ASt.ev, tmPut, ↓reduceIte, Nat.reduceEqDiff, *]; rfl))) (by exact rfl) rfl (cell_of ((x4.2 nx2 hA).trans hm.cell) rfl)) ?_
              refine OpsL.nil ⟨trivial, ?_⟩
              refine OpsR.act (by kernel_rfl) (ActStep.walk rfl rfl ?_)
              refine appC hm (by omega) x4 hone (by subst_vars; decide) (by (first | (simp only [ASt.ev, tmPut, ↓reduceIte, Nat.reduceEqDiff, *]; done))) (by (first | (simp only [ASt.ev, tmPut, ↓reduceIte, Nat.reduceEqDiff, *]; done))) fun v' nx5 H5 l5 hcA hm2 hsame hle5 w1 w2 => ?_
              refine OpsL.nil ⟨trivial, ?_⟩
              refine OpsR.one rfl rfl rfl (by kernel_rfl) ?_
              repeat (first | (refine OpsL.p (by subst_vars; decide) (by (first | (exact aop_fieldAddr (by (first | (simp only [ASt.ev, tmPut, ↓reduceIte, Nat.reduceEqDiff, *]; rfl))) (by exact rfl)))) ?_) | (refine OpsL.nil ?_; (dsimp only)))
              refine OpsR.act (by kernel_rfl) (ActStep.walk rfl rfl ?_)
              refine OpsL.storeAt 5 (cs' := autV (putC a (at_ % 5, at_.tdiv 5 % 8, x, at_.tdiv 40 % 5)) vi vf vo v' vn) (by (first | (simp only [ASt.ev, tmPut, ↓reduceIte, Nat.reduceEqDiff, *]; rfl))) (by (first | (simp only [ASt.ev, tmPut, ↓reduceIte, Nat.reduceEqDiff, *]; done))) (by exact rfl) w1 w2 hcA rfl (by simp [autV]) rfl ?_
              refine OpsL.nil ⟨trivial, ?_⟩
              refine OpsR.nil ?_
              ((repeat (refine blockExit_normal ?_)); dsimp only)
              repeat fail
              exact ⟨rfl, _, _, _, _, _, _, _, _, _, _, rfl, hm2, lens25 hlen (by simp [putC]), ⟨by omega, fun j hj => by rw [Heap.put_ne (show j ≠ nx2 by omega), hsame j hj (by omega), hxl j hj]⟩, by simp [tmPut, *], by simp [tmPut, *]⟩
          · skip
            refine OpsL.p (by subst_vars; decide) (aop_load (by (first | (simp only [ASt.ev, tmPut, ↓reduceIte, Nat.reduceEqDiff, *]; rfl))) (by exact rfl) rfl c5) ?_
            refine OpsL.nil ⟨trivial, ?_⟩
            refine OpsR.act (by kernel_rfl) (ActStep.walk rfl rfl ?_)
            refine OpsL.call2 (by subst_vars; decide) (by (first | (simp only [ASt.ev, tmPut, ↓reduceIte, Nat.reduceEqDiff, *]; rfl))) (by (first | (simp only [ASt.ev, tmPut, ↓reduceIte, Nat.reduceEqDiff, *]; rfl))) entersWithin (within3C W0 _ _ (by omega) (by omega)) ?_
            rintro u n8 H8 ⟨rfl, g2, g3⟩
            rw [g2, g3]
            clear g2 g3
            refine OpsL.nil ⟨trivial, ?_⟩
            refine OpsR.one rfl rfl rfl (by kernel_rfl) ?_
            refine OpsL.p (by subst_vars; decide) (aop_build (v := .agg (e4 (at_ % 5, at_.tdiv 5 % 8, x, at_.tdiv 40 % 5)).toArray) (l := [(0, .int .i64 (at_ % 5)), (1, .int .i64 (at_.tdiv 5 % 8)), (3, .int .i64 (at_.tdiv 40 % 5)), (2, .int .i64 x)]) (by simp [evParts, ASt.ev, tmPut, plainC, plain1, *]) (by kernel_rfl)) ?_
            repeat (first | (refine OpsL.nil ?_; (skip)))
            refine OpsR.act (by kernel_rfl) (ActStep.walk rfl rfl ?_)
            refine bsC (by subst_vars; decide) (by (first | (simp only [ASt.ev, tmPut, ↓reduceIte, Nat.reduceEqDiff, *]; rfl))) fun G3 x4 hone => ?_
            refine OpsL.nil ⟨trivial, ?_⟩
            refine OpsR.act (by kernel_rfl) (ActStep.walk rfl rfl ?_)
            refine appC hm (by omega) x4 hone (by subst_vars; decide) (by (first | (simp only [ASt.ev, tmPut, ↓reduceIte, Nat.reduceEqDiff, *]; done))) (by (first | (simp only [ASt.ev, tmPut, ↓reduceIte, Nat.reduceEqDiff, *]; done))) fun v' nx5 H5 l5 hcA hm2 hsame hle5 w1 w2 => ?_
            refine OpsL.nil ⟨trivial, ?_⟩
            refine OpsR.one rfl rfl rfl (by kernel_rfl) ?_
            repeat (first | (refine OpsL.p (by subst_vars; decide) (by (first | (exact aop_fieldAddr (by (first | (simp only [ASt.ev, tmPut, ↓reduceIte, Nat.reduceEqDiff, *]; rfl))) (by exact rfl)))) ?_) | (refine OpsL.nil ?_; (dsimp only)))
            refine OpsR.act (by kernel_rfl) (ActStep.walk rfl rfl ?_)
            refine OpsL.storeAt 5 (cs' := autV (putC a (at_ % 5, at_.tdiv 5 % 8, x, at_.tdiv 40 % 5)) vi vf vo v' vn) (by (first | (simp only [ASt.ev, tmPut, ↓reduceIte, Nat.reduceEqDiff, *]; rfl))) (by (first | (simp only [ASt.ev, tmPut, ↓reduceIte, Nat.reduceEqDiff, *]; done))) (by exact rfl) w1 w2 hcA rfl (by simp [autV]) rfl ?_
            refine OpsL.nil ⟨trivial, ?_⟩
            refine OpsR.nil ?_
            ((repeat (refine blockExit_normal ?_)); dsimp only)
            repeat fail
            exact ⟨rfl, _, _, _, _, _, _, _, _, _, _, rfl, hm2, lens25 hlen (by simp [putC]), ⟨by omega, fun j hj => by rw [Heap.put_ne (show j ≠ nx2 by omega), hsame j hj (by omega), hxl j hj]⟩, by simp [tmPut, *], by simp [tmPut, *]⟩
        · skip
          refine OpsL.p (by subst_vars; decide) (aop_load (by (first | (simp only [ASt.ev, tmPut, ↓reduceIte, Nat.reduceEqDiff, *]; rfl))) (by exact rfl) rfl c5) ?_
          refine OpsL.nil ⟨trivial, ?_⟩
          refine OpsR.act (by kernel_rfl) (ActStep.walk rfl rfl ?_)
          refine OpsL.call2 (by subst_vars; decide) (by (first | (simp only [ASt.ev, tmPut, ↓reduceIte, Nat.reduceEqDiff, *]; rfl))) (by (first | (simp only [ASt.ev, tmPut, ↓reduceIte, Nat.reduceEqDiff, *]; rfl))) entersWithin (within3C W0 _ _ (by omega) (by omega)) ?_
          rintro u n8 H8 ⟨rfl, g2, g3⟩
          rw [g2, g3]
          clear g2 g3
          refine OpsL.nil ⟨trivial, ?_⟩
          refine OpsR.act (by kernel_rfl) (ActStep.walk rfl rfl ?_)
          refine OpsL.call2 (by subst_vars; decide) (by (first | (simp only [ASt.ev, tmPut, ↓reduceIte, Nat.reduceEqDiff, *]; rfl))) (by (first | (simp only [ASt.ev, tmPut, ↓reduceIte, Nat.reduceEqDiff, *]; rfl))) entersWithin (within3C W0 _ _ (by omega) (by omega)) ?_
          rintro u n8 H8 ⟨rfl, g2, g3⟩
          rw [g2, g3]
          clear g2 g3
          refine OpsL.nil ⟨trivial, ?_⟩
          refine OpsR.one rfl rfl rfl (by kernel_rfl) ?_
          refine OpsL.p (by subst_vars; decide) (aop_build (v := .agg (e4 (at_ % 5, at_.tdiv 5 % 8, x, at_.tdiv 40 % 5)).toArray) (l := [(0, .int .i64 (at_ % 5)), (1, .int .i64 (at_.tdiv 5 % 8)), (3, .int .i64 (at_.tdiv 40 % 5)), (2, .int .i64 x)]) (by simp [evParts, ASt.ev, tmPut, plainC, plain1, *]) (by kernel_rfl)) ?_
          repeat (first | (refine OpsL.nil ?_; (skip)))
          refine OpsR.act (by kernel_rfl) (ActStep.walk rfl rfl ?_)
          refine bsC (by subst_vars; decide) (by (first | (simp only [ASt.ev, tmPut, ↓reduceIte, Nat.reduceEqDiff, *]; rfl))) fun G3 x4 hone => ?_
          refine OpsL.nil ⟨trivial, ?_⟩
          refine OpsR.act (by kernel_rfl) (ActStep.walk rfl rfl ?_)
          refine appC hm (by omega) x4 hone (by subst_vars; decide) (by (first | (simp only [ASt.ev, tmPut, ↓reduceIte, Nat.reduceEqDiff, *]; done))) (by (first | (simp only [ASt.ev, tmPut, ↓reduceIte, Nat.reduceEqDiff, *]; done))) fun v' nx5 H5 l5 hcA hm2 hsame hle5 w1 w2 => ?_
          refine OpsL.nil ⟨trivial, ?_⟩
          refine OpsR.one rfl rfl rfl (by kernel_rfl) ?_
          repeat (first | (refine OpsL.p (by subst_vars; decide) (by (first | (exact aop_fieldAddr (by (first | (simp only [ASt.ev, tmPut, ↓reduceIte, Nat.reduceEqDiff, *]; rfl))) (by exact rfl)))) ?_) | (refine OpsL.nil ?_; (dsimp only)))
          refine OpsR.act (by kernel_rfl) (ActStep.walk rfl rfl ?_)
          refine OpsL.storeAt 5 (cs' := autV (putC a (at_ % 5, at_.tdiv 5 % 8, x, at_.tdiv 40 % 5)) vi vf vo v' vn) (by (first | (simp only [ASt.ev, tmPut, ↓reduceIte, Nat.reduceEqDiff, *]; rfl))) (by (first | (simp only [ASt.ev, tmPut, ↓reduceIte, Nat.reduceEqDiff, *]; done))) (by exact rfl) w1 w2 hcA rfl (by simp [autV]) rfl ?_
          refine OpsL.nil ⟨trivial, ?_⟩
          refine OpsR.nil ?_
          ((repeat (refine blockExit_normal ?_)); dsimp only)
          repeat fail
          exact ⟨rfl, _, _, _, _, _, _, _, _, _, _, rfl, hm2, lens25 hlen (by simp [putC]), ⟨by omega, fun j hj => by rw [Heap.put_ne (show j ≠ nx2 by omega), hsame j hj (by omega), hxl j hj]⟩, by simp [tmPut, *], by simp [tmPut, *]⟩
      · skip
        refine OpsL.p (by subst_vars; decide) (aop_load (by (first | (simp only [ASt.ev, tmPut, ↓reduceIte, Nat.reduceEqDiff, *]; rfl))) (by exact rfl) rfl c5) ?_
        refine OpsL.nil ⟨trivial, ?_⟩
        refine OpsR.act (by kernel_rfl) (ActStep.walk rfl rfl ?_)
        refine OpsL.call2 (by subst_vars; decide) (by (first | (simp only [ASt.ev, tmPut, ↓reduceIte, Nat.reduceEqDiff, *]; rfl))) (by (first | (simp only [ASt.ev, tmPut, ↓reduceIte, Nat.reduceEqDiff, *]; rfl))) entersWithin (within3C W0 _ _ (by omega) (by omega)) ?_
        rintro u n8 H8 ⟨rfl, g2, g3⟩
        rw [g2, g3]
        clear g2 g3
        refine OpsL.nil ⟨trivial, ?_⟩
        refine OpsR.act (by kernel_rfl) (ActStep.walk rfl rfl ?_)
        refine OpsL.call2 (by subst_vars; decide) (by (first | (simp only [ASt.ev, tmPut, ↓reduceIte, Nat.reduceEqDiff, *]; rfl))) (by (first | (simp only [ASt.ev, tmPut, ↓reduceIte, Nat.reduceEqDiff, *]; rfl))) entersWithin (within3C W0 _ _ (by omega) (by omega)) ?_
        rintro u n8 H8 ⟨rfl, g2, g3⟩
        rw [g2, g3]
        clear g2 g3
        refine OpsL.nil ⟨trivial, ?_⟩
        refine OpsR.act (by kernel_rfl) (ActStep.walk rfl rfl ?_)
        refine OpsL.call2 (by subst_vars; decide) (by (first | (simp only [ASt.ev, tmPut, ↓reduceIte, Nat.reduceEqDiff, *]; rfl))) (by (first | (simp only [ASt.ev, tmPut, ↓reduceIte, Nat.reduceEqDiff, *]; rfl))) entersWithin (within3C W0 _ _ (by omega) (by omega)) ?_
        rintro u n8 H8 ⟨rfl, g2, g3⟩
        rw [g2, g3]
        clear g2 g3
        refine OpsL.nil ⟨trivial, ?_⟩
        refine OpsR.one rfl rfl rfl (by kernel_rfl) ?_
        refine OpsL.p (by subst_vars; decide) (aop_build (v := .agg (e4 (at_ % 5, at_.tdiv 5 % 8, x, at_.tdiv 40 % 5)).toArray) (l := [(0, .int .i64 (at_ % 5)), (1, .int .i64 (at_.tdiv 5 % 8)), (3, .int .i64 (at_.tdiv 40 % 5)), (2, .int .i64 x)]) (by simp [evParts, ASt.ev, tmPut, plainC, plain1, *]) (by kernel_rfl)) ?_
        repeat (first | (refine OpsL.nil ?_; (skip)))
        refine OpsR.act (by kernel_rfl) (ActStep.walk rfl rfl ?_)
        refine bsC (by subst_vars; decide) (by (first | (simp only [ASt.ev, tmPut, ↓reduceIte, Nat.reduceEqDiff, *]; rfl))) fun G3 x4 hone => ?_
        refine OpsL.nil ⟨trivial, ?_⟩
        refine OpsR.act (by kernel_rfl) (ActStep.walk rfl rfl ?_)
        refine appC hm (by omega) x4 hone (by subst_vars; decide) (by (first | (simp only [ASt.ev, tmPut, ↓reduceIte, Nat.reduceEqDiff, *]; done))) (by (first | (simp only [ASt.ev, tmPut, ↓reduceIte, Nat.reduceEqDiff, *]; done))) fun v' nx5 H5 l5 hcA hm2 hsame hle5 w1 w2 => ?_
        refine OpsL.nil ⟨trivial, ?_⟩
        refine OpsR.one rfl rfl rfl (by kernel_rfl) ?_
        repeat (first | (refine OpsL.p (by subst_vars; decide) (by (first | (exact aop_fieldAddr (by (first | (simp only [ASt.ev, tmPut, ↓reduceIte, Nat.reduceEqDiff, *]; rfl))) (by exact rfl)))) ?_) | (refine OpsL.nil ?_; (dsimp only)))
        refine OpsR.act (by kernel_rfl) (ActStep.walk rfl rfl ?_)
        refine OpsL.storeAt 5 (cs' := autV (putC a (at_ % 5, at_.tdiv 5 % 8, x, at_.tdiv 40 % 5)) vi vf vo v' vn) (by (first | (simp only [ASt.ev, tmPut, ↓reduceIte, Nat.reduceEqDiff, *]; rfl))) (by (first | (simp only [ASt.ev, tmPut, ↓reduceIte, Nat.reduceEqDiff, *]; done))) (by exact rfl) w1 w2 hcA rfl (by simp [autV]) rfl ?_
        refine OpsL.nil ⟨trivial, ?_⟩
        refine OpsR.nil ?_
        ((repeat (refine blockExit_normal ?_)); dsimp only)
        repeat fail
        exact ⟨rfl, _, _, _, _, _, _, _, _, _, _, rfl, hm2, lens25 hlen (by simp [putC]), ⟨by omega, fun j hj => by rw [Heap.put_ne (show j ≠ nx2 by omega), hsame j hj (by omega), hxl j hj]⟩, by simp [tmPut, *], by simp [tmPut, *]⟩
    refine OpsL.p (by subst_vars; decide) (aop_eqlF (by (first | (simp only [ASt.ev, tmPut, ↓reduceIte, Nat.reduceEqDiff, *]; rfl))) (by (first | (simp only [ASt.ev, tmPut, ↓reduceIte, Nat.reduceEqDiff, *]; rfl))) m6) ?_
    repeat (first | (refine OpsL.p (by subst_vars; decide) (by (first | (exact aop_assign (by (first | (simp only [ASt.ev, tmPut, ↓reduceIte, Nat.reduceEqDiff, *]; rfl)))))) ?_) | (refine OpsL.nil ?_; (change Trip _ _ _ _ _)))
    refine Trip.iteB (b := false) (by (first | (simp only [ASt.ev, tmPut, ↓reduceIte, Nat.reduceEqDiff, *]; done))) (fun h => absurd h (by decide)) (fun _ => ?_)
    repeat (first | (refine Trip.seq ?_) | (refine Trip.ops ?_))
    by_cases m7 : w = 7
    · refine OpsL.p (by subst_vars; decide) (aop_eqlT (by (first | (simp only [ASt.ev, tmPut, ↓reduceIte, Nat.reduceEqDiff, *]; rfl))) (by (first | (simp only [ASt.ev, tmPut, ↓reduceIte, Nat.reduceEqDiff, *]; rfl))) m7) ?_
      repeat (first | (refine OpsL.p (by subst_vars; decide) (by (first | (exact aop_assign (by (first | (simp only [ASt.ev, tmPut, ↓reduceIte, Nat.reduceEqDiff, *]; rfl)))))) ?_) | (refine OpsL.nil ?_; (change Trip _ _ _ _ _)))
      refine Trip.iteB (b := true) (by (first | (simp only [ASt.ev, tmPut, ↓reduceIte, Nat.reduceEqDiff, *]; done))) (fun _ => ?_) (fun h => absurd h (by decide))
      repeat fail
      refine OpsR.drawn [1, 4, 6, 7, 9] (K := fun _ _ => True) mixed3M (by kernel_rfl) (by kernel_rfl) [0, 2, 3, 4, 5, 1, 6, 7, 8, 9] (by kernel_rfl) trivial ?_
      refine OpsR.one rfl rfl rfl (by kernel_rfl) ?_
      repeat (first | (refine OpsL.p (by subst_vars; decide) (by (first | (exact aop_fieldAddr (by (first | (simp only [ASt.ev, tmPut, ↓reduceIte, Nat.reduceEqDiff, *]; rfl))) (by exact rfl)))) ?_) | (refine OpsL.nil ?_; (dsimp only)))
      refine OpsR.one rfl rfl rfl (by kernel_rfl) ?_
      repeat (first | (refine OpsL.p (by subst_vars; decide) (by (first | (exact aop_move (by (first | (simp only [ASt.ev, tmPut, ↓reduceIte, Nat.reduceEqDiff, *]; rfl)))))) ?_) | (refine OpsL.nil ?_; (skip)))
      refine OpsR.one rfl rfl rfl (by kernel_rfl) ?_
      repeat (first | (refine OpsL.p (by subst_vars; decide) (by (first | (exact aop_move (by (first | (simp only [ASt.ev, tmPut, ↓reduceIte, Nat.reduceEqDiff, *]; rfl)))))) ?_) | (refine OpsL.nil ?_; (skip)))
      refine OpsR.act2k (k := 1) (by kernel_rfl) (ActStep.walk rfl rfl ?_) (ActStep.walk rfl rfl ?_)
      · skip
        refine OpsL.call2 (by subst_vars; decide) (by (first | (simp only [ASt.ev, tmPut, ↓reduceIte, Nat.reduceEqDiff, *]; rfl))) (by (first | (simp only [ASt.ev, tmPut, ↓reduceIte, Nat.reduceEqDiff, *]; rfl))) entersWithin (within3C W0 _ _ (by omega) (by omega)) ?_
        rintro u n8 H8 ⟨rfl, g2, g3⟩
        rw [g2, g3]
        clear g2 g3
        refine OpsL.nil ⟨trivial, ?_⟩
        refine OpsR.one rfl rfl rfl (by kernel_rfl) ?_
        refine OpsL.p (by subst_vars; decide) (aop_build (v := .agg (e4 (0, x, 0, at_ % 5)).toArray) (l := [(0, .int .i64 0), (1, .int .i64 x), (3, .int .i64 (at_ % 5))]) (by simp [evParts, ASt.ev, tmPut, plainC, plain1, *]) (by kernel_rfl)) ?_
        repeat (first | (refine OpsL.nil ?_; (skip)))
        refine OpsR.act2 (by kernel_rfl) (ActStep.walk rfl rfl ?_) (ActStep.walk rfl rfl ?_)
        · skip
          refine OpsL.p (by subst_vars; decide) (aop_load (by (first | (simp only [ASt.ev, tmPut, ↓reduceIte, Nat.reduceEqDiff, *]; rfl))) (by exact rfl) rfl c5) ?_
          refine OpsL.nil ⟨trivial, ?_⟩
          refine OpsR.act (by kernel_rfl) (ActStep.walk rfl rfl ?_)
          refine bsC (by subst_vars; decide) (by (first | (simp only [ASt.ev, tmPut, ↓reduceIte, Nat.reduceEqDiff, *]; rfl))) fun G3 x4 hone => ?_
          refine OpsL.nil ⟨trivial, ?_⟩
          refine OpsR.act (by kernel_rfl) (ActStep.walk rfl rfl ?_)
          refine appC hm (by omega) x4 hone (by subst_vars; decide) (by (first | (simp only [ASt.ev, tmPut, ↓reduceIte, Nat.reduceEqDiff, *]; done))) (by (first | (simp only [ASt.ev, tmPut, ↓reduceIte, Nat.reduceEqDiff, *]; done))) fun v' nx5 H5 l5 hcA hm2 hsame hle5 w1 w2 => ?_
          refine OpsL.nil ⟨trivial, ?_⟩
          refine OpsR.one rfl rfl rfl (by kernel_rfl) ?_
          repeat (first | (refine OpsL.p (by subst_vars; decide) (by (first | (exact aop_fieldAddr (by (first | (simp only [ASt.ev, tmPut, ↓reduceIte, Nat.reduceEqDiff, *]; rfl))) (by exact rfl)))) ?_) | (refine OpsL.nil ?_; (dsimp only)))
          refine OpsR.act (by kernel_rfl) (ActStep.walk rfl rfl ?_)
          refine OpsL.storeAt 5 (cs' := autV (putC a (0, x, 0, at_ % 5)) vi vf vo v' vn) (by (first | (simp only [ASt.ev, tmPut, ↓reduceIte, Nat.reduceEqDiff, *]; rfl))) (by (first | (simp only [ASt.ev, tmPut, ↓reduceIte, Nat.reduceEqDiff, *]; done))) (by exact rfl) w1 w2 hcA rfl (by simp [autV]) rfl ?_
          refine OpsL.nil ⟨trivial, ?_⟩
          refine OpsR.nil ?_
          ((repeat (refine blockExit_normal ?_)); dsimp only)
          repeat fail
          exact ⟨rfl, _, _, _, _, _, _, _, _, _, _, rfl, hm2, lens25 hlen (by simp [putC]), ⟨by omega, fun j hj => by rw [Heap.put_ne (show j ≠ nx2 by omega), hsame j hj (by omega), hxl j hj]⟩, by simp [tmPut, *], by simp [tmPut, *]⟩
        · skip
          refine bsC (by subst_vars; decide) (by (first | (simp only [ASt.ev, tmPut, ↓reduceIte, Nat.reduceEqDiff, *]; rfl))) fun G3 x4 hone => ?_
          refine OpsL.nil ⟨trivial, ?_⟩
          refine OpsR.act (by kernel_rfl) (ActStep.walk rfl rfl ?_)
          refine OpsL.p (by subst_vars; decide) (aop_load (by (first | (simp only [ASt.ev, tmPut, ↓reduceIte, Nat.reduceEqDiff, *]; rfl))) (by exact rfl) rfl (cell_of ((x4.2 nx2 hA).trans hm.cell) rfl)) ?_
          refine OpsL.nil ⟨trivial, ?_⟩
          refine OpsR.act (by kernel_rfl) (ActStep.walk rfl rfl ?_)
          refine appC hm (by omega) x4 hone (by subst_vars; decide) (by (first | (simp only [ASt.ev, tmPut, ↓reduceIte, Nat.reduceEqDiff, *]; done))) (by (first | (simp only [ASt.ev, tmPut, ↓reduceIte, Nat.reduceEqDiff, *]; done))) fun v' nx5 H5 l5 hcA hm2 hsame hle5 w1 w2 => ?_
          refine OpsL.nil ⟨trivial, ?_⟩
          refine OpsR.one rfl rfl rfl (by kernel_rfl) ?_
          repeat (first | (refine OpsL.p (by subst_vars; decide) (by (first | (exact aop_fieldAddr (by (first | (simp only [ASt.ev, tmPut, ↓reduceIte, Nat.reduceEqDiff, *]; rfl))) (by exact rfl)))) ?_) | (refine OpsL.nil ?_; (dsimp only)))
          refine OpsR.act (by kernel_rfl) (ActStep.walk rfl rfl ?_)
          refine OpsL.storeAt 5 (cs' := autV (putC a (0, x, 0, at_ % 5)) vi vf vo v' vn) (by (first | (simp only [ASt.ev, tmPut, ↓reduceIte, Nat.reduceEqDiff, *]; rfl))) (by (first | (simp only [ASt.ev, tmPut, ↓reduceIte, Nat.reduceEqDiff, *]; done))) (by exact rfl) w1 w2 hcA rfl (by simp [autV]) rfl ?_
          refine OpsL.nil ⟨trivial, ?_⟩
          refine OpsR.nil ?_
          ((repeat (refine blockExit_normal ?_)); dsimp only)
          repeat fail
          exact ⟨rfl, _, _, _, _, _, _, _, _, _, _, rfl, hm2, lens25 hlen (by simp [putC]), ⟨by omega, fun j hj => by rw [Heap.put_ne (show j ≠ nx2 by omega), hsame j hj (by omega), hxl j hj]⟩, by simp [tmPut, *], by simp [tmPut, *]⟩
      · skip
        refine OpsL.p (by subst_vars; decide) (aop_load (by (first | (simp only [ASt.ev, tmPut, ↓reduceIte, Nat.reduceEqDiff, *]; rfl))) (by exact rfl) rfl c5) ?_
        refine OpsL.nil ⟨trivial, ?_⟩
        refine OpsR.act (by kernel_rfl) (ActStep.walk rfl rfl ?_)
        refine OpsL.call2 (by subst_vars; decide) (by (first | (simp only [ASt.ev, tmPut, ↓reduceIte, Nat.reduceEqDiff, *]; rfl))) (by (first | (simp only [ASt.ev, tmPut, ↓reduceIte, Nat.reduceEqDiff, *]; rfl))) entersWithin (within3C W0 _ _ (by omega) (by omega)) ?_
        rintro u n8 H8 ⟨rfl, g2, g3⟩
        rw [g2, g3]
        clear g2 g3
        refine OpsL.nil ⟨trivial, ?_⟩
        refine OpsR.one rfl rfl rfl (by kernel_rfl) ?_
        refine OpsL.p (by subst_vars; decide) (aop_build (v := .agg (e4 (0, x, 0, at_ % 5)).toArray) (l := [(0, .int .i64 0), (1, .int .i64 x), (3, .int .i64 (at_ % 5))]) (by simp [evParts, ASt.ev, tmPut, plainC, plain1, *]) (by kernel_rfl)) ?_
        repeat (first | (refine OpsL.nil ?_; (skip)))
        refine OpsR.act (by kernel_rfl) (ActStep.walk rfl rfl ?_)
        refine bsC (by subst_vars; decide) (by (first | (simp only [ASt.ev, tmPut, ↓reduceIte, Nat.reduceEqDiff, *]; rfl))) fun G3 x4 hone => ?_
        refine OpsL.nil ⟨trivial, ?_⟩
        refine OpsR.act (by kernel_rfl) (ActStep.walk rfl rfl ?_)
        refine appC hm (by omega) x4 hone (by subst_vars; decide) (by (first | (simp only [ASt.ev, tmPut, ↓reduceIte, Nat.reduceEqDiff, *]; done))) (by (first | (simp only [ASt.ev, tmPut, ↓reduceIte, Nat.reduceEqDiff, *]; done))) fun v' nx5 H5 l5 hcA hm2 hsame hle5 w1 w2 => ?_
        refine OpsL.nil ⟨trivial, ?_⟩
        refine OpsR.one rfl rfl rfl (by kernel_rfl) ?_
        repeat (first | (refine OpsL.p (by subst_vars; decide) (by (first | (exact aop_fieldAddr (by (first | (simp only [ASt.ev, tmPut, ↓reduceIte, Nat.reduceEqDiff, *]; rfl))) (by exact rfl)))) ?_) | (refine OpsL.nil ?_; (dsimp only)))
        refine OpsR.act (by kernel_rfl) (ActStep.walk rfl rfl ?_)
        refine OpsL.storeAt 5 (cs' := autV (putC a (0, x, 0, at_ % 5)) vi vf vo v' vn) (by (first | (simp only [ASt.ev, tmPut, ↓reduceIte, Nat.reduceEqDiff, *]; rfl))) (by (first | (simp only [ASt.ev, tmPut, ↓reduceIte, Nat.reduceEqDiff, *]; done))) (by exact rfl) w1 w2 hcA rfl (by simp [autV]) rfl ?_
        refine OpsL.nil ⟨trivial, ?_⟩
        refine OpsR.nil ?_
        ((repeat (refine blockExit_normal ?_)); dsimp only)
        repeat fail
        exact ⟨rfl, _, _, _, _, _, _, _, _, _, _, rfl, hm2, lens25 hlen (by simp [putC]), ⟨by omega, fun j hj => by rw [Heap.put_ne (show j ≠ nx2 by omega), hsame j hj (by omega), hxl j hj]⟩, by simp [tmPut, *], by simp [tmPut, *]⟩
    refine OpsL.p (by subst_vars; decide) (aop_eqlF (by (first | (simp only [ASt.ev, tmPut, ↓reduceIte, Nat.reduceEqDiff, *]; rfl))) (by (first | (simp only [ASt.ev, tmPut, ↓reduceIte, Nat.reduceEqDiff, *]; rfl))) m7) ?_
    repeat (first | (refine OpsL.p (by subst_vars; decide) (by (first | (exact aop_assign (by (first | (simp only [ASt.ev, tmPut, ↓reduceIte, Nat.reduceEqDiff, *]; rfl)))))) ?_) | (refine OpsL.nil ?_; (change Trip _ _ _ _ _)))
    refine Trip.iteB (b := false) (by (first | (simp only [ASt.ev, tmPut, ↓reduceIte, Nat.reduceEqDiff, *]; done))) (fun h => absurd h (by decide)) (fun _ => ?_)
    repeat (first | (refine Trip.seq ?_) | (refine Trip.ops ?_))
    by_cases m8 : w = 8
    · refine OpsL.p (by subst_vars; decide) (aop_eqlT (by (first | (simp only [ASt.ev, tmPut, ↓reduceIte, Nat.reduceEqDiff, *]; rfl))) (by (first | (simp only [ASt.ev, tmPut, ↓reduceIte, Nat.reduceEqDiff, *]; rfl))) m8) ?_
      repeat (first | (refine OpsL.p (by subst_vars; decide) (by (first | (exact aop_assign (by (first | (simp only [ASt.ev, tmPut, ↓reduceIte, Nat.reduceEqDiff, *]; rfl)))))) ?_) | (refine OpsL.nil ?_; (change Trip _ _ _ _ _)))
      refine Trip.iteB (b := true) (by (first | (simp only [ASt.ev, tmPut, ↓reduceIte, Nat.reduceEqDiff, *]; done))) (fun _ => ?_) (fun h => absurd h (by decide))
      repeat fail
      refine OpsR.drawn [1, 3, 6, 7, 9] (K := fun _ _ => True) mixed3M (by kernel_rfl) (by kernel_rfl) [0, 2, 4, 3, 5, 1, 6, 7, 8, 9] (by kernel_rfl) trivial ?_
      refine OpsR.one rfl rfl rfl (by kernel_rfl) ?_
      repeat (first | (refine OpsL.p (by subst_vars; decide) (by (first | (exact aop_fieldAddr (by (first | (simp only [ASt.ev, tmPut, ↓reduceIte, Nat.reduceEqDiff, *]; rfl))) (by exact rfl)))) ?_) | (refine OpsL.nil ?_; (dsimp only)))
      refine OpsR.one rfl rfl rfl (by kernel_rfl) ?_
      repeat (first | (refine OpsL.p (by subst_vars; decide) (by (first | (exact aop_move (by (first | (simp only [ASt.ev, tmPut, ↓reduceIte, Nat.reduceEqDiff, *]; rfl)))))) ?_) | (refine OpsL.nil ?_; (skip)))
      refine OpsR.one rfl rfl rfl (by kernel_rfl) ?_
      repeat (first | (refine OpsL.p (by subst_vars; decide) (by (first | (exact aop_move (by (first | (simp only [ASt.ev, tmPut, ↓reduceIte, Nat.reduceEqDiff, *]; rfl)))))) ?_) | (refine OpsL.nil ?_; (skip)))
      refine OpsR.act2k (k := 1) (by kernel_rfl) (ActStep.walk rfl rfl ?_) (ActStep.walk rfl rfl ?_)
      · skip
        refine OpsL.call2 (by subst_vars; decide) (by (first | (simp only [ASt.ev, tmPut, ↓reduceIte, Nat.reduceEqDiff, *]; rfl))) (by (first | (simp only [ASt.ev, tmPut, ↓reduceIte, Nat.reduceEqDiff, *]; rfl))) entersWithin (within3C W0 _ _ (by omega) (by omega)) ?_
        rintro u n8 H8 ⟨rfl, g2, g3⟩
        rw [g2, g3]
        clear g2 g3
        refine OpsL.nil ⟨trivial, ?_⟩
        refine OpsR.one rfl rfl rfl (by kernel_rfl) ?_
        refine OpsL.p (by subst_vars; decide) (aop_build (v := .agg (e3 (at_ % 5, x, 0)).toArray) (l := [(0, .int .i64 (at_ % 5)), (1, .int .i64 x), (2, .int .i64 0)]) (by simp [evParts, ASt.ev, tmPut, plainC, plain1, *]) (by kernel_rfl)) ?_
        repeat (first | (refine OpsL.nil ?_; (skip)))
        refine OpsR.act2 (by kernel_rfl) (ActStep.walk rfl rfl ?_) (ActStep.walk rfl rfl ?_)
        · skip
          refine OpsL.p (by subst_vars; decide) (aop_load (by (first | (simp only [ASt.ev, tmPut, ↓reduceIte, Nat.reduceEqDiff, *]; rfl))) (by exact rfl) rfl c6) ?_
          refine OpsL.nil ⟨trivial, ?_⟩
          refine OpsR.act (by kernel_rfl) (ActStep.walk rfl rfl ?_)
          refine bsN (by subst_vars; decide) (by (first | (simp only [ASt.ev, tmPut, ↓reduceIte, Nat.reduceEqDiff, *]; rfl))) fun G3 x4 hone => ?_
          refine OpsL.nil ⟨trivial, ?_⟩
          refine OpsR.act (by kernel_rfl) (ActStep.walk rfl rfl ?_)
          refine appN hm (by omega) x4 hone (by subst_vars; decide) (by (first | (simp only [ASt.ev, tmPut, ↓reduceIte, Nat.reduceEqDiff, *]; done))) (by (first | (simp only [ASt.ev, tmPut, ↓reduceIte, Nat.reduceEqDiff, *]; done))) fun v' nx5 H5 l5 hcA hm2 hsame hle5 w1 w2 => ?_
          refine OpsL.nil ⟨trivial, ?_⟩
          refine OpsR.one rfl rfl rfl (by kernel_rfl) ?_
          repeat (first | (refine OpsL.p (by subst_vars; decide) (by (first | (exact aop_fieldAddr (by (first | (simp only [ASt.ev, tmPut, ↓reduceIte, Nat.reduceEqDiff, *]; rfl))) (by exact rfl)))) ?_) | (refine OpsL.nil ?_; (dsimp only)))
          refine OpsR.act (by kernel_rfl) (ActStep.walk rfl rfl ?_)
          refine OpsL.storeAt 6 (cs' := autV (putN a (at_ % 5, x, 0)) vi vf vo vc v') (by (first | (simp only [ASt.ev, tmPut, ↓reduceIte, Nat.reduceEqDiff, *]; rfl))) (by (first | (simp only [ASt.ev, tmPut, ↓reduceIte, Nat.reduceEqDiff, *]; done))) (by exact rfl) w1 w2 hcA rfl (by simp [autV]) rfl ?_
          refine OpsL.nil ⟨trivial, ?_⟩
          refine OpsR.nil ?_
          ((repeat (refine blockExit_normal ?_)); dsimp only)
          repeat fail
          exact ⟨rfl, _, _, _, _, _, _, _, _, _, _, rfl, hm2, lens25 hlen (by simp [putN]), ⟨by omega, fun j hj => by rw [Heap.put_ne (show j ≠ nx2 by omega), hsame j hj (by omega), hxl j hj]⟩, by simp [tmPut, *], by simp [tmPut, *]⟩
        · skip
          refine bsN (by subst_vars; decide) (by (first | (simp only [ASt.ev, tmPut, ↓reduceIte, Nat.reduceEqDiff, *]; rfl))) fun G3 x4 hone => ?_
          refine OpsL.nil ⟨trivial, ?_⟩
          refine OpsR.act (by kernel_rfl) (ActStep.walk rfl rfl ?_)
          refine OpsL.p (by subst_vars; decide) (aop_load (by (first | (simp only [ASt.ev, tmPut, ↓reduceIte, Nat.reduceEqDiff, *]; rfl))) (by exact rfl) rfl (cell_of ((x4.2 nx2 hA).trans hm.cell) rfl)) ?_
          refine OpsL.nil ⟨trivial, ?_⟩
          refine OpsR.act (by kernel_rfl) (ActStep.walk rfl rfl ?_)
          refine appN hm (by omega) x4 hone (by subst_vars; decide) (by (first | (simp only [ASt.ev, tmPut, ↓reduceIte, Nat.reduceEqDiff, *]; done))) (by (first | (simp only [ASt.ev, tmPut, ↓reduceIte, Nat.reduceEqDiff, *]; done))) fun v' nx5 H5 l5 hcA hm2 hsame hle5 w1 w2 => ?_
          refine OpsL.nil ⟨trivial, ?_⟩
          refine OpsR.one rfl rfl rfl (by kernel_rfl) ?_
          repeat (first | (refine OpsL.p (by subst_vars; decide) (by (first | (exact aop_fieldAddr (by (first | (simp only [ASt.ev, tmPut, ↓reduceIte, Nat.reduceEqDiff, *]; rfl))) (by exact rfl)))) ?_) | (refine OpsL.nil ?_; (dsimp only)))
          refine OpsR.act (by kernel_rfl) (ActStep.walk rfl rfl ?_)
          refine OpsL.storeAt 6 (cs' := autV (putN a (at_ % 5, x, 0)) vi vf vo vc v') (by (first | (simp only [ASt.ev, tmPut, ↓reduceIte, Nat.reduceEqDiff, *]; rfl))) (by (first | (simp only [ASt.ev, tmPut, ↓reduceIte, Nat.reduceEqDiff, *]; done))) (by exact rfl) w1 w2 hcA rfl (by simp [autV]) rfl ?_
          refine OpsL.nil ⟨trivial, ?_⟩
          refine OpsR.nil ?_
          ((repeat (refine blockExit_normal ?_)); dsimp only)
          repeat fail
          exact ⟨rfl, _, _, _, _, _, _, _, _, _, _, rfl, hm2, lens25 hlen (by simp [putN]), ⟨by omega, fun j hj => by rw [Heap.put_ne (show j ≠ nx2 by omega), hsame j hj (by omega), hxl j hj]⟩, by simp [tmPut, *], by simp [tmPut, *]⟩
      · skip
        refine OpsL.p (by subst_vars; decide) (aop_load (by (first | (simp only [ASt.ev, tmPut, ↓reduceIte, Nat.reduceEqDiff, *]; rfl))) (by exact rfl) rfl c6) ?_
        refine OpsL.nil ⟨trivial, ?_⟩
        refine OpsR.act (by kernel_rfl) (ActStep.walk rfl rfl ?_)
        refine OpsL.call2 (by subst_vars; decide) (by (first | (simp only [ASt.ev, tmPut, ↓reduceIte, Nat.reduceEqDiff, *]; rfl))) (by (first | (simp only [ASt.ev, tmPut, ↓reduceIte, Nat.reduceEqDiff, *]; rfl))) entersWithin (within3C W0 _ _ (by omega) (by omega)) ?_
        rintro u n8 H8 ⟨rfl, g2, g3⟩
        rw [g2, g3]
        clear g2 g3
        refine OpsL.nil ⟨trivial, ?_⟩
        refine OpsR.one rfl rfl rfl (by kernel_rfl) ?_
        refine OpsL.p (by subst_vars; decide) (aop_build (v := .agg (e3 (at_ % 5, x, 0)).toArray) (l := [(0, .int .i64 (at_ % 5)), (1, .int .i64 x), (2, .int .i64 0)]) (by simp [evParts, ASt.ev, tmPut, plainC, plain1, *]) (by kernel_rfl)) ?_
        repeat (first | (refine OpsL.nil ?_; (skip)))
        refine OpsR.act (by kernel_rfl) (ActStep.walk rfl rfl ?_)
        refine bsN (by subst_vars; decide) (by (first | (simp only [ASt.ev, tmPut, ↓reduceIte, Nat.reduceEqDiff, *]; rfl))) fun G3 x4 hone => ?_
        refine OpsL.nil ⟨trivial, ?_⟩
        refine OpsR.act (by kernel_rfl) (ActStep.walk rfl rfl ?_)
        refine appN hm (by omega) x4 hone (by subst_vars; decide) (by (first | (simp only [ASt.ev, tmPut, ↓reduceIte, Nat.reduceEqDiff, *]; done))) (by (first | (simp only [ASt.ev, tmPut, ↓reduceIte, Nat.reduceEqDiff, *]; done))) fun v' nx5 H5 l5 hcA hm2 hsame hle5 w1 w2 => ?_
        refine OpsL.nil ⟨trivial, ?_⟩
        refine OpsR.one rfl rfl rfl (by kernel_rfl) ?_
        repeat (first | (refine OpsL.p (by subst_vars; decide) (by (first | (exact aop_fieldAddr (by (first | (simp only [ASt.ev, tmPut, ↓reduceIte, Nat.reduceEqDiff, *]; rfl))) (by exact rfl)))) ?_) | (refine OpsL.nil ?_; (dsimp only)))
        refine OpsR.act (by kernel_rfl) (ActStep.walk rfl rfl ?_)
        refine OpsL.storeAt 6 (cs' := autV (putN a (at_ % 5, x, 0)) vi vf vo vc v') (by (first | (simp only [ASt.ev, tmPut, ↓reduceIte, Nat.reduceEqDiff, *]; rfl))) (by (first | (simp only [ASt.ev, tmPut, ↓reduceIte, Nat.reduceEqDiff, *]; done))) (by exact rfl) w1 w2 hcA rfl (by simp [autV]) rfl ?_
        refine OpsL.nil ⟨trivial, ?_⟩
        refine OpsR.nil ?_
        ((repeat (refine blockExit_normal ?_)); dsimp only)
        repeat fail
        exact ⟨rfl, _, _, _, _, _, _, _, _, _, _, rfl, hm2, lens25 hlen (by simp [putN]), ⟨by omega, fun j hj => by rw [Heap.put_ne (show j ≠ nx2 by omega), hsame j hj (by omega), hxl j hj]⟩, by simp [tmPut, *], by simp [tmPut, *]⟩
    refine OpsL.p (by subst_vars; decide) (aop_eqlF (by (first | (simp only [ASt.ev, tmPut, ↓reduceIte, Nat.reduceEqDiff, *]; rfl))) (by (first | (simp only [ASt.ev, tmPut, ↓reduceIte, Nat.reduceEqDiff, *]; rfl))) m8) ?_
    repeat (first | (refine OpsL.p (by subst_vars; decide) (by (first | (exact aop_assign (by (first | (simp only [ASt.ev, tmPut, ↓reduceIte, Nat.reduceEqDiff, *]; rfl)))))) ?_) | (refine OpsL.nil ?_; (change Trip _ _ _ _ _)))
    refine Trip.iteB (b := false) (by (first | (simp only [ASt.ev, tmPut, ↓reduceIte, Nat.reduceEqDiff, *]; done))) (fun h => absurd h (by decide)) (fun _ => ?_)
    repeat (first | (refine Trip.seq ?_) | (refine Trip.ops ?_))
    by_cases m9 : w = 9
    · refine OpsL.p (by subst_vars; decide) (aop_eqlT (by (first | (simp only [ASt.ev, tmPut, ↓reduceIte, Nat.reduceEqDiff, *]; rfl))) (by (first | (simp only [ASt.ev, tmPut, ↓reduceIte, Nat.reduceEqDiff, *]; rfl))) m9) ?_
      repeat (first | (refine OpsL.p (by subst_vars; decide) (by (first | (exact aop_assign (by (first | (simp only [ASt.ev, tmPut, ↓reduceIte, Nat.reduceEqDiff, *]; rfl)))))) ?_) | (refine OpsL.nil ?_; (change Trip _ _ _ _ _)))
      refine Trip.iteB (b := true) (by (first | (simp only [ASt.ev, tmPut, ↓reduceIte, Nat.reduceEqDiff, *]; done))) (fun _ => ?_) (fun h => absurd h (by decide))
      repeat fail
      refine OpsR.drawn [1, 3, 6, 7, 9] (K := fun _ _ => True) mixed3M (by kernel_rfl) (by kernel_rfl) [0, 2, 4, 3, 5, 1, 6, 7, 8, 9] (by kernel_rfl) trivial ?_
      refine OpsR.one rfl rfl rfl (by kernel_rfl) ?_
      repeat (first | (refine OpsL.p (by subst_vars; decide) (by (first | (exact aop_fieldAddr (by (first | (simp only [ASt.ev, tmPut, ↓reduceIte, Nat.reduceEqDiff, *]; rfl))) (by exact rfl)))) ?_) | (refine OpsL.nil ?_; (dsimp only)))
      refine OpsR.one rfl rfl rfl (by kernel_rfl) ?_
      repeat (first | (refine OpsL.p (by subst_vars; decide) (by (first | (exact aop_move (by (first | (simp only [ASt.ev, tmPut, ↓reduceIte, Nat.reduceEqDiff, *]; rfl)))))) ?_) | (refine OpsL.nil ?_; (skip)))
      refine OpsR.one rfl rfl rfl (by kernel_rfl) ?_
      repeat (first | (refine OpsL.p (by subst_vars; decide) (by (first | (exact aop_move (by (first | (simp only [ASt.ev, tmPut, ↓reduceIte, Nat.reduceEqDiff, *]; rfl)))))) ?_) | (refine OpsL.nil ?_; (skip)))
      refine OpsR.act2k (k := 1) (by kernel_rfl) (ActStep.walk rfl rfl ?_) (ActStep.walk rfl rfl ?_)
      · skip
        refine OpsL.call2 (by subst_vars; decide) (by (first | (simp only [ASt.ev, tmPut, ↓reduceIte, Nat.reduceEqDiff, *]; rfl))) (by (first | (simp only [ASt.ev, tmPut, ↓reduceIte, Nat.reduceEqDiff, *]; rfl))) entersWithin (within3C W0 _ _ (by omega) (by omega)) ?_
        rintro u n8 H8 ⟨rfl, g2, g3⟩
        rw [g2, g3]
        clear g2 g3
        refine OpsL.nil ⟨trivial, ?_⟩
        refine OpsR.one rfl rfl rfl (by kernel_rfl) ?_
        refine OpsL.p (by subst_vars; decide) (aop_build (v := .agg (e3 (0, at_ % 8, x)).toArray) (l := [(0, .int .i64 0), (1, .int .i64 (at_ % 8)), (2, .int .i64 x)]) (by simp [evParts, ASt.ev, tmPut, plainC, plain1, *]) (by kernel_rfl)) ?_
        repeat (first | (refine OpsL.nil ?_; (skip)))
        refine OpsR.act2 (by kernel_rfl) (ActStep.walk rfl rfl ?_) (ActStep.walk rfl rfl ?_)
        · skip
          refine OpsL.p (by subst_vars; decide) (aop_load (by (first | (simp only [ASt.ev, tmPut, ↓reduceIte, Nat.reduceEqDiff, *]; rfl))) (by exact rfl) rfl c6) ?_
          refine OpsL.nil ⟨trivial, ?_⟩
          refine OpsR.act (by kernel_rfl) (ActStep.walk rfl rfl ?_)
          refine bsN (by subst_vars; decide) (by (first | (simp only [ASt.ev, tmPut, ↓reduceIte, Nat.reduceEqDiff, *]; rfl))) fun G3 x4 hone => ?_
          refine OpsL.nil ⟨trivial, ?_⟩
          refine OpsR.act (by kernel_rfl) (ActStep.walk rfl rfl ?_)
          refine appN hm (by omega) x4 hone (by subst_vars; decide) (by (first | (simp only [ASt.ev, tmPut, ↓reduceIte, Nat.reduceEqDiff, *]; done))) (by (first | (simp only [ASt.ev, tmPut, ↓reduceIte, Nat.reduceEqDiff, *]; done))) fun v' nx5 H5 l5 hcA hm2 hsame hle5 w1 w2 => ?_
          refine OpsL.nil ⟨trivial, ?_⟩
          refine OpsR.one rfl rfl rfl (by kernel_rfl) ?_
          repeat (first | (refine OpsL.p (by subst_vars; decide) (by (first | (exact aop_fieldAddr (by (first | (simp only [ASt.ev, tmPut, ↓reduceIte, Nat.reduceEqDiff, *]; rfl))) (by exact rfl)))) ?_) | (refine OpsL.nil ?_; (dsimp only)))
          refine OpsR.act (by kernel_rfl) (ActStep.walk rfl rfl ?_)
          refine OpsL.storeAt 6 (cs' := autV (putN a (0, at_ % 8, x)) vi vf vo vc v') (by (first | (simp only [ASt.ev, tmPut, ↓reduceIte, Nat.reduceEqDiff, *]; rfl))) (by (first | (simp only [ASt.ev, tmPut, ↓reduceIte, Nat.reduceEqDiff, *]; done))) (by exact rfl) w1 w2 hcA rfl (by simp [autV]) rfl ?_
          refine OpsL.nil ⟨trivial, ?_⟩
          refine OpsR.nil ?_
          ((repeat (refine blockExit_normal ?_)); dsimp only)
          repeat fail
          exact ⟨rfl, _, _, _, _, _, _, _, _, _, _, rfl, hm2, lens25 hlen (by simp [putN]), ⟨by omega, fun j hj => by rw [Heap.put_ne (show j ≠ nx2 by omega), hsame j hj (by omega), hxl j hj]⟩, by simp [tmPut, *], by simp [tmPut, *]⟩
        · skip
          refine bsN (by subst_vars; decide) (by (first | (simp only [ASt.ev, tmPut, ↓reduceIte, Nat.reduceEqDiff, *]; rfl))) fun G3 x4 hone => ?_
          refine OpsL.nil ⟨trivial, ?_⟩
          refine OpsR.act (by kernel_rfl) (ActStep.walk rfl rfl ?_)
          refine OpsL.p (by subst_vars; decide) (aop_load (by (first | (simp only [ASt.ev, tmPut, ↓reduceIte, Nat.reduceEqDiff, *]; rfl))) (by exact rfl) rfl (cell_of ((x4.2 nx2 hA).trans hm.cell) rfl)) ?_
          refine OpsL.nil ⟨trivial, ?_⟩
          refine OpsR.act (by kernel_rfl) (ActStep.walk rfl rfl ?_)
          refine appN hm (by omega) x4 hone (by subst_vars; decide) (by (first | (simp only [ASt.ev, tmPut, ↓reduceIte, Nat.reduceEqDiff, *]; done))) (by (first | (simp only [ASt.ev, tmPut, ↓reduceIte, Nat.reduceEqDiff, *]; done))) fun v' nx5 H5 l5 hcA hm2 hsame hle5 w1 w2 => ?_
          refine OpsL.nil ⟨trivial, ?_⟩
          refine OpsR.one rfl rfl rfl (by kernel_rfl) ?_
          repeat (first | (refine OpsL.p (by subst_vars; decide) (by (first | (exact aop_fieldAddr (by (first | (simp only [ASt.ev, tmPut, ↓reduceIte, Nat.reduceEqDiff, *]; rfl))) (by exact rfl)))) ?_) | (refine OpsL.nil ?_; (dsimp only)))
          refine OpsR.act (by kernel_rfl) (ActStep.walk rfl rfl ?_)
          refine OpsL.storeAt 6 (cs' := autV (putN a (0, at_ % 8, x)) vi vf vo vc v') (by (first | (simp only [ASt.ev, tmPut, ↓reduceIte, Nat.reduceEqDiff, *]; rfl))) (by (first | (simp only [ASt.ev, tmPut, ↓reduceIte, Nat.reduceEqDiff, *]; done))) (by exact rfl) w1 w2 hcA rfl (by simp [autV]) rfl ?_
          refine OpsL.nil ⟨trivial, ?_⟩
          refine OpsR.nil ?_
          ((repeat (refine blockExit_normal ?_)); dsimp only)
          repeat fail
          exact ⟨rfl, _, _, _, _, _, _, _, _, _, _, rfl, hm2, lens25 hlen (by simp [putN]), ⟨by omega, fun j hj => by rw [Heap.put_ne (show j ≠ nx2 by omega), hsame j hj (by omega), hxl j hj]⟩, by simp [tmPut, *], by simp [tmPut, *]⟩
      · skip
        refine OpsL.p (by subst_vars; decide) (aop_load (by (first | (simp only [ASt.ev, tmPut, ↓reduceIte, Nat.reduceEqDiff, *]; rfl))) (by exact rfl) rfl c6) ?_
        refine OpsL.nil ⟨trivial, ?_⟩
        refine OpsR.act (by kernel_rfl) (ActStep.walk rfl rfl ?_)
        refine OpsL.call2 (by subst_vars; decide) (by (first | (simp only [ASt.ev, tmPut, ↓reduceIte, Nat.reduceEqDiff, *]; rfl))) (by (first | (simp only [ASt.ev, tmPut, ↓reduceIte, Nat.reduceEqDiff, *]; rfl))) entersWithin (within3C W0 _ _ (by omega) (by omega)) ?_
        rintro u n8 H8 ⟨rfl, g2, g3⟩
        rw [g2, g3]
        clear g2 g3
        refine OpsL.nil ⟨trivial, ?_⟩
        refine OpsR.one rfl rfl rfl (by kernel_rfl) ?_
        refine OpsL.p (by subst_vars; decide) (aop_build (v := .agg (e3 (0, at_ % 8, x)).toArray) (l := [(0, .int .i64 0), (1, .int .i64 (at_ % 8)), (2, .int .i64 x)]) (by simp [evParts, ASt.ev, tmPut, plainC, plain1, *]) (by kernel_rfl)) ?_
        repeat (first | (refine OpsL.nil ?_; (skip)))
        refine OpsR.act (by kernel_rfl) (ActStep.walk rfl rfl ?_)
        refine bsN (by subst_vars; decide) (by (first | (simp only [ASt.ev, tmPut, ↓reduceIte, Nat.reduceEqDiff, *]; rfl))) fun G3 x4 hone => ?_
        refine OpsL.nil ⟨trivial, ?_⟩
        refine OpsR.act (by kernel_rfl) (ActStep.walk rfl rfl ?_)
        refine appN hm (by omega) x4 hone (by subst_vars; decide) (by (first | (simp only [ASt.ev, tmPut, ↓reduceIte, Nat.reduceEqDiff, *]; done))) (by (first | (simp only [ASt.ev, tmPut, ↓reduceIte, Nat.reduceEqDiff, *]; done))) fun v' nx5 H5 l5 hcA hm2 hsame hle5 w1 w2 => ?_
        refine OpsL.nil ⟨trivial, ?_⟩
        refine OpsR.one rfl rfl rfl (by kernel_rfl) ?_
        repeat (first | (refine OpsL.p (by subst_vars; decide) (by (first | (exact aop_fieldAddr (by (first | (simp only [ASt.ev, tmPut, ↓reduceIte, Nat.reduceEqDiff, *]; rfl))) (by exact rfl)))) ?_) | (refine OpsL.nil ?_; (dsimp only)))
        refine OpsR.act (by kernel_rfl) (ActStep.walk rfl rfl ?_)
        refine OpsL.storeAt 6 (cs' := autV (putN a (0, at_ % 8, x)) vi vf vo vc v') (by (first | (simp only [ASt.ev, tmPut, ↓reduceIte, Nat.reduceEqDiff, *]; rfl))) (by (first | (simp only [ASt.ev, tmPut, ↓reduceIte, Nat.reduceEqDiff, *]; done))) (by exact rfl) w1 w2 hcA rfl (by simp [autV]) rfl ?_
        refine OpsL.nil ⟨trivial, ?_⟩
        refine OpsR.nil ?_
        ((repeat (refine blockExit_normal ?_)); dsimp only)
        repeat fail
        exact ⟨rfl, _, _, _, _, _, _, _, _, _, _, rfl, hm2, lens25 hlen (by simp [putN]), ⟨by omega, fun j hj => by rw [Heap.put_ne (show j ≠ nx2 by omega), hsame j hj (by omega), hxl j hj]⟩, by simp [tmPut, *], by simp [tmPut, *]⟩
    refine OpsL.p (by subst_vars; decide) (aop_eqlF (by (first | (simp only [ASt.ev, tmPut, ↓reduceIte, Nat.reduceEqDiff, *]; rfl))) (by (first | (simp only [ASt.ev, tmPut, ↓reduceIte, Nat.reduceEqDiff, *]; rfl))) m9) ?_
    repeat (first | (refine OpsL.p (by subst_vars; decide) (by (first | (exact aop_assign (by (first | (simp only [ASt.ev, tmPut, ↓reduceIte, Nat.reduceEqDiff, *]; rfl)))))) ?_) | (refine OpsL.nil ?_; (change Trip _ _ _ _ _)))
    refine Trip.iteB (b := false) (by (first | (simp only [ASt.ev, tmPut, ↓reduceIte, Nat.reduceEqDiff, *]; done))) (fun h => absurd h (by decide)) (fun _ => ?_)
    repeat (first | (refine Trip.seq ?_) | (refine Trip.ops ?_))
    by_cases m10 : w = 10
    · refine OpsL.p (by subst_vars; decide) (aop_eqlT (by (first | (simp only [ASt.ev, tmPut, ↓reduceIte, Nat.reduceEqDiff, *]; rfl))) (by (first | (simp only [ASt.ev, tmPut, ↓reduceIte, Nat.reduceEqDiff, *]; rfl))) m10) ?_
      repeat (first | (refine OpsL.p (by subst_vars; decide) (by (first | (exact aop_assign (by (first | (simp only [ASt.ev, tmPut, ↓reduceIte, Nat.reduceEqDiff, *]; rfl)))))) ?_) | (refine OpsL.nil ?_; (change Trip _ _ _ _ _)))
      refine Trip.iteB (b := true) (by (first | (simp only [ASt.ev, tmPut, ↓reduceIte, Nat.reduceEqDiff, *]; done))) (fun _ => ?_) (fun h => absurd h (by decide))
      repeat (first | (refine OpsL.p (by subst_vars; decide) (by (first | (exact aop_move (by (first | (simp only [ASt.ev, tmPut, ↓reduceIte, Nat.reduceEqDiff, *]; rfl)))) | (exact aop_fieldAddr (by (first | (simp only [ASt.ev, tmPut, ↓reduceIte, Nat.reduceEqDiff, *]; rfl))) (by exact rfl)) | (exact aop_load (by (first | (simp only [ASt.ev, tmPut, ↓reduceIte, Nat.reduceEqDiff, *]; rfl))) (by exact rfl) rfl (by assumption)))) ?_) | (refine Trip.ops ?_))
      refine OpsL.p (by subst_vars; decide) (aop_build (v := .agg (e4 (0, x, 0, 1)).toArray) (l := [(0, .int .i64 0), (1, .int .i64 x), (2, .int .i64 0), (3, .int .i64 1)]) (by simp [evParts, ASt.ev, tmPut, plainC, plain1, *]) (by kernel_rfl)) ?_
      refine bsO (by subst_vars; decide) (by (first | (simp only [ASt.ev, tmPut, ↓reduceIte, Nat.reduceEqDiff, *]; rfl))) fun G3 x4 hone => ?_
      refine appO hm (by omega) x4 hone (by subst_vars; decide) (by (first | (simp only [ASt.ev, tmPut, ↓reduceIte, Nat.reduceEqDiff, *]; done))) (by (first | (simp only [ASt.ev, tmPut, ↓reduceIte, Nat.reduceEqDiff, *]; done))) fun v' nx5 H5 l5 hcA hm2 hsame hle5 w1 w2 => ?_
      repeat (first | (refine OpsL.p (by subst_vars; decide) (by (first | (exact aop_fieldAddr (by (first | (simp only [ASt.ev, tmPut, ↓reduceIte, Nat.reduceEqDiff, *]; rfl))) (by exact rfl)))) ?_))
      refine OpsL.storeAt 4 (cs' := autV (putO a (0, x, 0, 1)) vi vf v' vc vn) (by (first | (simp only [ASt.ev, tmPut, ↓reduceIte, Nat.reduceEqDiff, *]; rfl))) (by (first | (simp only [ASt.ev, tmPut, ↓reduceIte, Nat.reduceEqDiff, *]; done))) (by exact rfl) w1 w2 hcA rfl (by simp [autV]) rfl ?_
      repeat (first | (refine OpsL.nil ?_; ((repeat (refine blockExit_normal ?_)); dsimp only)))
      exact ⟨rfl, _, _, _, _, _, _, _, _, _, _, rfl, hm2, lens25 hlen (by simp [putO]), ⟨by omega, fun j hj => by rw [Heap.put_ne (show j ≠ nx2 by omega), hsame j hj (by omega), hxl j hj]⟩, by simp [tmPut, *], by simp [tmPut, *]⟩
    refine OpsL.p (by subst_vars; decide) (aop_eqlF (by (first | (simp only [ASt.ev, tmPut, ↓reduceIte, Nat.reduceEqDiff, *]; rfl))) (by (first | (simp only [ASt.ev, tmPut, ↓reduceIte, Nat.reduceEqDiff, *]; rfl))) m10) ?_
    repeat (first | (refine OpsL.p (by subst_vars; decide) (by (first | (exact aop_assign (by (first | (simp only [ASt.ev, tmPut, ↓reduceIte, Nat.reduceEqDiff, *]; rfl)))))) ?_) | (refine OpsL.nil ?_; (change Trip _ _ _ _ _)))
    refine Trip.iteB (b := false) (by (first | (simp only [ASt.ev, tmPut, ↓reduceIte, Nat.reduceEqDiff, *]; done))) (fun h => absurd h (by decide)) (fun _ => ?_)
    repeat (first | (refine Trip.seq ?_) | (refine Trip.ops ?_))
    by_cases m11 : w = 11
    · refine OpsL.p (by subst_vars; decide) (aop_eqlT (by (first | (simp only [ASt.ev, tmPut, ↓reduceIte, Nat.reduceEqDiff, *]; rfl))) (by (first | (simp only [ASt.ev, tmPut, ↓reduceIte, Nat.reduceEqDiff, *]; rfl))) m11) ?_
      repeat (first | (refine OpsL.p (by subst_vars; decide) (by (first | (exact aop_assign (by (first | (simp only [ASt.ev, tmPut, ↓reduceIte, Nat.reduceEqDiff, *]; rfl)))))) ?_) | (refine OpsL.nil ?_; (change Trip _ _ _ _ _)))
      refine Trip.iteB (b := true) (by (first | (simp only [ASt.ev, tmPut, ↓reduceIte, Nat.reduceEqDiff, *]; done))) (fun _ => ?_) (fun h => absurd h (by decide))
      repeat (first | (refine OpsL.p (by subst_vars; decide) (by (first | (exact aop_move (by (first | (simp only [ASt.ev, tmPut, ↓reduceIte, Nat.reduceEqDiff, *]; rfl)))) | (exact aop_fieldAddr (by (first | (simp only [ASt.ev, tmPut, ↓reduceIte, Nat.reduceEqDiff, *]; rfl))) (by exact rfl)) | (exact aop_load (by (first | (simp only [ASt.ev, tmPut, ↓reduceIte, Nat.reduceEqDiff, *]; rfl))) (by exact rfl) rfl (by assumption)))) ?_) | (refine Trip.ops ?_))
      refine OpsL.p (by subst_vars; decide) (aop_build (v := .agg (e4 (0, 1, 0, x)).toArray) (l := [(0, .int .i64 0), (1, .int .i64 1), (3, .int .i64 x)]) (by simp [evParts, ASt.ev, tmPut, plainC, plain1, *]) (by kernel_rfl)) ?_
      refine bsC (by subst_vars; decide) (by (first | (simp only [ASt.ev, tmPut, ↓reduceIte, Nat.reduceEqDiff, *]; rfl))) fun G3 x4 hone => ?_
      refine appC hm (by omega) x4 hone (by subst_vars; decide) (by (first | (simp only [ASt.ev, tmPut, ↓reduceIte, Nat.reduceEqDiff, *]; done))) (by (first | (simp only [ASt.ev, tmPut, ↓reduceIte, Nat.reduceEqDiff, *]; done))) fun v' nx5 H5 l5 hcA hm2 hsame hle5 w1 w2 => ?_
      repeat (first | (refine OpsL.p (by subst_vars; decide) (by (first | (exact aop_fieldAddr (by (first | (simp only [ASt.ev, tmPut, ↓reduceIte, Nat.reduceEqDiff, *]; rfl))) (by exact rfl)))) ?_))
      refine OpsL.storeAt 5 (cs' := autV (putC a (0, 1, 0, x)) vi vf vo v' vn) (by (first | (simp only [ASt.ev, tmPut, ↓reduceIte, Nat.reduceEqDiff, *]; rfl))) (by (first | (simp only [ASt.ev, tmPut, ↓reduceIte, Nat.reduceEqDiff, *]; done))) (by exact rfl) w1 w2 hcA rfl (by simp [autV]) rfl ?_
      repeat (first | (refine OpsL.nil ?_; ((repeat (refine blockExit_normal ?_)); dsimp only)))
      exact ⟨rfl, _, _, _, _, _, _, _, _, _, _, rfl, hm2, lens25 hlen (by simp [putC]), ⟨by omega, fun j hj => by rw [Heap.put_ne (show j ≠ nx2 by omega), hsame j hj (by omega), hxl j hj]⟩, by simp [tmPut, *], by simp [tmPut, *]⟩
    refine OpsL.p (by subst_vars; decide) (aop_eqlF (by (first | (simp only [ASt.ev, tmPut, ↓reduceIte, Nat.reduceEqDiff, *]; rfl))) (by (first | (simp only [ASt.ev, tmPut, ↓reduceIte, Nat.reduceEqDiff, *]; rfl))) m11) ?_
    repeat (first | (refine OpsL.p (by subst_vars; decide) (by (first | (exact aop_assign (by (first | (simp only [ASt.ev, tmPut, ↓reduceIte, Nat.reduceEqDiff, *]; rfl)))))) ?_) | (refine OpsL.nil ?_; (change Trip _ _ _ _ _)))
    refine Trip.iteB (b := false) (by (first | (simp only [ASt.ev, tmPut, ↓reduceIte, Nat.reduceEqDiff, *]; done))) (fun h => absurd h (by decide)) (fun _ => ?_)
    exfalso
    omega
  · rintro e st ⟨rfl, tm', nx5, H5, b, l', wi, wf, wo, wc, wn, rfl, hm5, hlen5, x5, d13, d14⟩
    refine Trip.ok fun k5 => ?_
    replace k5 : ∀ id o, H5 id = some o → id < nx5 := k5
    have hl5 := hl1.ext x5 k1
    repeat (first | (refine Trip.seq ?_))
    refine OpsR.drawn [2, 5] (K := fun n1 G1 => Ext nx5 H5 n1 G1) mixed3M (by kernel_rfl) (by kernel_rfl) [0, 1, 3, 4, 2, 5, 6, 7] (by kernel_rfl) Ext.refl ?_
    refine OpsR.one rfl rfl rfl (by kernel_rfl) ?_
    repeat (first | (refine OpsL.p (by subst_vars; decide) (by (first | (exact aop_move (by (first | (simp only [ASt.ev, tmPut, ↓reduceIte, Nat.reduceEqDiff, *]; rfl)))))) ?_) | (refine OpsL.nil ?_; (dsimp only)))
    refine OpsR.one rfl rfl rfl (by kernel_rfl) ?_
    refine OpsL.p (by subst_vars; decide) (aop_loadAgg (k := 7) (by (first | (simp only [ASt.ev, tmPut, ↓reduceIte, Nat.reduceEqDiff, *]; done))) (by exact rfl) rfl (by exact rfl) (getc_all hm5.cell rfl)) ?_
    repeat (first | (refine OpsL.nil ?_; (skip)))
    refine OpsR.one rfl rfl rfl (by kernel_rfl) ?_
    repeat (first | (refine OpsL.p (by subst_vars; decide) (by (first | (exact aop_move (by (first | (simp only [ASt.ev, tmPut, ↓reduceIte, Nat.reduceEqDiff, *]; rfl)))))) ?_) | (refine OpsL.nil ?_; (skip)))
    refine OpsR.sp (v := .agg (autV b wi wf wo wc wn).toArray) rfl (by kernel_rfl) (by subst_vars; decide) Ext.refl (fun H' nx' hK => aop_loadAgg (k := 7) (by (first | (simp only [ASt.ev, tmPut, ↓reduceIte, Nat.reduceEqDiff, *]; done))) (by exact rfl) rfl (by exact rfl) (getc_ext hK k5 (getc_all hm5.cell rfl))) ?_
    refine OpsR.act (by kernel_rfl) (ActStep.walk rfl rfl ?_)
    refine OpsL.call2 (by subst_vars; decide) (by (first | (simp only [ASt.ev, tmPut, ↓reduceIte, Nat.reduceEqDiff, *]; done))) (by (first | (simp only [ASt.ev, tmPut, ↓reduceIte, Nat.reduceEqDiff, *]; done))) entersCheck (checkC W0 hl5 hss hm5.in hlen5) ?_
    rintro u n8 G8 ⟨rfl, y8⟩
    refine OpsL.nil ⟨y8, ?_⟩
    refine OpsR.act (by kernel_rfl) (ActStep.walk rfl rfl ?_)
    refine OpsL.call2 (by subst_vars; decide) (by (first | (simp only [ASt.ev, tmPut, ↓reduceIte, Nat.reduceEqDiff, *]; done))) (by (first | (simp only [ASt.ev, tmPut, ↓reduceIte, Nat.reduceEqDiff, *]; done))) entersCheckR (checkRC W0 (hl5.ext y8 k5) hss (hm5.ext y8).in hlen5) ?_
    rintro u n9 G9 ⟨rfl, y9⟩
    refine OpsL.nil ⟨y8.trans y9, ?_⟩
    refine OpsR.one rfl rfl rfl (by kernel_rfl) ?_
    refine OpsL.p (by subst_vars; decide) (aop_eqlT (by (first | (simp only [ASt.ev, tmPut, ↓reduceIte, Nat.reduceEqDiff, *]; rfl))) (by (first | (simp only [ASt.ev, tmPut, ↓reduceIte, Nat.reduceEqDiff, *]; done))) rfl) ?_
    repeat (first | (refine OpsL.nil ?_; (skip)))
    refine OpsR.one rfl rfl rfl (by kernel_rfl) ?_
    repeat (first | (refine OpsL.p (by subst_vars; decide) (by (first | (exact aop_assign (by (first | (simp only [ASt.ev, tmPut, ↓reduceIte, Nat.reduceEqDiff, *]; rfl)))))) ?_) | (refine OpsL.nil ?_; (skip)))
    refine OpsR.nil ?_
    (change Trip _ _ _ _ _)
    repeat (first | (refine Trip.ret ?_; (skip)))
    exact ⟨.inr rfl, _, res_tmp, by simp [tmPut]⟩
theorem core (W0 : World) (nx : Nat) (H : Heap) (a0 : Int) (w0 : (Lit.int .i64 a0).wf = true) (a1 : Int) (w1 : (Lit.int .i64 a1).wf = true) (x2 : List Int) (w2 : ∀ x ∈ x2, (Lit.int .i64 x).wf = true) (a3 : Int) (w3 : (Lit.int .i64 a3).wf = true) (a4 : Int) (w4 : (Lit.int .i64 a4).wf = true) (a5 : Int) (w5 : (Lit.int .i64 a5).wf = true) (us : List Value)
    (hat : All2 (Arg.at H) [.plain (.int .i64 a0), .plain (.int .i64 a1), .ints .i64 x2, .plain (.int .i64 a3), .plain (.int .i64 a4), .plain (.int .i64 a5)] us) (_ : ∀ id o, H id = some o → id < nx) : ACalls Tryz.prog W0 3 us nx H fun v _ _ => v = .bool true := by
  obtain ⟨u0, us, rfl, h0, hat⟩ := hat.cons
  obtain ⟨u1, us, rfl, h1, hat⟩ := hat.cons
  obtain ⟨u2, us, rfl, h2, hat⟩ := hat.cons
  obtain ⟨u3, us, rfl, h3, hat⟩ := hat.cons
  obtain ⟨u4, us, rfl, h4, hat⟩ := hat.cons
  obtain ⟨u5, us, rfl, h5, hat⟩ := hat.cons
  obtain rfl := hat.nil
  obtain rfl : u0 = _ := h0
  obtain rfl : u1 = _ := h1
  obtain rfl : u3 = _ := h3
  obtain rfl : u4 = _ := h4
  obtain rfl : u5 = _ := h5
  exact law W0 h2.1 (wf64 w1) (wf64 w4)
theorem own : ownKnob Tryz.prog.godebug = none := by kernel_rfl
theorem laidOut : laidOutB Tryz.prog = true := by kernel_rfl
theorem cells_ints : Tryz.prog.cellsOf 3 = 1 := by kernel_rfl
set_option maxRecDepth 100000 in
theorem lifted (os : Os) (started : os.Started) (H : Type) (enc : TypeId × Value → H) :
    ReturnsInHanded {} Tryz.checked os 3 .any (Rows.autoChecksSpec.pre6 enc Tryz.prog Tryz.f3 Rows.autoChecksRow.domain false) (Rows.autoChecksSpec.post enc Tryz.prog Tryz.f3 false true false false) := by
  refine returnsInHanded_of_change (C := Tryz.checked) own started (by kernel_rfl) Tryz.func3
    (ChangeSpec.witness6 (enc := enc) (C := Tryz.checked) false ⟨#[], #[.int .i64 0, .int .i64 0, .slice none 0 0, .int .i64 0, .int .i64 0, .int .i64 0], []⟩ 8 (by kernel_rfl) (by kernel_rfl) (by kernel_rfl) (by kernel_rfl)) ?_
  intro W base args ds gs before hval0 hW _ _
  have hval : ∀ (j : Nat) t v, Tryz.f3.params[j]? = some t → args[j]? = some v → Value.okWide Tryz.prog W .any base t v := hval0
  have hW' := hW
  obtain ⟨p, q, hA0, hV, rfl, _, _⟩ := hW
  have hA : DataW.TrodAll enc Tryz.prog W 0 (fun _ => true) true Tryz.f3.params.toList args.toList ds p := hA0
  rw [Tryz.params3] at hA hval
  obtain ⟨v0, vs0, d0, ds0, p0, q0, hargs, rfl, rfl, h0, r0⟩ := trodAll_cons hA
  obtain ⟨v1, vs1, d1, ds1, p1, q1, rfl, rfl, rfl, h1, r1⟩ := trodAll_cons r0
  obtain ⟨v2, vs2, d2, ds2, p2, q2, rfl, rfl, rfl, h2, r2⟩ := trodAll_cons r1
  obtain ⟨v3, vs3, d3, ds3, p3, q3, rfl, rfl, rfl, h3, r3⟩ := trodAll_cons r2
  obtain ⟨v4, vs4, d4, ds4, p4, q4, rfl, rfl, rfl, h4, r4⟩ := trodAll_cons r3
  obtain ⟨v5, vs5, d5, ds5, p5, q5, rfl, rfl, rfl, h5, r5⟩ := trodAll_cons r4
  obtain ⟨rfl, rfl, rfl⟩ := trodAll_nil r5
  obtain rfl : args = #[v0, v1, v2, v3, v4, v5] := by cases args; simp_all
  obtain ⟨rfl, rfl⟩ := trodVars_none hV
  obtain ⟨a0, rfl, rfl, rfl, w0⟩ := open_int Tryz.underlying3 (hval 0 3 v0 rfl rfl) h0
  obtain ⟨a1, rfl, rfl, rfl, w1⟩ := open_int Tryz.underlying3 (hval 1 3 v1 rfl rfl) h1
  obtain ⟨x2, c2, w2⟩ := came_ints Tryz.underlying22 Tryz.underlying3 cells_ints (hval 2 22 v2 rfl rfl) h2
  obtain ⟨a3, rfl, rfl, rfl, w3⟩ := open_int Tryz.underlying3 (hval 3 3 v3 rfl rfl) h3
  obtain ⟨a4, rfl, rfl, rfl, w4⟩ := open_int Tryz.underlying3 (hval 4 3 v4 rfl rfl) h4
  obtain ⟨a5, rfl, rfl, rfl, w5⟩ := open_int Tryz.underlying3 (hval 5 3 v5 rfl rfl) h5
  clear hA0 hval0
  refine (law_calls (ars := [.plain (.int .i64 a0), .plain (.int .i64 a1), .ints .i64 x2, .plain (.int .i64 a3), .plain (.int .i64 a4), .plain (.int .i64 a5)]) (vs := [_, _, _, _, _, _]) ⟨⟨rfl, rfl⟩, ⟨rfl, rfl⟩, c2, ⟨rfl, rfl⟩, ⟨rfl, rfl⟩, ⟨rfl, rfl⟩, trivial⟩ (fun nx H us hat hok => core W nx H a0 w0 a1 w1 x2 w2 a3 w3 a4 w4 a5 w5 us hat hok)).mono fun e W' ⟨he, hg⟩ => ?_
  subst he
  exact ⟨_, rfl, law_post laidOut (by kernel_rfl) rfl Tryz.underlying4 rfl hW' rfl hg⟩
theorem over : Rows.autoChecksRow.holds Tryz.pinned (OpenSpec.ofChange Rows.autoChecksSpec) :=
  OpenClaim.holds_of_wide 3 Tryz.f3 rfl rfl rfl rfl rfl rfl rfl ⟨rfl, rfl, rfl, rfl, rfl⟩ rfl rfl rfl rfl rfl (by kernel_rfl) Tryz.func3 (by kernel_rfl)
    (of_decide_eq_true (by kernel_rfl)) (by unfold Func.isWrapper; first | (rw [if_pos (by decide +kernel)]; kernel_rfl) | (rw [if_neg (by decide +kernel)]; exact ⟨rfl, rfl⟩))
    (fun os started H enc _ => lifted os started H enc)
theorem proved : Rows.AutoChecksSaid := over
end Go.Proofs.YtmhikbgegdphnaaGreat.autoChecks
