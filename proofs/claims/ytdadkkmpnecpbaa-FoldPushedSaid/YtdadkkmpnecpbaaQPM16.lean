import Derived.Test.YtdadkkmpnecpbaaQPM15
import Derived.Test.YtdadkkmpnecpbaaQPM12
import Derived.ProofKit
import Derived.OpenShut
import Derived.Carry
import Derived.Test.YtdadkkmpnecpbaaQPM13
namespace Go.Am
open Go.RowKit
section
variable {P : Program} {W0 : World} {ops : Array Oper} {dst : Option Tmp} {op : Op} {guard : Option (Nat × Bool)} {ev : Operand → Option Value} {type : TypeId} {pos : String} {after : Array Edge} {l : List Oper} {tm : Nat → Value} {n nx : Nat} {H : Heap} {v w : Value} {QQ : ASt → Prop} {d : Tmp} {t u s e : TypeId} {x y z : Operand} {k k' : IntKind} {a b : Int}
theorem OpsL.q (hop : aop P H nx (ASt.ev ⟨tm, n, H, nx⟩) ⟨some d, op, type, pos, after, none⟩ = some (v, .none)) (h : OpsL P W0 ops l ⟨tmPut tm (some d) v, n, H, nx⟩ QQ) (hd : d < n := by first | decide | (refine Nat.lt_of_lt_of_eq ?_ (Eq.symm ‹_›); decide)) : OpsL P W0 ops (⟨some d, op, type, pos, after, none⟩ :: l) ⟨tm, n, H, nx⟩ QQ := OpsL.p hd hop h
theorem omv (hx : ev x = some v := by simp only [ASt.ev, tmPut, ↓reduceIte, Nat.reduceEqDiff, plain1, *]; first | done | rfl) : aop P H nx ev ⟨dst, .move x, type, pos, after, guard⟩ = some (v, .none) := aop_move hx
theorem oasg (hx : ev x = some v := by simp only [ASt.ev, tmPut, ↓reduceIte, Nat.reduceEqDiff, plain1, *]; first | done | rfl) : aop P H nx ev ⟨dst, .assign x, type, pos, after, guard⟩ = some (v, .none) := aop_assign hx
theorem olss (hx : ev x = some (.int k a) := by simp only [ASt.ev, tmPut, ↓reduceIte, Nat.reduceEqDiff, plain1, *]; first | done | rfl) (hy : ev y = some (.int k b) := by simp only [ASt.ev, tmPut, ↓reduceIte, Nat.reduceEqDiff, plain1, *]; first | done | rfl) : aop P H nx ev ⟨dst, .binOp .lss t x y u, type, pos, after, guard⟩ = some ((.bool (decide (a < b))), .none) := aop_lss hx hy
theorem OpsL.lssT (h : OpsL P W0 ops l ⟨tmPut tm (some d) (.bool true), n, H, nx⟩ QQ) (hd : d < n := by first | decide | (refine Nat.lt_of_lt_of_eq ?_ (Eq.symm ‹_›); decide)) (hx : ASt.ev ⟨tm, n, H, nx⟩ x = some (.int k a) := by simp only [ASt.ev, tmPut, ↓reduceIte, Nat.reduceEqDiff, plain1, *]; first | done | rfl) (hy : ASt.ev ⟨tm, n, H, nx⟩ y = some (.int k b) := by simp only [ASt.ev, tmPut, ↓reduceIte, Nat.reduceEqDiff, plain1, *]; first | done | rfl) (c : a < b := by omega) : OpsL P W0 ops (⟨some d, .binOp .lss t x y u, type, pos, after, none⟩ :: l) ⟨tm, n, H, nx⟩ QQ := OpsL.p hd (aop_lssT hx hy c) h
theorem OpsL.lssF (h : OpsL P W0 ops l ⟨tmPut tm (some d) (.bool false), n, H, nx⟩ QQ) (hd : d < n := by first | decide | (refine Nat.lt_of_lt_of_eq ?_ (Eq.symm ‹_›); decide)) (hx : ASt.ev ⟨tm, n, H, nx⟩ x = some (.int k a) := by simp only [ASt.ev, tmPut, ↓reduceIte, Nat.reduceEqDiff, plain1, *]; first | done | rfl) (hy : ASt.ev ⟨tm, n, H, nx⟩ y = some (.int k b) := by simp only [ASt.ev, tmPut, ↓reduceIte, Nat.reduceEqDiff, plain1, *]; first | done | rfl) (c : ¬ (a < b) := by omega) : OpsL P W0 ops (⟨some d, .binOp .lss t x y u, type, pos, after, none⟩ :: l) ⟨tm, n, H, nx⟩ QQ := OpsL.p hd (aop_lssF hx hy c) h
theorem oleq (hx : ev x = some (.int k a) := by simp only [ASt.ev, tmPut, ↓reduceIte, Nat.reduceEqDiff, plain1, *]; first | done | rfl) (hy : ev y = some (.int k b) := by simp only [ASt.ev, tmPut, ↓reduceIte, Nat.reduceEqDiff, plain1, *]; first | done | rfl) : aop P H nx ev ⟨dst, .binOp .leq t x y u, type, pos, after, guard⟩ = some ((.bool (decide (a ≤ b))), .none) := aop_leq hx hy
theorem oeql (hx : ev x = some (.int k a) := by simp only [ASt.ev, tmPut, ↓reduceIte, Nat.reduceEqDiff, plain1, *]; first | done | rfl) (hy : ev y = some (.int k b) := by simp only [ASt.ev, tmPut, ↓reduceIte, Nat.reduceEqDiff, plain1, *]; first | done | rfl) : aop P H nx ev ⟨dst, .binOp .eql t x y u, type, pos, after, guard⟩ = some ((.bool (decide (a = b))), .none) := aop_eql hx hy
theorem OpsL.eqlT (h : OpsL P W0 ops l ⟨tmPut tm (some d) (.bool true), n, H, nx⟩ QQ) (hd : d < n := by first | decide | (refine Nat.lt_of_lt_of_eq ?_ (Eq.symm ‹_›); decide)) (hx : ASt.ev ⟨tm, n, H, nx⟩ x = some (.int k a) := by simp only [ASt.ev, tmPut, ↓reduceIte, Nat.reduceEqDiff, plain1, *]; first | done | rfl) (hy : ASt.ev ⟨tm, n, H, nx⟩ y = some (.int k b) := by simp only [ASt.ev, tmPut, ↓reduceIte, Nat.reduceEqDiff, plain1, *]; first | done | rfl) (c : a = b := by omega) : OpsL P W0 ops (⟨some d, .binOp .eql t x y u, type, pos, after, none⟩ :: l) ⟨tm, n, H, nx⟩ QQ := OpsL.p hd (aop_eqlT hx hy c) h
theorem OpsL.eqlF (h : OpsL P W0 ops l ⟨tmPut tm (some d) (.bool false), n, H, nx⟩ QQ) (hd : d < n := by first | decide | (refine Nat.lt_of_lt_of_eq ?_ (Eq.symm ‹_›); decide)) (hx : ASt.ev ⟨tm, n, H, nx⟩ x = some (.int k a) := by simp only [ASt.ev, tmPut, ↓reduceIte, Nat.reduceEqDiff, plain1, *]; first | done | rfl) (hy : ASt.ev ⟨tm, n, H, nx⟩ y = some (.int k b) := by simp only [ASt.ev, tmPut, ↓reduceIte, Nat.reduceEqDiff, plain1, *]; first | done | rfl) (c : ¬ (a = b) := by omega) : OpsL P W0 ops (⟨some d, .binOp .eql t x y u, type, pos, after, none⟩ :: l) ⟨tm, n, H, nx⟩ QQ := OpsL.p hd (aop_eqlF hx hy c) h
theorem OpsL.neqT (h : OpsL P W0 ops l ⟨tmPut tm (some d) (.bool true), n, H, nx⟩ QQ) (hd : d < n := by first | decide | (refine Nat.lt_of_lt_of_eq ?_ (Eq.symm ‹_›); decide)) (hx : ASt.ev ⟨tm, n, H, nx⟩ x = some (.int k a) := by simp only [ASt.ev, tmPut, ↓reduceIte, Nat.reduceEqDiff, plain1, *]; first | done | rfl) (hy : ASt.ev ⟨tm, n, H, nx⟩ y = some (.int k b) := by simp only [ASt.ev, tmPut, ↓reduceIte, Nat.reduceEqDiff, plain1, *]; first | done | rfl) (c : a ≠ b := by omega) : OpsL P W0 ops (⟨some d, .binOp .neq t x y u, type, pos, after, none⟩ :: l) ⟨tm, n, H, nx⟩ QQ := OpsL.p hd (aop_neqT hx hy c) h
theorem OpsL.neqF (h : OpsL P W0 ops l ⟨tmPut tm (some d) (.bool false), n, H, nx⟩ QQ) (hd : d < n := by first | decide | (refine Nat.lt_of_lt_of_eq ?_ (Eq.symm ‹_›); decide)) (hx : ASt.ev ⟨tm, n, H, nx⟩ x = some (.int k a) := by simp only [ASt.ev, tmPut, ↓reduceIte, Nat.reduceEqDiff, plain1, *]; first | done | rfl) (hy : ASt.ev ⟨tm, n, H, nx⟩ y = some (.int k b) := by simp only [ASt.ev, tmPut, ↓reduceIte, Nat.reduceEqDiff, plain1, *]; first | done | rfl) (c : a = b := by omega) : OpsL P W0 ops (⟨some d, .binOp .neq t x y u, type, pos, after, none⟩ :: l) ⟨tm, n, H, nx⟩ QQ := OpsL.p hd (aop_neqF hx hy c) h
theorem onot {q : Bool} (hx : ev x = some (.bool q) := by simp only [ASt.ev, tmPut, ↓reduceIte, Nat.reduceEqDiff, plain1, *]; first | done | rfl) : aop P H nx ev ⟨dst, .unOp .not t x, type, pos, after, guard⟩ = some ((.bool (!q)), .none) := aop_not hx
theorem oadd (hx : ev x = some (.int .i64 a) := by simp only [ASt.ev, tmPut, ↓reduceIte, Nat.reduceEqDiff, plain1, *]; first | done | rfl) (hy : ev y = some (.int .i64 b) := by simp only [ASt.ev, tmPut, ↓reduceIte, Nat.reduceEqDiff, plain1, *]; first | done | rfl) (c : -9223372036854775808 ≤ a + b ∧ a + b ≤ 9223372036854775807 := by omega) : aop P H nx ev ⟨dst, .binOp .add t x y u, type, pos, after, guard⟩ = some ((.int .i64 (a + b)), .none) := aop_add hx hy c
theorem osub (hx : ev x = some (.int .i64 a) := by simp only [ASt.ev, tmPut, ↓reduceIte, Nat.reduceEqDiff, plain1, *]; first | done | rfl) (hy : ev y = some (.int .i64 b) := by simp only [ASt.ev, tmPut, ↓reduceIte, Nat.reduceEqDiff, plain1, *]; first | done | rfl) (c : -9223372036854775808 ≤ a - b ∧ a - b ≤ 9223372036854775807 := by omega) : aop P H nx ev ⟨dst, .binOp .sub t x y u, type, pos, after, guard⟩ = some ((.int .i64 (a - b)), .none) := aop_sub hx hy c
theorem olen {m c : Nat} {p : Option Addr} (hx : ev x = some (.slice p m c) := by simp only [ASt.ev, tmPut, ↓reduceIte, Nat.reduceEqDiff, plain1, *]; first | done | rfl) (hu : P.underlying t = some (.slice e) := by exact rfl) : aop P H nx ev ⟨dst, .call ⟨.builtin .len, #[x], #[t]⟩, type, pos, after, guard⟩ = some ((.int .i64 (m : Int)), .none) := aop_len hx hu
theorem oixa {m c sz : Nat} {p : Addr} (hx : ev x = some (.slice (some p) m c) := by simp only [ASt.ev, tmPut, ↓reduceIte, Nat.reduceEqDiff, plain1, *]; first | done | rfl) (hy : ev y = some (.int k a) := by simp only [ASt.ev, tmPut, ↓reduceIte, Nat.reduceEqDiff, plain1, *]; first | done | rfl) (hu : P.underlying t = some (.slice e) := by exact rfl) (hs : szOf P e = some sz := by exact rfl) (h0 : 0 ≤ a := by omega) (h1 : a < m := by omega) : aop P H nx ev ⟨dst, .indexAddr t x y, type, pos, after, guard⟩ = some ((.pointer (some ⟨p.block, p.off + a.toNat * sz, p.spot⟩)), .none) := aop_indexAddr hx hy hu hs h0 h1
theorem ofa {f : Nat} {p : Addr} (hx : ev x = some (.pointer (some p)) := by simp only [ASt.ev, tmPut, ↓reduceIte, Nat.reduceEqDiff, plain1, *]; first | done | rfl) (hv : aFieldAddr P s (.pointer (some p)) f = some v := by exact rfl) : aop P H nx ev ⟨dst, .fieldAddr s x f, type, pos, after, guard⟩ = some (v, .none) := aop_fieldAddr hx hv
theorem old {p : Addr} {dd : TypeDesc} (hx : ev x = some (.pointer (some p)) := by simp only [ASt.ev, tmPut, ↓reduceIte, Nat.reduceEqDiff, plain1, *]; first | done | rfl) (hu : P.underlying t = some dd := by exact rfl) (hg : isAggD dd = false := by rfl) (hc : cellAt H p v := by assumption) : aop P H nx ev ⟨dst, .load t x, type, pos, after, guard⟩ = some (v, .none) := aop_load hx hu hg hc
theorem opkT (hx : ev x = some (.bool true) := by simp only [ASt.ev, tmPut, ↓reduceIte, reduceIte, Nat.reduceEqDiff, decide_true, decide_false, not_true_eq_false, not_false_eq_true, Bool.not_true, Bool.not_false, *]; first | done | rfl) (hy : ev y = some v := by simp only [ASt.ev, tmPut, ↓reduceIte, Nat.reduceEqDiff, plain1, *]; first | done | rfl) : aop P H nx ev ⟨dst, .pick x y z, type, pos, after, guard⟩ = some (v, .none) := aop_pickT hx hy
theorem opkF (hx : ev x = some (.bool false) := by simp only [ASt.ev, tmPut, ↓reduceIte, reduceIte, Nat.reduceEqDiff, decide_true, decide_false, not_true_eq_false, not_false_eq_true, Bool.not_true, Bool.not_false, *]; first | done | rfl) (hy : ev z = some v := by simp only [ASt.ev, tmPut, ↓reduceIte, Nat.reduceEqDiff, plain1, *]; first | done | rfl) : aop P H nx ev ⟨dst, .pick x y z, type, pos, after, guard⟩ = some (v, .none) := aop_pickF hx hy
theorem OpsL.ung {j : Nat} {want : Bool} {d' : Tmp} (h : OpsL P W0 ops (⟨dst, op, type, pos, after, none⟩ :: l) ⟨tm, n, H, nx⟩ QQ) (hj : (ops[j]?).bind (·.dst) = some d' := by exact rfl) (hb : tm d' = .bool want := by simp only [ASt.ev, tmPut, ↓reduceIte, reduceIte, Nat.reduceEqDiff, decide_true, decide_false, not_true_eq_false, not_false_eq_true, Bool.not_true, Bool.not_false, *]; first | done | rfl) : OpsL P W0 ops (⟨dst, op, type, pos, after, some (j, want)⟩ :: l) ⟨tm, n, H, nx⟩ QQ := OpsL.unguard hj hb h
theorem OpsL.skp {j : Nat} {want : Bool} {d' : Tmp} (h : OpsL P W0 ops l ⟨tmPut tm (some d) undef, n, H, nx⟩ QQ) (hj : (ops[j]?).bind (·.dst) = some d' := by exact rfl) (hb : tm d' = .bool (!want) := by simp only [ASt.ev, tmPut, ↓reduceIte, reduceIte, Nat.reduceEqDiff, decide_true, decide_false, not_true_eq_false, not_false_eq_true, Bool.not_true, Bool.not_false, *]; first | done | rfl) (hd : d < n := by first | decide | (refine Nat.lt_of_lt_of_eq ?_ (Eq.symm ‹_›); decide)) : OpsL P W0 ops (⟨some d, op, type, pos, after, some (j, want)⟩ :: l) ⟨tm, n, H, nx⟩ QQ := OpsL.skipped hj hb hd h
theorem OpsL.gT {j : Nat} {d' : Tmp} {p : Prop} [Decidable p] (h1 : p → OpsL P W0 ops (⟨some d, op, type, pos, after, none⟩ :: l) ⟨tm, n, H, nx⟩ QQ) (h2 : ¬p → OpsL P W0 ops l ⟨tmPut tm (some d) undef, n, H, nx⟩ QQ) (hj : (ops[j]?).bind (·.dst) = some d' := by exact rfl) (hb : tm d' = .bool (decide p) := by simp only [ASt.ev, tmPut, ↓reduceIte, Nat.reduceEqDiff, plain1, *]; first | done | rfl) (hd : d < n := by first | decide | (refine Nat.lt_of_lt_of_eq ?_ (Eq.symm ‹_›); decide)) : OpsL P W0 ops (⟨some d, op, type, pos, after, some (j, true)⟩ :: l) ⟨tm, n, H, nx⟩ QQ := OpsL.guardT hj hb hd h1 h2
variable {f : FuncId} {R : Value → Nat → Heap → Prop} {ts : Array TypeId} {va vb vc ve : Value}
theorem OpsL.c0 (hd : d < n := by first | decide | (refine Nat.lt_of_lt_of_eq ?_ (Eq.symm ‹_›); decide))  (hf : Enters P f) (hc : ACalls P W0 f [] nx H R) (h : ∀ v nx' H', R v nx' H' → OpsL P W0 ops l ⟨tmPut tm (some d) v, n, H', nx'⟩ QQ) : OpsL P W0 ops (⟨some d, .call ⟨.value (.func f), #[], ts⟩, type, pos, after, none⟩ :: l) ⟨tm, n, H, nx⟩ QQ := OpsL.call0 hd  hf hc h
theorem OpsL.c1 (hd : d < n := by first | decide | (refine Nat.lt_of_lt_of_eq ?_ (Eq.symm ‹_›); decide)) (hx : ASt.ev ⟨tm, n, H, nx⟩ x = some va := by simp only [ASt.ev, tmPut, ↓reduceIte, Nat.reduceEqDiff, plain1, *]; first | done | rfl) (hf : Enters P f) (hc : ACalls P W0 f [va] nx H R) (h : ∀ v nx' H', R v nx' H' → OpsL P W0 ops l ⟨tmPut tm (some d) v, n, H', nx'⟩ QQ) : OpsL P W0 ops (⟨some d, .call ⟨.value (.func f), #[x], ts⟩, type, pos, after, none⟩ :: l) ⟨tm, n, H, nx⟩ QQ := OpsL.call1 hd hx hf hc h
theorem OpsL.c2 (hd : d < n := by first | decide | (refine Nat.lt_of_lt_of_eq ?_ (Eq.symm ‹_›); decide)) (hx : ASt.ev ⟨tm, n, H, nx⟩ x = some va := by simp only [ASt.ev, tmPut, ↓reduceIte, Nat.reduceEqDiff, plain1, *]; first | done | rfl) (hy : ASt.ev ⟨tm, n, H, nx⟩ y = some vb := by simp only [ASt.ev, tmPut, ↓reduceIte, Nat.reduceEqDiff, plain1, *]; first | done | rfl) (hf : Enters P f) (hc : ACalls P W0 f [va, vb] nx H R) (h : ∀ v nx' H', R v nx' H' → OpsL P W0 ops l ⟨tmPut tm (some d) v, n, H', nx'⟩ QQ) : OpsL P W0 ops (⟨some d, .call ⟨.value (.func f), #[x, y], ts⟩, type, pos, after, none⟩ :: l) ⟨tm, n, H, nx⟩ QQ := OpsL.call2 hd hx hy hf hc h
theorem OpsL.c3 (hd : d < n := by first | decide | (refine Nat.lt_of_lt_of_eq ?_ (Eq.symm ‹_›); decide)) (hx : ASt.ev ⟨tm, n, H, nx⟩ x = some va := by simp only [ASt.ev, tmPut, ↓reduceIte, Nat.reduceEqDiff, plain1, *]; first | done | rfl) (hy : ASt.ev ⟨tm, n, H, nx⟩ y = some vb := by simp only [ASt.ev, tmPut, ↓reduceIte, Nat.reduceEqDiff, plain1, *]; first | done | rfl) (hz : ASt.ev ⟨tm, n, H, nx⟩ z = some vc := by simp only [ASt.ev, tmPut, ↓reduceIte, Nat.reduceEqDiff, plain1, *]; first | done | rfl) (hf : Enters P f) (hc : ACalls P W0 f [va, vb, vc] nx H R) (h : ∀ v nx' H', R v nx' H' → OpsL P W0 ops l ⟨tmPut tm (some d) v, n, H', nx'⟩ QQ) : OpsL P W0 ops (⟨some d, .call ⟨.value (.func f), #[x, y, z], ts⟩, type, pos, after, none⟩ :: l) ⟨tm, n, H, nx⟩ QQ := OpsL.call3 hd hx hy hz hf hc h
end
section
variable {P : Program} {W0 : World} {st : ASt} {Q : AExit → ASt → Prop} {c : Operand} {x y : Code}
theorem Trip.itA {p : Prop} [Decidable p] (h1 : p → Trip P W0 x st Q) (h2 : ¬p → Trip P W0 y st Q) (hc : st.ev c = some (.bool (decide p)) := by simp only [ASt.ev, tmPut, ↓reduceIte, Nat.reduceEqDiff, plain1, *]; first | done | rfl) : Trip P W0 (.cond c x y) st Q := Trip.ite hc h1 h2
theorem Trip.ifT (h : Trip P W0 x st Q) (hc : st.ev c = some (.bool true) := by simp only [ASt.ev, tmPut, ↓reduceIte, reduceIte, Nat.reduceEqDiff, decide_true, decide_false, not_true_eq_false, not_false_eq_true, Bool.not_true, Bool.not_false, *]; first | done | rfl) : Trip P W0 (.cond c x y) st Q := Trip.iteB hc (fun _ => h) (fun h => absurd h (by decide))
theorem Trip.ifF (h : Trip P W0 y st Q) (hc : st.ev c = some (.bool false) := by simp only [ASt.ev, tmPut, ↓reduceIte, reduceIte, Nat.reduceEqDiff, decide_true, decide_false, not_true_eq_false, not_false_eq_true, Bool.not_true, Bool.not_false, *]; first | done | rfl) : Trip P W0 (.cond c x y) st Q := Trip.iteB hc (fun h => absurd h (by decide)) (fun _ => h)
end
end Go.Am
namespace Go.Am
set_option linter.unusedSimpArgs false
set_option linter.unusedVariables false
set_option linter.unnecessarySimpa false
open Go.RowKit Go.ChangeShapes Go.WideShapes Go.ChangeAt
section
variable {H : Type} {enc : TypeId × Value → H} {P : Program} {W W' : World}
theorem trodAll_stays (hl : laidOutB P = true) (hb : BelD W.heap.size W W') : ∀ (ts : List TypeId) (vs : List Value) (ds : List (DataW H)) (ps : List MemPlace), (ts.all fun t => P.readableRec t && decide (t < P.types.size)) = true →
    DataW.TrodAll enc P W 0 (fun _ => true) true ts vs ds ps → (∀ x ∈ ps, x.block < W.heap.size) → DataW.TrodAll enc P W' 0 (fun b => decide (b < W.heap.size)) true ts vs ds ps := by
  intro ts
  induction ts with
  | nil =>
    intro vs ds ps _ h _
    cases vs <;> cases ds <;> first | exact h | exact h.elim
  | cons t ts ih =>
    intro vs ds ps hr h hlt
    simp only [List.all_cons, Bool.and_eq_true, decide_eq_true_eq] at hr
    obtain ⟨v, vs', d, ds', p, q, rfl, rfl, rfl, h0, h1⟩ := trodAll_cons h
    exact trodAll_cons_mk (Below.trod hl hr.1.1 hr.1.2 h0 hb.toB (fun x hx => hlt x (List.mem_append.2 (.inl hx)))) (ih vs' ds' q hr.2 h1 (fun x hx => hlt x (List.mem_append.2 (.inr hx))))
theorem law_post {f : Func} {s : ChangeSpec} {t : TypeId} {args : Array Value} {ds gs : List (DataW H)} {before : List MemPlace} (hl : laidOutB P = true) (hr : (f.params.toList.all fun t => P.readableRec t && decide (t < P.types.size)) = true)
    (hrt : f.resultTypes = #[t]) (ht : P.underlying t = some .bool) (hvars : s.vars = []) (hW : DataW.Whole enc P f.params.toList s.vars false W args.toList ds gs before)
    (hspec : s.fn H (ds ++ gs) = { results := [.lit (.bool true)], args := ds }) (hb : BelD W.heap.size W W') : s.post enc P f false true false false W args (.bool true) W' := by
  have hW' := hW
  obtain ⟨p, q, hA, hV, rfl, _, _⟩ := hW
  have hlt : ∀ x ∈ p, x.block < W.heap.size := fun x hx => hW'.lt x (List.mem_append.2 (.inl hx))
  rw [hvars] at hV
  obtain ⟨rfl, rfl⟩ := trodVars_none hV
  refine ⟨ds, [], _, [], p, [], hW', ?_, ?_, ?_, hb.toB.frame _, fun h => by cases h⟩
  · rw [hspec, hrt]
    exact trodAll_mk1 (shut_bool ht _)
  · rw [hspec]
    exact trodAll_stays hl hb _ _ _ _ hr hA hlt
  · rw [hspec, hvars]; rfl
end
end Go.Am
namespace Go.Am
set_option linter.unusedSimpArgs false
set_option linter.unusedVariables false
set_option linter.unnecessarySimpa false
open Go.RowKit Go.ChangeShapes Go.WideShapes Go.ChangeAt
inductive Arg where
  | plain (v : Value)
  | ints (k : IntKind) (xs : List Int)
def NumsAt (H : Heap) (k : IntKind) (v : Value) (xs : List Int) : Prop :=
  (∃ c, v = .slice none 0 c ∧ xs = []) ∨ ∃ a c, v = .slice (some a) xs.length c ∧ ∀ (i : Nat) (h : i < xs.length), cellAt H ⟨a.block, a.off + i, a.spot⟩ (.int k xs[i])
def RowIn (H : Heap) (v : Value) : Prop := v = .slice none 0 0 ∨ ∃ k n c cs, v = .slice (some ⟨k, 0, none⟩) n c ∧ H k = some (.cells cs 1 none true none) ∧ cs.length = c ∧ n ≤ c
def Arg.came (W : World) : Arg → Value → Prop
  | .plain u, v => v = u ∧ plain1 u = true
  | .ints k xs, v => (v = .slice none 0 0 ∧ xs = []) ∨ ∃ (b off len cap : Nat) (zs : List Int) (Cc : Array Value) (el : TypeId) (fr : Nat × Nat), v = .slice (some ⟨b, off, none⟩) len cap ∧ len ≤ cap ∧ zs.length = cap ∧ xs = zs.take len ∧
      W.heap[b]? = some (.cells Cc el fr) ∧ off + cap ≤ Cc.size ∧ ∀ i, i < cap → Cc[off + i]? = some (.int k (zs.getD i 0))
def Arg.at (H : Heap) : Arg → Value → Prop
  | .plain u, v => v = u
  | .ints k xs, v => NumsAt H k v xs ∧ RowIn H v
def All2 {α β : Type} (R : α → β → Prop) : List α → List β → Prop
  | [], [] => True
  | a :: l, b :: l' => R a b ∧ All2 R l l'
  | _, _ => False
theorem All2.cons {α β : Type} {R : α → β → Prop} {a : α} {l : List α} {us : List β} (h : All2 R (a :: l) us) : ∃ b us', us = b :: us' ∧ R a b ∧ All2 R l us' := by
  cases us with
  | nil => exact h.elim
  | cons b us => exact ⟨b, us, rfl, h.1, h.2⟩
theorem All2.nil {α β : Type} {R : α → β → Prop} {us : List β} (h : All2 R [] us) : us = [] := by
  cases us with
  | nil => rfl
  | cons b us => exact h.elim
section
variable {P : Program} {W0 : World} {C : Corr} {nx : Nat} {H : Heap} {w : World}
theorem Rel.read (h : Rel W0 C nx H w) (hpn : ∀ k, C.pin k = none) (hro : ∀ id o, H id = some o → o.ro = true) {c : List Value} {b off : Nat} {Cc : Array Value} {el : TypeId} {fr : Nat × Nat} (hw : w.heap[b]? = some (.cells Cc el fr)) (hle : off + c.length ≤ Cc.size)
    (hp : c.all plain1 = true) (hc : ∀ i, i < c.length → Cc[off + i]? = c[i]?) :
    Rel W0 (C.put nx (b, off) Cc.size) (nx + 1) (H.put nx (.cells c 1 none true none)) w ∧ Stp nx H C (nx + 1) (H.put nx (.cells c 1 none true none)) (C.put nx (b, off) Cc.size) := by
  have hst : Stp nx H C (nx + 1) (H.put nx (.cells c 1 none true none)) (C.put nx (b, off) Cc.size) := ⟨⟨by omega, fun id o' hid ho' ht => by
    have : id ≠ nx := by omega
    simp only [Heap.put, this, if_false] at ho'
    exact ⟨o', ho', rfl, rfl, by simp [Corr.put, this], by simp [Corr.put, this]⟩⟩, fun _ _ x => x, fun id hid hl => by
    have : id ≠ nx := by omega
    simp only [Heap.put, this, if_false]
    exact ⟨hl, by simp [Corr.put, this]⟩⟩
  have hro' : ∀ id o, (H.put nx (.cells c 1 none true none)) id = some o → o.ro = true := by
    intro id o ho
    by_cases e : id = nx
    · simp only [Heap.put, e, if_true, Option.some.injEq] at ho; subst ho; rfl
    · simp only [Heap.put, e, if_false] at ho; exact hro id o ho
  refine ⟨⟨h.below, ?_, ?_, ?_, ?_, h.pin, Nat.le_succ_of_le h.base, fun g og hg hog => ?_, fun _ _ _ => hpn _⟩, hst⟩
  · intro id o' ho'
    by_cases e : id = nx
    · subst e
      simp only [Heap.put, if_true, Option.some.injEq] at ho'
      subst ho'
      exact ⟨by omega, fun t ht => by cases ht⟩
    · simp only [Heap.put, e, if_false] at ho'
      obtain ⟨a, b⟩ := h.lt id o' ho'
      exact ⟨by omega, fun t ht => by have := b t ht; omega⟩
  · intro id o' ho'
    by_cases e : id = nx
    · subst e
      simp only [Heap.put, if_true, Option.some.injEq] at ho'
      subst ho'
      refine ⟨Cc, el, fr, by simpa [Corr.put] using hw, by simp [Corr.put], by simpa [Corr.put] using hle, ?_, ⟨fun hh => (by cases hh), fun t ht => (by cases ht), fun hh => (by cases hh), fun hh => (by cases hh)⟩⟩
      intro i hi hi'
      simp only [Corr.put, if_true] at hi' ⊢
      have := hc i hi
      rw [Array.getElem?_eq_getElem hi', List.getElem?_eq_getElem hi, Option.some.injEq] at this
      rw [this]
      exact plain1_VR (List.all_eq_true.1 hp _ (List.getElem_mem hi))
    · simp only [Heap.put, e, if_false] at ho'
      exact (h.obj id o' ho').mono hst (by simp [Corr.put, e]) (by simp [Corr.put, e]) rfl
  · intro id o' ho' hh
    rw [hro' id o' ho'] at hh; cases hh
  · intro i j oi oj hi _ _ hh
    rw [hro' i oi hi] at hh; cases hh
  · have e : g ≠ nx := by have := h.base; omega
    simp only [Heap.put, e, if_false] at hog
    simpa [Corr.put, e] using h.glob g og hg hog
theorem NumsAt.mono {H' : Heap} {k : IntKind} {v : Value} {xs : List Int} (hh : ∀ id o, H id = some o → H' id = some o) (h : NumsAt H k v xs) : NumsAt H' k v xs := by
  rcases h with h | ⟨a, c, rfl, h⟩
  · exact .inl h
  · refine .inr ⟨a, c, rfl, fun i hi => ?_⟩
    have h1 := h i hi
    obtain ⟨o, ho⟩ := getc_some h1
    unfold cellAt getc at *
    rw [hh _ _ ho]
    rw [ho] at h1
    exact h1
theorem Arg.at_mono {H' : Heap} (hh : ∀ id o, H id = some o → H' id = some o) : ∀ {a : Arg} {v : Value}, a.at H v → a.at H' v := by
  intro a v h
  cases a with
  | plain u => exact h
  | ints k xs =>
    refine ⟨h.1.mono hh, ?_⟩
    rcases h.2 with h | ⟨k, n, c, cs, h1, h2, h3⟩
    · exact .inl h
    · exact .inr ⟨k, n, c, cs, h1, hh _ _ h2, h3⟩
theorem All2.at_mono {H' : Heap} (hh : ∀ id o, H id = some o → H' id = some o) : ∀ {aas : List Arg} {vs : List Value}, All2 (Arg.at H) aas vs → All2 (Arg.at H') aas vs := by
  intro aas
  induction aas with
  | nil => intro vs h; cases vs <;> first | trivial | exact h.elim
  | cons a aas ih =>
    intro vs h
    cases vs with
    | nil => exact h.elim
    | cons v vs => exact ⟨Arg.at_mono hh h.1, ih h.2⟩
theorem start {T : Tables} (W : World) (hT : Tabs T W) : ∀ (aas : List Arg) (vs : List Value), All2 (Arg.came W) aas vs → ∃ nx H C us, Rel W C nx H W ∧ VRs nx H C us vs ∧ All2 (Arg.at H) aas us ∧ (∀ id o, H id = some o → o.ro = true) ∧ (∀ k, C.pin k = none) ∧ ∀ g o, (tabTree T).get g = some o → H g = some o := by
  intro aas
  induction aas with
  | nil =>
    intro vs h
    cases vs with
    | nil => exact ⟨NG, (tabTree T).get, Corr.tab W, [], Rel.tabs hT (BelD.refl _ _), VRs.nil, trivial, fun _ _ h => (by obtain ⟨c, _, rfl⟩ := tabTree_get h; rfl), fun _ => rfl, fun _ _ h => h⟩
    | cons => exact h.elim
  | cons a aas ih =>
    intro vs h
    cases vs with
    | nil => exact h.elim
    | cons v vs =>
      obtain ⟨nx, H, C, us, hR, hV, hA, hro, hpn, htb⟩ := ih vs h.2
      have hlt := fun id o (ho : H id = some o) => (hR.lt id o ho).1
      have h1 := h.1
      cases a with
      | plain u =>
        obtain ⟨rfl, hp⟩ := h1
        exact ⟨nx, H, C, v :: us, hR, VRs.cons (plain1_VR hp) hV, ⟨rfl, hA⟩, hro, hpn, htb⟩
      | ints k xs =>
        rcases h1 with ⟨rfl, rfl⟩ | ⟨b, off, len, cap, zs, Cc, el, fr, rfl, hlc, hz, rfl, hw, hle, hc⟩
        · exact ⟨nx, H, C, .slice none 0 0 :: us, hR, VRs.cons (.nils _ _) hV, ⟨⟨.inl ⟨0, rfl, rfl⟩, .inl rfl⟩, hA⟩, hro, hpn, htb⟩
        · obtain ⟨hR', hS⟩ := hR.read hpn hro (c := zs.map (.int k ·)) hw (by simpa [hz] using hle) (by simp [plain1]) (fun i hi => by
            simp only [List.length_map, hz] at hi
            rw [hc i hi, List.getElem?_map, List.getElem?_eq_getElem (by omega)]
            simp [List.getD_eq_getElem?_getD, List.getElem?_eq_getElem (show i < zs.length by omega)])
          have hext : ∀ id o, H id = some o → (H.put nx (.cells (zs.map (.int k ·)) 1 none true none)) id = some o := fun id o ho => by
            have : id ≠ nx := by have := hlt id o ho; omega
            simp only [Heap.put, this, if_false]; exact ho
          refine ⟨nx + 1, _, _, .slice (some ⟨nx, 0, none⟩) len cap :: us, hR', VRs.cons ?_ (hV.mono hS), ⟨⟨.inr ⟨⟨nx, 0, none⟩, cap, by simp [hz]; omega, ?_⟩, .inr ⟨nx, len, cap, zs.map (.int k ·), rfl, by simp [Heap.put], by simpa using hz, hlc⟩⟩, hA.at_mono hext⟩, ?_, hpn, fun g o hg => hext g o (htb g o hg)⟩
          · exact .slc _ _ _ _ _ ⟨by simp, by simp⟩ (fun o ho _ => ⟨by simp [Corr.at, Corr.put], by simp [capOk]⟩)
          · intro i hi
            simp only [List.length_take, hz] at hi
            have hi' : i < zs.length := by omega
            simp [cellAt, getc, Heap.put, hi', List.getElem_take]
            refine ⟨by omega, ?_⟩
            rw [← List.map_drop, ← List.map_take, List.take_one, List.head?_drop, List.getElem?_eq_getElem hi']
            rfl
          · intro id o ho
            by_cases e : id = nx
            · simp only [Heap.put, e, if_true, Option.some.injEq] at ho; subst ho; rfl
            · simp only [Heap.put, e, if_false] at ho; exact hro id o ho
theorem law_callsT {T : Tables} {f : FuncId} {ars : List Arg} {vs : List Value} {W : World} (hT : Tabs T W) (hc : All2 (Arg.came W) ars vs)
    (h : ∀ nx H us, All2 (Arg.at H) ars us → (∀ id o, H id = some o → id < nx) → (∀ g o, (tabTree T).get g = some o → H g = some o) → ACalls P W f us nx H fun v _ _ => v = .bool true) :
    Calls P f vs.toArray W fun e w' => e = .returned (.bool true) ∧ BelD W.heap.size W w' := by
  obtain ⟨nx, H, C, us, hR, hV, hA, _, _, htb⟩ := start W hT ars vs hc
  refine (h nx H us hA (fun id o ho => (hR.lt id o ho).1) htb C W vs hR hV).mono ?_
  rintro e w' ⟨v, v', C', nx', H', rfl, rfl, hR', hv, _⟩
  cases hv
  exact ⟨rfl, hR'.below⟩
theorem law_calls {f : FuncId} {ars : List Arg} {vs : List Value} {W : World} (hc : All2 (Arg.came W) ars vs) (h : ∀ nx H us, All2 (Arg.at H) ars us → (∀ id o, H id = some o → id < nx) → ACalls P W f us nx H fun v _ _ => v = .bool true) :
    Calls P f vs.toArray W fun e w' => e = .returned (.bool true) ∧ BelD W.heap.size W w' :=
  law_callsT Tabs.nil hc fun nx H us h1 h2 _ => h nx H us h1 h2
variable {E : Type} {enc : TypeId × Value → E} {W : World}
end
end Go.Am
