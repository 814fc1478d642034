import Derived.ProofKit
import Derived.OpenShut
import Derived.Carry
import Derived.Test.YtooakbmehcchnaaQFM9
set_option linter.unusedSimpArgs false
set_option linter.unusedVariables false
set_option maxRecDepth 100000
set_option maxHeartbeats 16000000
namespace Go.Am
open Go.RowKit
section
variable {P : Program} {W0 : World} {ops : Array Oper} {dst : Option Tmp} {op : Op} {guard : Option (Nat × Bool)} {ev : Operand → Option Value} {type : TypeId} {pos : String} {after : Array Edge} {l : List Oper} {tm : Nat → Value} {n nx : Nat} {H : Heap} {v w : Value} {QQ : ASt → Prop} {d : Tmp} {t u s e : TypeId} {x y z : Operand} {k k' : IntKind} {a b : Int}
theorem OpsL.q (hop : aop P H nx (ASt.ev ⟨tm, n, H, nx⟩) ⟨some d, op, type, pos, after, none⟩ = some (v, .none)) (h : OpsL P W0 ops l ⟨tmPut tm (some d) v, n, H, nx⟩ QQ) (hd : d < n := by first | decide | (refine Nat.lt_of_lt_of_eq ?_ (Eq.symm ‹_›); decide)) : OpsL P W0 ops (⟨some d, op, type, pos, after, none⟩ :: l) ⟨tm, n, H, nx⟩ QQ := OpsL.p hd hop h
theorem omv (hx : ev x = some v := by simp only [ASt.ev, tmPut, ↓reduceIte, Nat.reduceEqDiff, plain1, *]; first | done | rfl) : aop P H nx ev ⟨dst, .move x, type, pos, after, guard⟩ = some (v, .none) := aop_move hx
theorem oasg (hx : ev x = some v := by simp only [ASt.ev, tmPut, ↓reduceIte, Nat.reduceEqDiff, plain1, *]; first | done | rfl) : aop P H nx ev ⟨dst, .assign x, type, pos, after, guard⟩ = some (v, .none) := aop_assign hx
theorem olss (hx : ev x = some (.int k a) := by simp only [ASt.ev, tmPut, ↓reduceIte, Nat.reduceEqDiff, plain1, *]; first | done | rfl) (hy : ev y = some (.int k b) := by simp only [ASt.ev, tmPut, ↓reduceIte, Nat.reduceEqDiff, plain1, *]; first | done | rfl) : aop P H nx ev ⟨dst, .binOp .lss t x y u, type, pos, after, guard⟩ = some ((.bool (decide (a < b))), .none) := aop_lss hx hy
theorem OpsL.lssT (h : OpsL P W0 ops l ⟨tmPut tm (some d) (.bool true), n, H, nx⟩ QQ) (hd : d < n := by first | decide | (refine Nat.lt_of_lt_of_eq ?_ (Eq.symm ‹_›); decide)) (hx : ASt.ev ⟨tm, n, H, nx⟩ x = some (.int k a) := by simp only [ASt.ev, tmPut, ↓reduceIte, Nat.reduceEqDiff, plain1, *]; first | done | rfl) (hy : ASt.ev ⟨tm, n, H, nx⟩ y = some (.int k b) := by simp only [ASt.ev, tmPut, ↓reduceIte, Nat.reduceEqDiff, plain1, *]; first | done | rfl) (c : a < b := by omega) : OpsL P W0 ops (⟨some d, .binOp .lss t x y u, type, pos, after, none⟩ :: l) ⟨tm, n, H, nx⟩ QQ := OpsL.p hd (aop_lssT hx hy c) h
theorem OpsL.lssF (h : OpsL P W0 ops l ⟨tmPut tm (some d) (.bool false), n, H, nx⟩ QQ) (hd : d < n := by first | decide | (refine Nat.lt_of_lt_of_eq ?_ (Eq.symm ‹_›); decide)) (hx : ASt.ev ⟨tm, n, H, nx⟩ x = some (.int k a) := by simp only [ASt.ev, tmPut, ↓reduceIte, Nat.reduceEqDiff, plain1, *]; first | done | rfl) (hy : ASt.ev ⟨tm, n, H, nx⟩ y = some (.int k b) := by simp only [ASt.ev, tmPut, ↓reduceIte, Nat.reduceEqDiff, plain1, *]; first | done | rfl) (c : ¬ (a < b) := by omega) : OpsL P W0 ops (⟨some d, .binOp .lss t x y u, type, pos, after, none⟩ :: l) ⟨tm, n, H, nx⟩ QQ := OpsL.p hd (aop_lssF hx hy c) h
theorem oleq (hx : ev x = some (.int k a) := by simp only [ASt.ev, tmPut, ↓reduceIte, Nat.reduceEqDiff, plain1, *]; first | done | rfl) (hy : ev y = some (.int k b) := by simp only [ASt.ev, tmPut, ↓reduceIte, Nat.reduceEqDiff, plain1, *]; first | done | rfl) : aop P H nx ev ⟨dst, .binOp .leq t x y u, type, pos, after, guard⟩ = some ((.bool (decide (a ≤ b))), .none) := aop_leq hx hy
theorem ogtr (hx : ev x = some (.int k a) := by simp only [ASt.ev, tmPut, ↓reduceIte, Nat.reduceEqDiff, plain1, *]; first | done | rfl) (hy : ev y = some (.int k b) := by simp only [ASt.ev, tmPut, ↓reduceIte, Nat.reduceEqDiff, plain1, *]; first | done | rfl) : aop P H nx ev ⟨dst, .binOp .gtr t x y u, type, pos, after, guard⟩ = some ((.bool (decide (b < a))), .none) := aop_gtr hx hy
theorem OpsL.gtrT (h : OpsL P W0 ops l ⟨tmPut tm (some d) (.bool true), n, H, nx⟩ QQ) (hd : d < n := by first | decide | (refine Nat.lt_of_lt_of_eq ?_ (Eq.symm ‹_›); decide)) (hx : ASt.ev ⟨tm, n, H, nx⟩ x = some (.int k a) := by simp only [ASt.ev, tmPut, ↓reduceIte, Nat.reduceEqDiff, plain1, *]; first | done | rfl) (hy : ASt.ev ⟨tm, n, H, nx⟩ y = some (.int k b) := by simp only [ASt.ev, tmPut, ↓reduceIte, Nat.reduceEqDiff, plain1, *]; first | done | rfl) (c : b < a := by omega) : OpsL P W0 ops (⟨some d, .binOp .gtr t x y u, type, pos, after, none⟩ :: l) ⟨tm, n, H, nx⟩ QQ := OpsL.p hd (aop_gtrT hx hy c) h
theorem OpsL.gtrF (h : OpsL P W0 ops l ⟨tmPut tm (some d) (.bool false), n, H, nx⟩ QQ) (hd : d < n := by first | decide | (refine Nat.lt_of_lt_of_eq ?_ (Eq.symm ‹_›); decide)) (hx : ASt.ev ⟨tm, n, H, nx⟩ x = some (.int k a) := by simp only [ASt.ev, tmPut, ↓reduceIte, Nat.reduceEqDiff, plain1, *]; first | done | rfl) (hy : ASt.ev ⟨tm, n, H, nx⟩ y = some (.int k b) := by simp only [ASt.ev, tmPut, ↓reduceIte, Nat.reduceEqDiff, plain1, *]; first | done | rfl) (c : ¬ (b < a) := by omega) : OpsL P W0 ops (⟨some d, .binOp .gtr t x y u, type, pos, after, none⟩ :: l) ⟨tm, n, H, nx⟩ QQ := OpsL.p hd (aop_gtrF hx hy c) h
theorem ogeq (hx : ev x = some (.int k a) := by simp only [ASt.ev, tmPut, ↓reduceIte, Nat.reduceEqDiff, plain1, *]; first | done | rfl) (hy : ev y = some (.int k b) := by simp only [ASt.ev, tmPut, ↓reduceIte, Nat.reduceEqDiff, plain1, *]; first | done | rfl) : aop P H nx ev ⟨dst, .binOp .geq t x y u, type, pos, after, guard⟩ = some ((.bool (decide (b ≤ a))), .none) := aop_geq hx hy
theorem OpsL.geqT (h : OpsL P W0 ops l ⟨tmPut tm (some d) (.bool true), n, H, nx⟩ QQ) (hd : d < n := by first | decide | (refine Nat.lt_of_lt_of_eq ?_ (Eq.symm ‹_›); decide)) (hx : ASt.ev ⟨tm, n, H, nx⟩ x = some (.int k a) := by simp only [ASt.ev, tmPut, ↓reduceIte, Nat.reduceEqDiff, plain1, *]; first | done | rfl) (hy : ASt.ev ⟨tm, n, H, nx⟩ y = some (.int k b) := by simp only [ASt.ev, tmPut, ↓reduceIte, Nat.reduceEqDiff, plain1, *]; first | done | rfl) (c : b ≤ a := by omega) : OpsL P W0 ops (⟨some d, .binOp .geq t x y u, type, pos, after, none⟩ :: l) ⟨tm, n, H, nx⟩ QQ := OpsL.p hd (aop_geqT hx hy c) h
theorem OpsL.geqF (h : OpsL P W0 ops l ⟨tmPut tm (some d) (.bool false), n, H, nx⟩ QQ) (hd : d < n := by first | decide | (refine Nat.lt_of_lt_of_eq ?_ (Eq.symm ‹_›); decide)) (hx : ASt.ev ⟨tm, n, H, nx⟩ x = some (.int k a) := by simp only [ASt.ev, tmPut, ↓reduceIte, Nat.reduceEqDiff, plain1, *]; first | done | rfl) (hy : ASt.ev ⟨tm, n, H, nx⟩ y = some (.int k b) := by simp only [ASt.ev, tmPut, ↓reduceIte, Nat.reduceEqDiff, plain1, *]; first | done | rfl) (c : ¬ (b ≤ a) := by omega) : OpsL P W0 ops (⟨some d, .binOp .geq t x y u, type, pos, after, none⟩ :: l) ⟨tm, n, H, nx⟩ QQ := OpsL.p hd (aop_geqF hx hy c) h
theorem oeql (hx : ev x = some (.int k a) := by simp only [ASt.ev, tmPut, ↓reduceIte, Nat.reduceEqDiff, plain1, *]; first | done | rfl) (hy : ev y = some (.int k b) := by simp only [ASt.ev, tmPut, ↓reduceIte, Nat.reduceEqDiff, plain1, *]; first | done | rfl) : aop P H nx ev ⟨dst, .binOp .eql t x y u, type, pos, after, guard⟩ = some ((.bool (decide (a = b))), .none) := aop_eql hx hy
theorem OpsL.eqlT (h : OpsL P W0 ops l ⟨tmPut tm (some d) (.bool true), n, H, nx⟩ QQ) (hd : d < n := by first | decide | (refine Nat.lt_of_lt_of_eq ?_ (Eq.symm ‹_›); decide)) (hx : ASt.ev ⟨tm, n, H, nx⟩ x = some (.int k a) := by simp only [ASt.ev, tmPut, ↓reduceIte, Nat.reduceEqDiff, plain1, *]; first | done | rfl) (hy : ASt.ev ⟨tm, n, H, nx⟩ y = some (.int k b) := by simp only [ASt.ev, tmPut, ↓reduceIte, Nat.reduceEqDiff, plain1, *]; first | done | rfl) (c : a = b := by omega) : OpsL P W0 ops (⟨some d, .binOp .eql t x y u, type, pos, after, none⟩ :: l) ⟨tm, n, H, nx⟩ QQ := OpsL.p hd (aop_eqlT hx hy c) h
theorem OpsL.eqlF (h : OpsL P W0 ops l ⟨tmPut tm (some d) (.bool false), n, H, nx⟩ QQ) (hd : d < n := by first | decide | (refine Nat.lt_of_lt_of_eq ?_ (Eq.symm ‹_›); decide)) (hx : ASt.ev ⟨tm, n, H, nx⟩ x = some (.int k a) := by simp only [ASt.ev, tmPut, ↓reduceIte, Nat.reduceEqDiff, plain1, *]; first | done | rfl) (hy : ASt.ev ⟨tm, n, H, nx⟩ y = some (.int k b) := by simp only [ASt.ev, tmPut, ↓reduceIte, Nat.reduceEqDiff, plain1, *]; first | done | rfl) (c : ¬ (a = b) := by omega) : OpsL P W0 ops (⟨some d, .binOp .eql t x y u, type, pos, after, none⟩ :: l) ⟨tm, n, H, nx⟩ QQ := OpsL.p hd (aop_eqlF hx hy c) h
theorem OpsL.neqT (h : OpsL P W0 ops l ⟨tmPut tm (some d) (.bool true), n, H, nx⟩ QQ) (hd : d < n := by first | decide | (refine Nat.lt_of_lt_of_eq ?_ (Eq.symm ‹_›); decide)) (hx : ASt.ev ⟨tm, n, H, nx⟩ x = some (.int k a) := by simp only [ASt.ev, tmPut, ↓reduceIte, Nat.reduceEqDiff, plain1, *]; first | done | rfl) (hy : ASt.ev ⟨tm, n, H, nx⟩ y = some (.int k b) := by simp only [ASt.ev, tmPut, ↓reduceIte, Nat.reduceEqDiff, plain1, *]; first | done | rfl) (c : a ≠ b := by omega) : OpsL P W0 ops (⟨some d, .binOp .neq t x y u, type, pos, after, none⟩ :: l) ⟨tm, n, H, nx⟩ QQ := OpsL.p hd (aop_neqT hx hy c) h
theorem OpsL.neqF (h : OpsL P W0 ops l ⟨tmPut tm (some d) (.bool false), n, H, nx⟩ QQ) (hd : d < n := by first | decide | (refine Nat.lt_of_lt_of_eq ?_ (Eq.symm ‹_›); decide)) (hx : ASt.ev ⟨tm, n, H, nx⟩ x = some (.int k a) := by simp only [ASt.ev, tmPut, ↓reduceIte, Nat.reduceEqDiff, plain1, *]; first | done | rfl) (hy : ASt.ev ⟨tm, n, H, nx⟩ y = some (.int k b) := by simp only [ASt.ev, tmPut, ↓reduceIte, Nat.reduceEqDiff, plain1, *]; first | done | rfl) (c : a = b := by omega) : OpsL P W0 ops (⟨some d, .binOp .neq t x y u, type, pos, after, none⟩ :: l) ⟨tm, n, H, nx⟩ QQ := OpsL.p hd (aop_neqF hx hy c) h
theorem onot {q : Bool} (hx : ev x = some (.bool q) := by simp only [ASt.ev, tmPut, ↓reduceIte, Nat.reduceEqDiff, plain1, *]; first | done | rfl) : aop P H nx ev ⟨dst, .unOp .not t x, type, pos, after, guard⟩ = some ((.bool (!q)), .none) := aop_not hx
theorem oadd (hx : ev x = some (.int .i64 a) := by simp only [ASt.ev, tmPut, ↓reduceIte, Nat.reduceEqDiff, plain1, *]; first | done | rfl) (hy : ev y = some (.int .i64 b) := by simp only [ASt.ev, tmPut, ↓reduceIte, Nat.reduceEqDiff, plain1, *]; first | done | rfl) (c : -9223372036854775808 ≤ a + b ∧ a + b ≤ 9223372036854775807 := by omega) : aop P H nx ev ⟨dst, .binOp .add t x y u, type, pos, after, guard⟩ = some ((.int .i64 (a + b)), .none) := aop_add hx hy c
theorem osub (hx : ev x = some (.int .i64 a) := by simp only [ASt.ev, tmPut, ↓reduceIte, Nat.reduceEqDiff, plain1, *]; first | done | rfl) (hy : ev y = some (.int .i64 b) := by simp only [ASt.ev, tmPut, ↓reduceIte, Nat.reduceEqDiff, plain1, *]; first | done | rfl) (c : -9223372036854775808 ≤ a - b ∧ a - b ≤ 9223372036854775807 := by omega) : aop P H nx ev ⟨dst, .binOp .sub t x y u, type, pos, after, guard⟩ = some ((.int .i64 (a - b)), .none) := aop_sub hx hy c
theorem olen {m c : Nat} {p : Option Addr} (hx : ev x = some (.slice p m c) := by simp only [ASt.ev, tmPut, ↓reduceIte, Nat.reduceEqDiff, plain1, *]; first | done | rfl) (hu : P.underlying t = some (.slice e) := by exact rfl) : aop P H nx ev ⟨dst, .call ⟨.builtin .len, #[x], #[t]⟩, type, pos, after, guard⟩ = some ((.int .i64 (m : Int)), .none) := aop_len hx hu
theorem oixa {m c sz : Nat} {p : Addr} (hx : ev x = some (.slice (some p) m c) := by simp only [ASt.ev, tmPut, ↓reduceIte, Nat.reduceEqDiff, plain1, *]; first | done | rfl) (hy : ev y = some (.int k a) := by simp only [ASt.ev, tmPut, ↓reduceIte, Nat.reduceEqDiff, plain1, *]; first | done | rfl) (hu : P.underlying t = some (.slice e) := by exact rfl) (hs : szOf P e = some sz := by exact rfl) (h0 : 0 ≤ a := by omega) (h1 : a < m := by omega) : aop P H nx ev ⟨dst, .indexAddr t x y, type, pos, after, guard⟩ = some ((.pointer (some ⟨p.block, p.off + a.toNat * sz, p.spot⟩)), .none) := aop_indexAddr hx hy hu hs h0 h1
theorem ofa {f : Nat} {p : Addr} (hx : ev x = some (.pointer (some p)) := by simp only [ASt.ev, tmPut, ↓reduceIte, Nat.reduceEqDiff, plain1, *]; first | done | rfl) (hv : aFieldAddr P s (.pointer (some p)) f = some v := by exact rfl) : aop P H nx ev ⟨dst, .fieldAddr s x f, type, pos, after, guard⟩ = some (v, .none) := aop_fieldAddr hx hv
theorem old {p : Addr} {dd : TypeDesc} (hx : ev x = some (.pointer (some p)) := by simp only [ASt.ev, tmPut, ↓reduceIte, Nat.reduceEqDiff, plain1, *]; first | done | rfl) (hu : P.underlying t = some dd := by exact rfl) (hg : isAggD dd = false := by rfl) (hc : cellAt H p v := by assumption) : aop P H nx ev ⟨dst, .load t x, type, pos, after, guard⟩ = some (v, .none) := aop_load hx hu hg hc
theorem opkT (hx : ev x = some (.bool true) := by simp only [ASt.ev, tmPut, ↓reduceIte, reduceIte, Nat.reduceEqDiff, decide_true, decide_false, not_true_eq_false, not_false_eq_true, Bool.not_true, Bool.not_false, *]; first | done | rfl) (hy : ev y = some v := by simp only [ASt.ev, tmPut, ↓reduceIte, Nat.reduceEqDiff, plain1, *]; first | done | rfl) : aop P H nx ev ⟨dst, .pick x y z, type, pos, after, guard⟩ = some (v, .none) := aop_pickT hx hy
theorem opkF (hx : ev x = some (.bool false) := by simp only [ASt.ev, tmPut, ↓reduceIte, reduceIte, Nat.reduceEqDiff, decide_true, decide_false, not_true_eq_false, not_false_eq_true, Bool.not_true, Bool.not_false, *]; first | done | rfl) (hy : ev z = some v := by simp only [ASt.ev, tmPut, ↓reduceIte, Nat.reduceEqDiff, plain1, *]; first | done | rfl) : aop P H nx ev ⟨dst, .pick x y z, type, pos, after, guard⟩ = some (v, .none) := aop_pickF hx hy
theorem OpsL.ung {j : Nat} {want : Bool} {d' : Tmp} (h : OpsL P W0 ops (⟨dst, op, type, pos, after, none⟩ :: l) ⟨tm, n, H, nx⟩ QQ) (hj : (ops[j]?).bind (·.dst) = some d' := by exact rfl) (hb : tm d' = .bool want := by simp only [ASt.ev, tmPut, ↓reduceIte, reduceIte, Nat.reduceEqDiff, decide_true, decide_false, not_true_eq_false, not_false_eq_true, Bool.not_true, Bool.not_false, *]; first | done | rfl) : OpsL P W0 ops (⟨dst, op, type, pos, after, some (j, want)⟩ :: l) ⟨tm, n, H, nx⟩ QQ := OpsL.unguard hj hb h
theorem OpsL.skp {j : Nat} {want : Bool} {d' : Tmp} (h : OpsL P W0 ops l ⟨tmPut tm (some d) undef, n, H, nx⟩ QQ) (hj : (ops[j]?).bind (·.dst) = some d' := by exact rfl) (hb : tm d' = .bool (!want) := by simp only [ASt.ev, tmPut, ↓reduceIte, reduceIte, Nat.reduceEqDiff, decide_true, decide_false, not_true_eq_false, not_false_eq_true, Bool.not_true, Bool.not_false, *]; first | done | rfl) (hd : d < n := by first | decide | (refine Nat.lt_of_lt_of_eq ?_ (Eq.symm ‹_›); decide)) : OpsL P W0 ops (⟨some d, op, type, pos, after, some (j, want)⟩ :: l) ⟨tm, n, H, nx⟩ QQ := OpsL.skipped hj hb hd h
theorem OpsL.gT {j : Nat} {d' : Tmp} {p : Prop} [Decidable p] (h1 : p → OpsL P W0 ops (⟨some d, op, type, pos, after, none⟩ :: l) ⟨tm, n, H, nx⟩ QQ) (h2 : ¬p → OpsL P W0 ops l ⟨tmPut tm (some d) undef, n, H, nx⟩ QQ) (hj : (ops[j]?).bind (·.dst) = some d' := by exact rfl) (hb : tm d' = .bool (decide p) := by simp only [ASt.ev, tmPut, ↓reduceIte, Nat.reduceEqDiff, plain1, *]; first | done | rfl) (hd : d < n := by first | decide | (refine Nat.lt_of_lt_of_eq ?_ (Eq.symm ‹_›); decide)) : OpsL P W0 ops (⟨some d, op, type, pos, after, some (j, true)⟩ :: l) ⟨tm, n, H, nx⟩ QQ := OpsL.guardT hj hb hd h1 h2
theorem OpsL.gF {j : Nat} {d' : Tmp} {p : Prop} [Decidable p] (h1 : ¬p → OpsL P W0 ops (⟨some d, op, type, pos, after, none⟩ :: l) ⟨tm, n, H, nx⟩ QQ) (h2 : p → OpsL P W0 ops l ⟨tmPut tm (some d) undef, n, H, nx⟩ QQ) (hj : (ops[j]?).bind (·.dst) = some d' := by exact rfl) (hb : tm d' = .bool (decide p) := by simp only [ASt.ev, tmPut, ↓reduceIte, Nat.reduceEqDiff, plain1, *]; first | done | rfl) (hd : d < n := by first | decide | (refine Nat.lt_of_lt_of_eq ?_ (Eq.symm ‹_›); decide)) : OpsL P W0 ops (⟨some d, op, type, pos, after, some (j, false)⟩ :: l) ⟨tm, n, H, nx⟩ QQ := OpsL.guardF hj hb hd h1 h2
variable {f : FuncId} {R : Value → Nat → Heap → Prop} {ts : Array TypeId} {va vb vc ve : Value}
theorem OpsL.c0 (hd : d < n := by first | decide | (refine Nat.lt_of_lt_of_eq ?_ (Eq.symm ‹_›); decide))  (hf : Enters P f) (hc : ACalls P W0 f [] nx H R) (h : ∀ v nx' H', R v nx' H' → OpsL P W0 ops l ⟨tmPut tm (some d) v, n, H', nx'⟩ QQ) : OpsL P W0 ops (⟨some d, .call ⟨.value (.func f), #[], ts⟩, type, pos, after, none⟩ :: l) ⟨tm, n, H, nx⟩ QQ := OpsL.call0 hd  hf hc h
theorem OpsL.c1 (hd : d < n := by first | decide | (refine Nat.lt_of_lt_of_eq ?_ (Eq.symm ‹_›); decide)) (hx : ASt.ev ⟨tm, n, H, nx⟩ x = some va := by simp only [ASt.ev, tmPut, ↓reduceIte, Nat.reduceEqDiff, plain1, *]; first | done | rfl) (hf : Enters P f) (hc : ACalls P W0 f [va] nx H R) (h : ∀ v nx' H', R v nx' H' → OpsL P W0 ops l ⟨tmPut tm (some d) v, n, H', nx'⟩ QQ) : OpsL P W0 ops (⟨some d, .call ⟨.value (.func f), #[x], ts⟩, type, pos, after, none⟩ :: l) ⟨tm, n, H, nx⟩ QQ := OpsL.call1 hd hx hf hc h
theorem OpsL.c2 (hd : d < n := by first | decide | (refine Nat.lt_of_lt_of_eq ?_ (Eq.symm ‹_›); decide)) (hx : ASt.ev ⟨tm, n, H, nx⟩ x = some va := by simp only [ASt.ev, tmPut, ↓reduceIte, Nat.reduceEqDiff, plain1, *]; first | done | rfl) (hy : ASt.ev ⟨tm, n, H, nx⟩ y = some vb := by simp only [ASt.ev, tmPut, ↓reduceIte, Nat.reduceEqDiff, plain1, *]; first | done | rfl) (hf : Enters P f) (hc : ACalls P W0 f [va, vb] nx H R) (h : ∀ v nx' H', R v nx' H' → OpsL P W0 ops l ⟨tmPut tm (some d) v, n, H', nx'⟩ QQ) : OpsL P W0 ops (⟨some d, .call ⟨.value (.func f), #[x, y], ts⟩, type, pos, after, none⟩ :: l) ⟨tm, n, H, nx⟩ QQ := OpsL.call2 hd hx hy hf hc h
theorem OpsL.c3 (hd : d < n := by first | decide | (refine Nat.lt_of_lt_of_eq ?_ (Eq.symm ‹_›); decide)) (hx : ASt.ev ⟨tm, n, H, nx⟩ x = some va := by simp only [ASt.ev, tmPut, ↓reduceIte, Nat.reduceEqDiff, plain1, *]; first | done | rfl) (hy : ASt.ev ⟨tm, n, H, nx⟩ y = some vb := by simp only [ASt.ev, tmPut, ↓reduceIte, Nat.reduceEqDiff, plain1, *]; first | done | rfl) (hz : ASt.ev ⟨tm, n, H, nx⟩ z = some vc := by simp only [ASt.ev, tmPut, ↓reduceIte, Nat.reduceEqDiff, plain1, *]; first | done | rfl) (hf : Enters P f) (hc : ACalls P W0 f [va, vb, vc] nx H R) (h : ∀ v nx' H', R v nx' H' → OpsL P W0 ops l ⟨tmPut tm (some d) v, n, H', nx'⟩ QQ) : OpsL P W0 ops (⟨some d, .call ⟨.value (.func f), #[x, y, z], ts⟩, type, pos, after, none⟩ :: l) ⟨tm, n, H, nx⟩ QQ := OpsL.call3 hd hx hy hz hf hc h
theorem OpsL.call4 {x y z w : Operand} (hd : d < n) (hx : ASt.ev ⟨tm, n, H, nx⟩ x = some va) (hy : ASt.ev ⟨tm, n, H, nx⟩ y = some vb) (hz : ASt.ev ⟨tm, n, H, nx⟩ z = some vc) (hw : ASt.ev ⟨tm, n, H, nx⟩ w = some ve) (hf : Enters P f) (hcall : ACalls P W0 f [va, vb, vc, ve] nx H R) (h : ∀ v nx' H', R v nx' H' → OpsL P W0 ops l ⟨tmPut tm (some d) v, n, H', nx'⟩ QQ) :
    OpsL P W0 ops (⟨some d, .call ⟨.value (.func f), #[x, y, z, w], ts⟩, type, pos, after, none⟩ :: l) ⟨tm, n, H, nx⟩ QQ := by
  refine OpsL.call R (by simp [dstOk, hd]) rfl ?_ hf hcall h
  have hf' : ASt.ev ⟨tm, n, H, nx⟩ (.func f) = some (.func (.func f) #[] #[]) := rfl
  simp [callee, hf', evAll, hx, hy, hz, hw]
theorem OpsL.c4 {x y z w : Operand} (hd : d < n := by first | decide | (refine Nat.lt_of_lt_of_eq ?_ (Eq.symm ‹_›); decide)) (hx : ASt.ev ⟨tm, n, H, nx⟩ x = some va := by simp only [ASt.ev, tmPut, ↓reduceIte, Nat.reduceEqDiff, plain1, *]; first | done | rfl) (hy : ASt.ev ⟨tm, n, H, nx⟩ y = some vb := by simp only [ASt.ev, tmPut, ↓reduceIte, Nat.reduceEqDiff, plain1, *]; first | done | rfl) (hz : ASt.ev ⟨tm, n, H, nx⟩ z = some vc := by simp only [ASt.ev, tmPut, ↓reduceIte, Nat.reduceEqDiff, plain1, *]; first | done | rfl) (hw : ASt.ev ⟨tm, n, H, nx⟩ w = some ve := by simp only [ASt.ev, tmPut, ↓reduceIte, Nat.reduceEqDiff, plain1, *]; first | done | rfl) (hf : Enters P f) (hc : ACalls P W0 f [va, vb, vc, ve] nx H R) (h : ∀ v nx' H', R v nx' H' → OpsL P W0 ops l ⟨tmPut tm (some d) v, n, H', nx'⟩ QQ) : OpsL P W0 ops (⟨some d, .call ⟨.value (.func f), #[x, y, z, w], ts⟩, type, pos, after, none⟩ :: l) ⟨tm, n, H, nx⟩ QQ := OpsL.call4 hd hx hy hz hw hf hc h
end
section
variable {P : Program} {W0 : World} {st : ASt} {Q : AExit → ASt → Prop} {c : Operand} {x y : Code}
theorem Trip.itA {p : Prop} [Decidable p] (h1 : p → Trip P W0 x st Q) (h2 : ¬p → Trip P W0 y st Q) (hc : st.ev c = some (.bool (decide p)) := by simp only [ASt.ev, tmPut, ↓reduceIte, Nat.reduceEqDiff, plain1, *]; first | done | rfl) : Trip P W0 (.cond c x y) st Q := Trip.ite hc h1 h2
theorem Trip.ifT (h : Trip P W0 x st Q) (hc : st.ev c = some (.bool true) := by simp only [ASt.ev, tmPut, ↓reduceIte, reduceIte, Nat.reduceEqDiff, decide_true, decide_false, not_true_eq_false, not_false_eq_true, Bool.not_true, Bool.not_false, *]; first | done | rfl) : Trip P W0 (.cond c x y) st Q := Trip.iteB hc (fun _ => h) (fun h => absurd h (by decide))
theorem Trip.ifF (h : Trip P W0 y st Q) (hc : st.ev c = some (.bool false) := by simp only [ASt.ev, tmPut, ↓reduceIte, reduceIte, Nat.reduceEqDiff, decide_true, decide_false, not_true_eq_false, not_false_eq_true, Bool.not_true, Bool.not_false, *]; first | done | rfl) : Trip P W0 (.cond c x y) st Q := Trip.iteB hc (fun h => absurd h (by decide)) (fun _ => h)
end
end Go.Am
namespace Go.Am
open Go.RowKit
section
variable {P : Program} {W0 : World} {ops : Array Oper}
def edgeOkC (ops : Array Oper) (k : Nat) (o : Oper) : Bool :=
  effOp o.op || heapFree o.op || allIdx (fun j oj => !effOp oj.op || depB o j || depB oj k) 0 ops.toList
variable {nx0 : Nat} {H0 : Heap}
section
variable {k : Nat} {type : TypeId} {pos : String} {after : Array Edge} {l : List Oper} {tm : Nat → Value} {n nx nx' : Nat} {H H' : Heap} {v : Value} {QQ : ASt → Prop} {f : FuncId} {d : Tmp} {ts : Array TypeId}
end
def depNB (ops : Array Oper) : Nat → Oper → Nat → Bool
  | 0, o, i => depB o i
  | n + 1, o, i => depB o i || (List.range ops.size).any fun m => depB o m && (match ops[m]? with | some om => depNB ops n om i | none => false)
theorem depNB_iff {ops : Array Oper} : ∀ (n : Nat) (o : Oper) (i : Nat), depNB ops n o i = true → depN ops n o i := by
  intro n
  induction n with
  | zero => intro o i h; exact depB_iff.1 h
  | succ n ih =>
    intro o i h
    simp only [depNB, Bool.or_eq_true, List.any_eq_true, Bool.and_eq_true] at h
    rcases h with h | ⟨m, _, h1, h2⟩
    · exact .inl (depB_iff.1 h)
    · cases ho : ops[m]? with
      | none => rw [ho] at h2; cases h2
      | some om => rw [ho] at h2; exact .inr ⟨m, om, ho, depB_iff.1 h1, ih om i h2⟩
theorem goCall_eff {o : Op} (h : goCall o = true) : effOp o = true := by
  cases o <;> simp only [goCall] at h <;> try (cases h; done)
  rename_i c
  cases hc : c.callee <;> simp [goCall, hc] at h <;> simp [effOp, hc]
theorem calleeE_congr {st : ASt} {o : Oper} : calleeE (evR (opTs o) st.tm) o = callee st o := by
  unfold calleeE callee
  cases ho : o.op <;> simp only
  rename_i c
  cases hc : c.callee <;> simp only
  rename_i x
  have hm : ∀ y, y = x ∨ y ∈ c.args.toList → evR (opTs o) st.tm y = st.ev y := fun y hy =>
    evR_mem (n := st.n) (nx := st.nx) (H := st.H) (fun t ht => mem_opTs (by
      rw [ho, ← ht]
      simp only [Op.operands, Call.operands, hc]
      rcases hy with rfl | hy
      · simp
      · simp; right; simpa using hy))
  rw [hm x (.inl rfl), evAll_congr c.args.toList (fun y hy => hm y (.inr hy))]
  rfl
end
end Go.Am
namespace Go.Am
open Go.RowKit
section
variable {P : Program} {W0 : World} {ops : Array Oper}
def OpsK (P : Program) (W0 : World) (ops : Array Oper) (K : Nat → Heap → Prop) : Nat → List Oper → ASt → (ASt → Prop) → Prop
  | _, [], st, Q => Q st
  | k, o :: l, st, Q => dstOk st o = true ∧ ((wants ops st o = false ∧ OpsK P W0 ops K (k + 1) l (st.put o.dst undef .none) Q) ∨ (wants ops st o = true ∧
      ((∃ v e, aop P st.H st.nx st.ev o = some (v, e) ∧ edgeOkC ops k o = true ∧ (effOp o.op = true → K (e.nx st.nx) (e.H st.nx st.H)) ∧ OpsK P W0 ops K (k + 1) l (st.put o.dst v e) Q) ∨
       (∃ v, effOp o.op = false ∧ (∀ H' nx', K nx' H' → aop P H' nx' st.ev o = some (v, .none)) ∧ OpsK P W0 ops K (k + 1) l (st.put o.dst v .none) Q) ∨
       (∃ f args v nx' H', callee st o = some (f, args) ∧ Enters P f ∧ ACalls P W0 f args st.nx st.H (fun v1 n1 H1 => v1 = v ∧ n1 = nx' ∧ H1 = H') ∧ K nx' H' ∧ OpsK P W0 ops K (k + 1) l ⟨tmPut st.tm o.dst v, st.n, H', nx'⟩ Q))))
variable {K : Nat → Heap → Prop}
section
variable {k : Nat} {type : TypeId} {pos : String} {after : Array Edge} {l : List Oper} {tm : Nat → Value} {n nx nx' : Nat} {H H' : Heap} {v : Value} {QQ : ASt → Prop} {f : FuncId} {d : Tmp} {ts : Array TypeId}
end
end
end Go.Am
namespace Go.Am
open Go.RowKit
def depsO (o : Oper) : List Nat := o.after.toList.filterMap fun e => if Region.binds .any e then some e.on else none
theorem depsO_dep {o : Oper} {j : Nat} (h : j ∈ depsO o) : dep o j := by
  unfold depsO at h
  rw [List.mem_filterMap] at h
  obtain ⟨e, he, h⟩ := h
  split at h
  · rename_i hb
    simp only [Option.some.injEq] at h
    exact ⟨e, by simpa using he, hb, h⟩
  · cases h
def reachL (ops : Array Oper) (o : Oper) : List Nat :=
  (List.range ops.size).reverse.foldl (fun S k => if S.any (Nat.beq k) then S ++ (match ops[k]? with | some ok => depsO ok | none => []) else S) (depsO o)
def depT (ops : Array Oper) (j i : Nat) : Bool := match ops[j]? with | some oj => depNB ops 4 oj i || (reachL ops oj).any (Nat.beq i) | none => false
def depD (ops : Array Oper) (j i : Nat) : Bool := match ops[j]? with | some oj => depB oj i | none => false
def front (ops : Array Oper) (l : List Nat) (i : Nat) : Bool := l.all fun j => !depD ops i j
def edgeR (ops : Array Oper) (acts : List Nat) (i : Nat) (o : Oper) (l : List Nat) : Bool := heapFree o.op || l.all fun j => !acts.contains j || depT ops j i
def ActStep (P : Program) (W0 : World) (ops : Array Oper) (acts : List Nat) (K : Nat → Heap → Prop) (i : Nat) (st : ASt) (N : ASt → Prop) : Prop :=
  ∃ o, ops[i]? = some o ∧ dstOk st o = true ∧ acts.contains i = true ∧
    ((wants ops st o = false ∧ N (st.put o.dst undef .none)) ∨
     (wants ops st o = true ∧
       ((∃ v e, aop P st.H st.nx st.ev o = some (v, e) ∧ K (e.nx st.nx) (e.H st.nx st.H) ∧ N (st.put o.dst v e)) ∨
        (∃ f args R, callee st o = some (f, args) ∧ Enters P f ∧ ACalls P W0 f args st.nx st.H R ∧ ∀ v nx' H', R v nx' H' → K nx' H' ∧ N ⟨tmPut st.tm o.dst v, st.n, H', nx'⟩))))
def OpsR (P : Program) (W0 : World) (ops : Array Oper) (acts : List Nat) (K : Nat → Heap → Prop) : Nat → List Nat → ASt → (ASt → Prop) → Prop
  | _, [], st, Q => Q st
  | 0, _ :: _, _, _ => False
  | m + 1, i :: l, st, Q =>
    (acts.contains i = false ∧ front ops l i = true ∧ ∃ o, ops[i]? = some o ∧ dstOk st o = true ∧
      ((wants ops st o = false ∧ OpsR P W0 ops acts K m l (st.put o.dst undef .none) Q) ∨
       (wants ops st o = true ∧ ∃ v, aop P st.H st.nx st.ev o = some (v, .none) ∧ (edgeR ops acts i o l = true ∨ ∀ H' nx', K nx' H' → aop P H' nx' st.ev o = some (v, .none)) ∧ OpsR P W0 ops acts K m l (st.put o.dst v .none) Q))) ∨
    (∀ j ∈ i :: l, front ops ((i :: l).erase j) j = true → ActStep P W0 ops acts K j st fun s => OpsR P W0 ops acts K m ((i :: l).erase j) s Q)
section
variable {P : Program} {W0 : World} {ops : Array Oper} {acts : List Nat} {K : Nat → Heap → Prop}
theorem aop_evR {st : ASt} {o : Oper} {H : Heap} {nx : Nat} : aop P H nx (evR (opTs o) st.tm) o = aop P H nx st.ev o :=
  aop_congr (fun x hx => evR_mem (n := st.n) (nx := st.nx) (H := st.H) (fun t ht => mem_opTs (by rw [← ht]; exact hx)))
theorem front_iff {l : List Nat} {i : Nat} : front ops l i = true ↔ ∀ j ∈ l, depD ops i j = false := by
  unfold front
  rw [List.all_eq_true]
  constructor
  · intro h j hj; have := h j hj; simpa using this
  · intro h j hj; simp [h j hj]
def Pend (P : Program) (ops : Array Oper) (acts : List Nat) (K : Nat → Heap → Prop) (L : List Nat) (T : Nat → Value) (n : Nat) (H : Heap) (nx : Nat) (i : Nat) (o : Oper) : Prop :=
  (∀ d, o.dst = some d → d < n) ∧ ∃ val, (∀ d, o.dst = some d → T d = val) ∧ ((wantsT ops T o = false ∧ val = undef) ∨
    (wantsT ops T o = true ∧ aop P H nx (evR (opTs o) T) o = some (val, .none) ∧ ((∀ j ∈ L, acts.contains j = true → depT ops j i = true) ∨ ∀ H' nx', K nx' H' → aop P H' nx' (evR (opTs o) T) o = some (val, .none))))
variable {D L : List Nat} {listed : Array Bool} {tm T : Nat → Value} {n nx : Nat} {H : Heap}
theorem reach_listed (down : ∀ (i : Nat) (o : Oper), ops[i]? = some o → listed.getD i false = true → ∀ j, dep o j → listed.getD j false = true) : ∀ (m : Nat) (o : Oper) (i : Nat), (∀ j, dep o j → listed.getD j false = true) → depN ops m o i → listed.getD i false = true := by
  intro m
  induction m with
  | zero => intro o i ha hd; exact ha i hd
  | succ m ihm =>
    intro o i ha hd
    rcases hd with hd | ⟨k, ok, hok, hdk, hd⟩
    · exact ha i hd
    · exact ihm ok i (fun j hj => down k ok hok (ha k hdk) j hj) hd
theorem depT_listed (down : ∀ (i : Nat) (o : Oper), ops[i]? = some o → listed.getD i false = true → ∀ j, dep o j → listed.getD j false = true) {i j : Nat} {o : Oper} (ho : ops[j]? = some o) (hall : ∀ k, dep o k → listed.getD k false = true) (h : depT ops j i = true) : listed.getD i false = true := by
  unfold depT at h
  rw [ho] at h
  rcases Bool.or_eq_true _ _ ▸ h with h | h
  · exact reach_listed down 4 o i hall (depNB_iff _ _ _ h)
  · have key : ∀ (l : List Nat) (S : List Nat), (∀ x ∈ S, listed.getD x false = true) → ∀ x ∈ l.foldl (fun S k => if S.any (Nat.beq k) then S ++ (match ops[k]? with | some ok => depsO ok | none => []) else S) S, listed.getD x false = true := by
      intro l
      induction l with
      | nil => intro S hS x hx; exact hS x hx
      | cons k l ih =>
        intro S hS x hx
        refine ih _ (fun y hy => ?_) x hx
        dsimp only at hy
        split at hy
        · rename_i hk
          rw [List.any_eq_true] at hk
          obtain ⟨z, hz, hkz⟩ := hk
          have hkz := Nat.eq_of_beq_eq_true hkz
          subst hkz
          rcases List.mem_append.1 hy with hy | hy
          · exact hS y hy
          · split at hy
            · rename_i ok hok
              exact down _ ok hok (hS _ hz) y (depsO_dep hy)
            · cases hy
        · exact hS y hy
    rw [List.any_eq_true] at h
    obtain ⟨z, hz, hiz⟩ := h
    have hiz := Nat.eq_of_beq_eq_true hiz
    subst hiz
    exact key _ _ (fun x hx => hall x (depsO_dep hx)) _ hz
theorem callR_wp {ρ : Option Nat} {C : Corr} {o : Oper} {f : FuncId} {args : List Value} {R : Value → Nat → Heap → Prop} {a : Act} {w : World} {i : Nat} {KK : Act → World → Prop} {Q : Exit → Act → World → Prop} (hs : SRel W0 C ⟨tm, n, H, nx⟩ a w) (hd : ∀ d, o.dst = some d → d < n) (hw : wantsT ops tm o = true)
    (hc : calleeE (evR (opTs o) tm) o = some (f, args)) (hf : Enters P f) (hcall : ACalls P W0 f args nx H R) (ho : ops[i]? = some o)
    (hk : ∀ v nx' H' C' v' w', R v nx' H' → SRel W0 C' ⟨tmPut tm o.dst v, n, H', nx'⟩ (a.put o.dst v') w' → Stp nx H C nx' H' C' → KK (a.put o.dst v') w') : wpOpIn (rf ρ) 0 P ops Q i KK a w := by
  have hww := wants_sound hs ops o
  rw [← wantsT_wants] at hww
  unfold wpOpIn
  rw [ho]
  simp only [hww, hw, if_true]
  refine ⟨fun _ _ => trivial, ?_⟩
  have hE' := calleeE_sound hs (evR_ev _ _) hc
  obtain ⟨args', hrun, hargs⟩ := callee_sound hs hE' hf
  rw [callee_semAt hE', hrun]
  refine ⟨fun h => (by cases h), callsIn_rf ((hcall C w args' hs.rel hargs).mono ?_)⟩
  rintro e w'' ⟨v0, v', C', nx1, H1, rfl, hr, hR, hv, hS⟩
  exact hk v0 nx1 H1 C' v' w'' hr (hs.put hd hR hS hv) hS
/-! ### one operation each -/
theorem OpsR.nil {m : Nat} {st : ASt} {Q : ASt → Prop} (h : Q st) : OpsR P W0 ops acts K m [] st Q := by cases m <;> exact h
theorem OpsR.one {m i : Nat} {l : List Nat} {o : Oper} {st : ASt} {Q : ASt → Prop} (ho : ops[i]? = some o) (hn : acts.contains i = false) (he : effOp o.op = false) (hk : (front ops l i && edgeR ops acts i o l) = true) (h : OpsL P W0 ops [o] st fun s => OpsR P W0 ops acts K m l s Q) : OpsR P W0 ops acts K (m + 1) (i :: l) st Q := by
  rw [Bool.and_eq_true] at hk
  obtain ⟨hd, h⟩ := h
  refine .inl ⟨hn, hk.1, o, ho, hd, ?_⟩
  rcases h with ⟨hw, h⟩ | ⟨hw, ⟨v, e, hop, h⟩ | ⟨f, args, R, hc, _⟩⟩
  · exact .inl ⟨hw, h⟩
  · have := effOp_none he hop
    subst this
    exact .inr ⟨hw, v, hop, .inl hk.2, h⟩
  · have := goCall_eff (callee_goCall hc)
    rw [he] at this
    cases this
def waitAll (ops : Array Oper) (l all : List Nat) : Bool := l.all fun j => (all.erase j).any fun k => depD ops j k
theorem waitAll_spec {l all : List Nat} (h : waitAll ops l all = true) {j : Nat} (hj : j ∈ l) : front ops (all.erase j) j = false := by
  unfold waitAll at h
  rw [List.all_eq_true] at h
  have := h j hj
  rw [List.any_eq_true] at this
  obtain ⟨k, hk, hd⟩ := this
  cases hf : front ops (all.erase j) j with
  | false => rfl
  | true => rw [front_iff.1 hf k hk] at hd; cases hd
theorem OpsR.act {m i : Nat} {l : List Nat} {st : ASt} {Q : ASt → Prop} (hw : waitAll ops l (i :: l) = true) (h : ActStep P W0 ops acts K i st fun s => OpsR P W0 ops acts K m l s Q) : OpsR P W0 ops acts K (m + 1) (i :: l) st Q := by
  refine .inr fun j hj hf => ?_
  by_cases e : j = i
  · subst e
    rw [List.erase_cons_head]
    exact h
  · have hj2 : j ∈ l := by
      rcases List.mem_cons.1 hj with h | h
      · exact absurd h e
      · exact h
    rw [waitAll_spec hw hj2] at hf
    cases hf
section
variable {i : Nat} {d : Tmp} {ts : Array TypeId} {type : TypeId} {pos : String} {after : Array Edge} {tm : Nat → Value} {n nx : Nat} {H : Heap} {f : FuncId} {R : Value → Nat → Heap → Prop} {N : ASt → Prop}
end
end
end Go.Am
namespace Go.Am
open Go.RowKit
def readsOkW (ops : Array Oper) (acts : List Nat) : Bool :=
  allIdx (fun i oi => allIdx (fun j oj => match oj.dst with
    | some t => if (opTs oi).contains t || gdst ops oi == some t then depB oi j || (acts.contains j && depNB ops 4 oj i && !Nat.beq i j) else true
    | none => true) 0 ops.toList) 0 ops.toList
section
variable {P : Program} {W0 : World} {ops : Array Oper} {acts : List Nat} {K : Nat → Heap → Prop}
theorem readsOkW_spec (h : readsOkW ops acts = true) {i j : Nat} {oi oj : Oper} {t : Tmp} (hi : ops[i]? = some oi) (hj : ops[j]? = some oj) (ht : t ∈ opTs oi ∨ gdst ops oi = some t) (hd : oj.dst = some t) : dep oi j ∨ (acts.contains j = true ∧ depT ops j i = true ∧ i ≠ j) := by
  unfold readsOkW at h
  have h1 := allIdx_spec _ _ (allIdx_spec _ _ h i oi (by simpa using hi)) j oj (by simpa using hj)
  simp only [Nat.zero_add, hd] at h1
  rw [if_pos] at h1
  · rw [Bool.or_eq_true] at h1
    rcases h1 with h1 | h1
    · exact .inl (depB_iff.1 h1)
    · simp only [Bool.and_eq_true, Bool.not_eq_true'] at h1
      refine .inr ⟨h1.1.1, ?_, fun e => ?_⟩
      · unfold depT
        rw [hj]
        simp only [h1.1.2, Bool.true_or]
      · have := h1.2
        rw [e] at this
        simp at this
  · rcases ht with ht | ht
    · simp [ht]
    · simp [ht]
structure RInvW (P : Program) (ops : Array Oper) (acts : List Nat) (K : Nat → Heap → Prop) (D L : List Nat) (listed : Array Bool) (tm T : Nat → Value) (n : Nat) (H : Heap) (nx : Nat) : Prop where
  size : listed.size = ops.size
  down : ∀ (i : Nat) (o : Oper), ops[i]? = some o → listed.getD i false = true → ∀ j, dep o j → listed.getD j false = true
  unl : ∀ i ∈ L, listed.getD i false = false
  all : ∀ i, i < ops.size → i ∈ D ∨ i ∈ L
  disj : ∀ p ∈ D, ∀ i ∈ L, p ≠ i
  topo : ∀ p ∈ D, ∀ i ∈ L, depD ops p i = false
  nd : L.Nodup
  lt : ∀ i ∈ L, i < ops.size
  pend : ∀ i ∈ D, listed.getD i false = false → ∃ o, ops[i]? = some o ∧ Pend P ops acts K L T n H nx i o
  eqv : ∀ t, (∀ (i : Nat) (o : Oper), ops[i]? = some o → i ∈ D → listed.getD i false = false → o.dst ≠ some t) → tm t = T t
  actl : ∀ p ∈ D, acts.contains p = true → listed.getD p false = true
variable {D L : List Nat} {listed : Array Bool} {tm T : Nat → Value} {n nx : Nat} {H : Heap}
theorem RInvW.reads (hr : readsOkW ops acts = true) (hi : RInvW P ops acts K D L listed tm T n H nx) {i : Nat} {o : Oper} (ho : ops[i]? = some o) (hall : ∀ j, dep o j → listed.getD j false = true) {t : Tmp} (ht : t ∈ opTs o ∨ gdst ops o = some t) : tm t = T t := by
  refine hi.eqv t fun p op hop hp hun hd => ?_
  rcases readsOkW_spec hr ho hop ht hd with h | ⟨h, _, _⟩
  · have := hall p h
    rw [hun] at this
    cases this
  · have := hi.actl p hp h
    rw [hun] at this
    cases this
theorem pend_putW (hr : readsOkW ops acts = true) (hone : ∀ (i j : Nat) (oi oj : Oper) (d : Tmp), ops[i]? = some oi → ops[j]? = some oj → oi.dst = some d → oj.dst = some d → i = j) {i p : Nat} {o op : Oper} {H' : Heap} {nx' : Nat} (ho : ops[i]? = some o) (hop : ops[p]? = some op) (hpi : p ≠ i) (hni : depD ops p i = false) (hact : acts.contains i = true → depT ops i p = false) (v : Value)
    {L' : List Nat} (hsub : ∀ j ∈ L', j ∈ L) (hil : i ∈ L) (h : Pend P ops acts K L T n H nx p op) (hk : (H' = H ∧ nx' = nx) ∨ (acts.contains i = true ∧ depT ops i p = false ∧ K nx' H')) : Pend P ops acts K L' (tmPut T o.dst v) n H' nx' p op := by
  obtain ⟨h2, val, h3, h4⟩ := h
  have hsame : ∀ t, (t ∈ opTs op ∨ gdst ops op = some t) → tmPut T o.dst v t = T t := fun t ht => by
    cases hd : o.dst with
    | none => rfl
    | some d =>
      have hne : t ≠ d := fun e => by
        subst e
        rcases readsOkW_spec hr hop ho ht hd with h | ⟨ha, hb, _⟩
        · have := depB_iff.2 h
          unfold depD at hni
          rw [hop] at hni
          simp only at hni
          rw [hni] at this
          cases this
        · rw [hact ha] at hb
          cases hb
      simp only [tmPut, hne, if_false]
  refine ⟨h2, val, fun d hd => ?_, ?_⟩
  · rw [← h3 d hd]
    cases hod : o.dst with
    | none => rfl
    | some d' =>
      have hne : d ≠ d' := fun e => hpi (hone p i op o d hop ho hd (by rw [hod, e]))
      simp only [tmPut, hne, if_false]
  · rw [wantsT_congr (tm' := T) (fun d hd => hsame d (.inr hd)), evR_congr (tm' := T) (fun t ht => hsame t (.inl ht))]
    rcases h4 with h4 | ⟨h5, h6, h7⟩
    · exact .inl h4
    · refine .inr ⟨h5, ?_, ?_⟩
      · rcases hk with ⟨rfl, rfl⟩ | ⟨he, hno, hK⟩
        · exact h6
        · rcases h7 with h7 | h7
          · have := h7 i hil he
            rw [hno] at this; cases this
          · exact h7 _ _ hK
      · rcases h7 with h7 | h7
        · exact .inl fun j hj => h7 j (hsub j hj)
        · exact .inr h7
theorem read_sameW (hr : readsOkW ops acts = true) (hlex : ∀ (i : Nat) (o : Oper), ops[i]? = some o → ∀ j, dep o j → j < i) {i : Nat} {o : Oper} (ho : ops[i]? = some o) (v : Value) {t : Tmp} (ht : t ∈ opTs o ∨ gdst ops o = some t) : tmPut T o.dst v t = T t := by
  cases hod : o.dst with
  | none => rfl
  | some d =>
    have hne : t ≠ d := fun e => by
      subst e
      rcases readsOkW_spec hr ho ho ht hod with h | ⟨_, _, h⟩
      · exact absurd (hlex i o ho i h) (Nat.lt_irrefl _)
      · exact h rfl
    simp only [tmPut, hne, if_false]
theorem RInvW.advance (hr : readsOkW ops acts = true) (hlex : ∀ (i : Nat) (o : Oper), ops[i]? = some o → ∀ j, dep o j → j < i) (hone : ∀ (i j : Nat) (oi oj : Oper) (d : Tmp), ops[i]? = some oi → ops[j]? = some oj → oi.dst = some d → oj.dst = some d → i = j) {i m : Nat} {Q : ASt → Prop} (hi : RInvW P ops acts K D (i :: L) listed tm T n H nx) (hna : acts.contains i = false) (hfr : front ops L i = true)
    (h : ∃ o, ops[i]? = some o ∧ dstOk ⟨T, n, H, nx⟩ o = true ∧
      ((wants ops ⟨T, n, H, nx⟩ o = false ∧ OpsR P W0 ops acts K m L (ASt.put ⟨T, n, H, nx⟩ o.dst undef .none) Q) ∨
       (wants ops ⟨T, n, H, nx⟩ o = true ∧ ∃ v, aop P H nx (ASt.ev ⟨T, n, H, nx⟩) o = some (v, .none) ∧ (edgeR ops acts i o L = true ∨ ∀ H' nx', K nx' H' → aop P H' nx' (ASt.ev ⟨T, n, H, nx⟩) o = some (v, .none)) ∧ OpsR P W0 ops acts K m L (ASt.put ⟨T, n, H, nx⟩ o.dst v .none) Q))) :
    ∃ T', RInvW P ops acts K (i :: D) L listed tm T' n H nx ∧ OpsR P W0 ops acts K m L ⟨T', n, H, nx⟩ Q := by
  obtain ⟨o, ho, hd, h⟩ := h
  have hl : ∀ j ∈ L, i ≠ j ∧ depD ops i j = false := fun j hj => ⟨fun e => (List.nodup_cons.1 hi.nd).1 (e ▸ hj), front_iff.1 hfr j hj⟩
  have hdn := dstOk_spec hd
  have key : ∃ v, Pend P ops acts K L (tmPut T o.dst v) n H nx i o ∧ OpsR P W0 ops acts K m L ⟨tmPut T o.dst v, n, H, nx⟩ Q := by
    have hown : ∀ v d, o.dst = some d → tmPut T o.dst v d = v := fun v d hd => by simp [tmPut, hd]
    rcases h with ⟨hw, h⟩ | ⟨hw, v, hop, hedge, h⟩
    · refine ⟨undef, ⟨hdn, undef, hown undef, .inl ⟨?_, rfl⟩⟩, h⟩
      rw [wantsT_congr (tm' := T) (fun d hd => read_sameW hr hlex ho _ (.inr hd))]
      exact (wantsT_wants ⟨T, n, H, nx⟩ o).trans hw
    · refine ⟨v, ⟨hdn, v, hown v, .inr ⟨?_, ?_, ?_⟩⟩, h⟩
      · rw [wantsT_congr (tm' := T) (fun d hd => read_sameW hr hlex ho _ (.inr hd))]
        exact (wantsT_wants ⟨T, n, H, nx⟩ o).trans hw
      · rw [evR_congr (tm' := T) (fun t ht => read_sameW hr hlex ho _ (.inl ht))]
        exact (aop_evR (st := ⟨T, n, H, nx⟩)).trans hop
      · rcases hedge with hedge | hst
        · unfold edgeR at hedge
          rw [Bool.or_eq_true] at hedge
          rcases hedge with hf | hf
          · refine .inr fun H' nx' _ => ?_
            rw [evR_congr (tm' := T) (fun t ht => read_sameW hr hlex ho _ (.inl ht)), heapFree_aop (H' := H) (nx' := nx) hf]
            exact (aop_evR (st := ⟨T, n, H, nx⟩)).trans hop
          · refine .inl fun j hj hej => ?_
            rw [List.all_eq_true] at hf
            have := hf j hj
            rw [hej] at this
            simpa using this
        · refine .inr fun H' nx' hK => ?_
          rw [evR_congr (tm' := T) (fun t ht => read_sameW hr hlex ho _ (.inl ht))]
          exact (aop_evR (st := ⟨T, n, H, nx⟩)).trans (hst H' nx' hK)
  obtain ⟨v, hp, h2⟩ := key
  refine ⟨tmPut T o.dst v, ⟨hi.size, hi.down, fun j hj => hi.unl j (List.mem_cons_of_mem _ hj), ?_, ?_, ?_, (List.nodup_cons.1 hi.nd).2, fun j hj => hi.lt j (List.mem_cons_of_mem _ hj), ?_, ?_, ?_⟩, h2⟩
  · intro j hj
    rcases hi.all j hj with h | h
    · exact .inl (List.mem_cons_of_mem _ h)
    · rcases List.mem_cons.1 h with rfl | h
      · exact .inl List.mem_cons_self
      · exact .inr h
  · intro p hp j hj
    rcases List.mem_cons.1 hp with rfl | hp
    · exact (hl j hj).1
    · exact hi.disj p hp j (List.mem_cons_of_mem _ hj)
  · intro p hp j hj
    rcases List.mem_cons.1 hp with rfl | hp
    · exact (hl j hj).2
    · exact hi.topo p hp j (List.mem_cons_of_mem _ hj)
  · intro p hp2 hun
    rcases List.mem_cons.1 hp2 with rfl | hp2
    · exact ⟨o, ho, hp⟩
    · obtain ⟨op, hop, hpe⟩ := hi.pend p hp2 hun
      exact ⟨op, hop, pend_putW hr hone ho hop (hi.disj p hp2 i List.mem_cons_self) (hi.topo p hp2 i List.mem_cons_self) (fun h => by rw [hna] at h; cases h) v (fun j hj => List.mem_cons_of_mem _ hj) List.mem_cons_self hpe (.inl ⟨rfl, rfl⟩)⟩
  · intro t ht
    have h0 := hi.eqv t (fun p op hop hp hun => ht p op hop (List.mem_cons_of_mem _ hp) hun)
    have hne := ht i o ho List.mem_cons_self (hi.unl i List.mem_cons_self)
    rw [h0]
    cases hod : o.dst with
    | none => rfl
    | some d =>
      have : t ≠ d := fun e => hne (by rw [hod, e])
      simp only [tmPut, this, if_false]
  · intro p hp ha
    rcases List.mem_cons.1 hp with rfl | hp
    · rw [hna] at ha; cases ha
    · exact hi.actl p hp ha
theorem RInvW.find (hr : readsOkW ops acts = true) (hlex : ∀ (i : Nat) (o : Oper), ops[i]? = some o → ∀ j, dep o j → j < i) (hone : ∀ (i j : Nat) (oi oj : Oper) (d : Tmp), ops[i]? = some oi → ops[j]? = some oj → oi.dst = some d → oj.dst = some d → i = j) {Q : ASt → Prop} {i : Nat} {o : Oper} (ho : ops[i]? = some o) (hall : ∀ j, dep o j → listed.getD j false = true) :
    ∀ (m : Nat) (L D : List Nat) (T : Nat → Value), RInvW P ops acts K D L listed tm T n H nx → OpsR P W0 ops acts K m L ⟨T, n, H, nx⟩ Q → i ∈ L → ∃ m' D' L' T', RInvW P ops acts K D' L' listed tm T' n H nx ∧ ((i ∈ D' ∧ OpsR P W0 ops acts K m' L' ⟨T', n, H, nx⟩ Q) ∨ (i ∈ L' ∧ front ops (L'.erase i) i = true ∧ ActStep P W0 ops acts K i ⟨T', n, H, nx⟩ fun s => OpsR P W0 ops acts K m' (L'.erase i) s Q)) := by
  intro m
  induction m with
  | zero =>
    intro L D T hi h hm
    cases L with
    | nil => cases hm
    | cons k L => exact h.elim
  | succ m ih =>
    intro L D T hi h hm
    cases L with
    | nil => cases hm
    | cons k L =>
      rcases h with ⟨hna, hfr, h⟩ | h
      · obtain ⟨T', hi', h'⟩ := hi.advance hr hlex hone hna hfr h
        by_cases hk : k = i
        · subst hk
          exact ⟨m, _, _, T', hi', .inl ⟨List.mem_cons_self, h'⟩⟩
        · have hm2 : i ∈ L := by
            rcases List.mem_cons.1 hm with e | hm
            · exact absurd e.symm hk
            · exact hm
          exact ih _ _ _ hi' h' hm2
      · have hfr : front ops ((k :: L).erase i) i = true := front_iff.2 fun j hj => by
          cases hd : depD ops i j with
          | false => rfl
          | true =>
            have hjl := hi.unl j (List.mem_of_mem_erase hj)
            unfold depD at hd
            rw [ho] at hd
            have := hall j (depB_iff.1 hd)
            rw [hjl] at this
            cases this
        exact ⟨m, D, _, T, hi, .inr ⟨hm, hfr, h i hm hfr⟩⟩
theorem opsRW_any (hr : readsOkW ops acts = true) (hlex : ∀ (i : Nat) (o : Oper), ops[i]? = some o → ∀ j, dep o j → j < i) (hone : ∀ (i j : Nat) (oi oj : Oper) (d : Tmp), ops[i]? = some oi → ops[j]? = some oj → oi.dst = some d → oj.dst = some d → i = j) {ρ : Option Nat} {nx0 : Nat} {H0 : Heap} {C0 : Corr} {df : List Deferred} {Q' : ASt → Prop} {Q : Exit → Act → World → Prop}
    (hq : ∀ T H nx C a w, Q' ⟨T, n, H, nx⟩ → SRel W0 C ⟨T, n, H, nx⟩ a w → Stp nx0 H0 C0 nx H C → a.defers = df → Q .normal a w) :
    ∀ (fuel : Nat) (listed : Array Bool) (tm : Nat → Value) (m : Nat) (D L : List Nat) (T : Nat → Value) (H : Heap) (nx : Nat) (C : Corr) (a : Act) (w : World), RInvW P ops acts K D L listed tm T n H nx → ((List.range ops.size).filter fun i => !listed.getD i false).length = fuel →
      SRel W0 C ⟨tm, n, H, nx⟩ a w → Stp nx0 H0 C0 nx H C → a.defers = df → K nx H → OpsR P W0 ops acts K m L ⟨T, n, H, nx⟩ Q' → wpAnyIn (rf ρ) 0 P .any ops Q fuel listed a w := by
  intro fuel
  induction fuel with
  | zero =>
    intro listed tm m D L T H nx C a w hi hf hs hS hdf hK h
    have hall : ∀ i, i < ops.size → listed.getD i false = true := by
      intro i hlt
      cases hl : listed.getD i false with
      | true => rfl
      | false =>
        have : i ∈ (List.range ops.size).filter fun i => !listed.getD i false := List.mem_filter.2 ⟨List.mem_range.2 hlt, by rw [hl]; rfl⟩
        rw [List.length_eq_zero_iff.1 hf] at this
        cases this
    refine ⟨?_, ?_⟩
    · cases hrr : Region.ready .any ops listed with
      | nil => rfl
      | cons j r =>
        have hj : j ∈ Region.ready .any ops listed := by rw [hrr]; exact List.mem_cons_self ..
        obtain ⟨h0, o, ho, _⟩ := mem_ready.1 hj
        have hlt : j < ops.size := (Array.getElem?_eq_some_iff.1 ho).1
        have := hall j hlt
        rw [getD_lt (by rw [hi.size]; exact hlt) false true, h0] at this
        cases this
    · cases L with
      | cons k L =>
        have := hi.unl k List.mem_cons_self
        rw [hall k (hi.lt k List.mem_cons_self)] at this
        cases this
      | nil =>
        have h : Q' ⟨T, n, H, nx⟩ := by cases m <;> exact h
        have htm : tm = T := by
          funext t
          refine hi.eqv t fun p op hop hp hun => ?_
          rw [hall p (Array.getElem?_eq_some_iff.1 hop).1] at hun
          cases hun
        subst htm
        exact hq _ _ _ C a w h hs hS hdf
  | succ fuel ih =>
    intro listed tm m D L T H nx C a w hi hf hs hS hdf hK h
    refine ⟨?_, ?_⟩
    · intro hrd
      exfalso
      have hex : ∃ i, i < ops.size ∧ listed.getD i false = false ∧ ∀ j, j < i → listed.getD j false = true := by
        have : ∃ i, i < ops.size ∧ listed.getD i false = false := by
          cases hl : (List.range ops.size).filter fun i => !listed.getD i false with
          | nil => rw [hl] at hf; simp at hf
          | cons i r =>
            have : i ∈ (List.range ops.size).filter fun i => !listed.getD i false := by rw [hl]; exact List.mem_cons_self ..
            obtain ⟨h1, h2⟩ := List.mem_filter.1 this
            exact ⟨i, List.mem_range.1 h1, by simpa using h2⟩
        obtain ⟨i, h1, h2⟩ := this
        induction i using Nat.strongRecOn with
        | _ i ihh =>
          by_cases hm : ∃ j, j < i ∧ listed.getD j false = false
          · obtain ⟨j, hj1, hj2⟩ := hm
            exact ihh j hj1 (by omega) hj2
          · refine ⟨i, h1, h2, fun j hj => ?_⟩
            cases hl : listed.getD j false with
            | true => rfl
            | false => exact absurd ⟨j, hj, hl⟩ hm
      obtain ⟨i, hlt, hun, hmin⟩ := hex
      have ho : ops[i]? = some ops[i] := by simp
      have : i ∈ Region.ready .any ops listed := mem_ready.2 ⟨by rw [getD_lt (by rw [hi.size]; exact hlt) true false]; exact hun, _, ho, fun e he hb => hmin _ (hlex i _ ho e.on ⟨e, he, hb, rfl⟩)⟩
      rw [hrd] at this
      cases this
    · intro i hir
      obtain ⟨h0, o, ho, hall0⟩ := mem_ready.1 hir
      have hlt : i < ops.size := (Array.getElem?_eq_some_iff.1 ho).1
      have hlts : i < listed.size := by rw [hi.size]; exact hlt
      have hun : listed.getD i false = false := by rw [getD_lt hlts false true]; exact h0
      have hall : ∀ j, dep o j → listed.getD j false = true := fun j ⟨e, he, hb, hj⟩ => hj ▸ hall0 e he hb
      have hcount : ((List.range ops.size).filter fun j => !(listed.setIfInBounds i true).getD j false).length = fuel := by
        have key : ∀ (l : List Nat), l.Nodup → i ∈ l → ((l.filter fun j => !(listed.setIfInBounds i true).getD j false).length + 1 = (l.filter fun j => !listed.getD j false).length) := by
          intro l
          induction l with
          | nil => intro _ hm; cases hm
          | cons x l ihl =>
            intro hnd hm
            rw [List.nodup_cons] at hnd
            by_cases e : x = i
            · subst e
              have hsame : (l.filter fun j => !(listed.setIfInBounds x true).getD j false) = (l.filter fun j => !listed.getD j false) := by
                apply List.filter_congr
                intro y hy
                rw [getD_set_ne false (fun z : x = y => hnd.1 (by rw [z]; exact hy))]
              rw [List.filter_cons, List.filter_cons]
              simp only [getD_set_self hlts, hun, Bool.not_true, Bool.not_false, Bool.false_eq_true, if_false, if_true, List.length_cons, hsame]
            · have hm' : i ∈ l := by
                cases hm with
                | head => exact absurd rfl e
                | tail _ hm => exact hm
              have := ihl hnd.2 hm'
              rw [List.filter_cons, List.filter_cons, getD_set_ne false (Ne.symm e)]
              split
              · simp only [List.length_cons]; omega
              · exact this
        have := key (List.range ops.size) List.nodup_range (List.mem_range.2 hlt)
        omega
      have hdown' : ∀ (k : Nat) (ok : Oper), ops[k]? = some ok → (listed.setIfInBounds i true).getD k false = true → ∀ j, dep ok j → (listed.setIfInBounds i true).getD j false = true := by
        intro k ok hok hk j hj
        apply getD_set_true
        by_cases e : i = k
        · subst e
          rw [ho] at hok
          cases hok
          exact hall j hj
        · rw [getD_set_ne false e] at hk
          exact hi.down k ok hok hk j hj
      have hwalk : ∃ m' D' L' T', RInvW P ops acts K D' L' listed tm T' n H nx ∧ ((i ∈ D' ∧ OpsR P W0 ops acts K m' L' ⟨T', n, H, nx⟩ Q') ∨ (i ∈ L' ∧ front ops (L'.erase i) i = true ∧ ActStep P W0 ops acts K i ⟨T', n, H, nx⟩ fun s => OpsR P W0 ops acts K m' (L'.erase i) s Q')) := by
        rcases hi.all i hlt with hD | hL
        · exact ⟨m, D, L, T, hi, .inl ⟨hD, h⟩⟩
        · exact RInvW.find hr hlex hone ho hall m L D T hi h hL
      clear hi h T D L m
      obtain ⟨m, D, L, T, hi, hcase⟩ := hwalk
      have hrd : ∀ t, (t ∈ opTs o ∨ gdst ops o = some t) → tm t = T t := fun t ht => hi.reads hr ho hall ht
      rcases hcase with ⟨hD, h⟩ | ⟨hL, hfr, h⟩
      · -- one that waits comes up
        obtain ⟨o', ho', hp⟩ := hi.pend i hD hun
        rw [ho] at ho'
        cases ho'
        obtain ⟨p2, val, p3, p4⟩ := hp
        have hds : DStep P W0 ops tm n H nx o val H nx := by
          refine ⟨p2, ?_⟩
          rw [wantsT_congr (tm' := T) (fun d hd => hrd d (.inr hd)), evR_congr (tm' := T) (fun t ht => hrd t (.inl ht))]
          rcases p4 with ⟨q1, q2⟩ | ⟨q1, q2, _⟩
          · exact .inl ⟨q1, q2, rfl, rfl⟩
          · exact .inr ⟨q1, .inl ⟨.none, q2, rfl, rfl⟩⟩
        refine hds.wp hs ho ?_
        intro C' v' w' hs' hS'
        refine ih (listed.setIfInBounds i true) (tmPut tm o.dst val) m D L T H nx C' _ w' ⟨by simp [hi.size], hdown', ?_, hi.all, hi.disj, hi.topo, hi.nd, hi.lt, ?_, ?_, fun p hp ha => getD_set_true (hi.actl p hp ha)⟩ hcount hs' (hS.trans hS') ((put_defers _ _ _).trans hdf) hK h
        · intro j hj
          rw [getD_set_ne false (hi.disj i hD j hj)]
          exact hi.unl j hj
        · intro p hp hpu
          by_cases e : i = p
          · subst e
            rw [getD_set_self hlts] at hpu
            cases hpu
          · rw [getD_set_ne false e] at hpu
            exact hi.pend p hp hpu
        · intro t ht
          by_cases hdt : o.dst = some t
          · simp only [tmPut, hdt, if_true]
            exact (p3 t hdt).symm
          · have hb : tm t = T t := hi.eqv t fun p op hop hp hpu => by
              by_cases e : i = p
              · subst e
                rw [ho] at hop
                cases hop
                exact hdt
              · exact ht p op hop hp (by rw [getD_set_ne false e]; exact hpu)
            rw [← hb]
            cases hod : o.dst with
            | none => rfl
            | some d =>
              have : t ≠ d := fun e => hdt (by rw [hod, e])
              simp only [tmPut, this, if_false]
      · -- one that acts
        obtain ⟨o', ho', hd, hE, h⟩ := h
        rw [ho] at ho'
        cases ho'
        have hdn := dstOk_spec hd
        have hmE : ∀ j ∈ L.erase i, j ∈ L := fun j hj => List.mem_of_mem_erase hj
        have hl : ∀ j ∈ L.erase i, i ≠ j ∧ depD ops i j = false := fun j hj => ⟨fun e => by subst e; exact absurd hj (fun hx => (hi.nd.mem_erase_iff.1 hx).1 rfl), front_iff.1 hfr j hj⟩
        have hnodep : ∀ p ∈ D, listed.getD p false = false → depT ops i p = false := by
          intro p hp hpu
          cases hx : depT ops i p with
          | false => rfl
          | true =>
            have := depT_listed hi.down ho hall hx
            rw [hpu] at this
            cases this
        have hnext : ∀ (v : Value) (H' : Heap) (nx' : Nat) (C' : Corr) (v' : Value) (w' : World), ((H' = H ∧ nx' = nx) ∨ K nx' H') → OpsR P W0 ops acts K m (L.erase i) ⟨tmPut T o.dst v, n, H', nx'⟩ Q' → SRel W0 C' ⟨tmPut tm o.dst v, n, H', nx'⟩ (a.put o.dst v') w' → Stp nx H C nx' H' C' → wpAnyIn (rf ρ) 0 P .any ops Q fuel (listed.setIfInBounds i true) (a.put o.dst v') w' := by
          intro v H' nx' C' v' w' hK' h' hs' hS'
          refine ih (listed.setIfInBounds i true) (tmPut tm o.dst v) m (i :: D) (L.erase i) (tmPut T o.dst v) H' nx' C' _ w' ⟨by simp [hi.size], hdown', ?_, ?_, ?_, ?_, hi.nd.erase i, fun j hj => hi.lt j (hmE j hj), ?_, ?_, ?_⟩ hcount hs' (hS.trans hS') ((put_defers _ _ _).trans hdf) (by rcases hK' with ⟨rfl, rfl⟩ | hK'; exact hK; exact hK') h'
          · intro j hj
            rw [getD_set_ne false (hl j hj).1]
            exact hi.unl j (hmE j hj)
          · intro j hj
            rcases hi.all j hj with h | h
            · exact .inl (List.mem_cons_of_mem _ h)
            · by_cases e : j = i
              · exact .inl (e ▸ List.mem_cons_self)
              · exact .inr ((List.mem_erase_of_ne e).2 h)
          · intro p hp j hj
            rcases List.mem_cons.1 hp with rfl | hp
            · exact (hl j hj).1
            · exact hi.disj p hp j (hmE j hj)
          · intro p hp j hj
            rcases List.mem_cons.1 hp with rfl | hp
            · exact (hl j hj).2
            · exact hi.topo p hp j (hmE j hj)
          · intro p hp hpu
            rcases List.mem_cons.1 hp with rfl | hp
            · rw [getD_set_self hlts] at hpu
              cases hpu
            · have hne : i ≠ p := fun e => hi.disj p hp i hL e.symm
              rw [getD_set_ne false hne] at hpu
              obtain ⟨op, hop, hpe⟩ := hi.pend p hp hpu
              refine ⟨op, hop, pend_putW hr hone ho hop (Ne.symm hne) (hi.topo p hp i hL) (fun _ => hnodep p hp hpu) v hmE hL hpe ?_⟩
              rcases hK' with hK' | hK'
              · exact .inl hK'
              · exact .inr ⟨hE, hnodep p hp hpu, hK'⟩
          · intro t ht
            by_cases hdt : o.dst = some t
            · simp only [tmPut, hdt, if_true]
            · have hb : tm t = T t := hi.eqv t fun p op hop hp hpu => ht p op hop (List.mem_cons_of_mem _ hp) (by
                have hne : i ≠ p := fun e => hi.disj p hp i hL e.symm
                rw [getD_set_ne false hne]; exact hpu)
              cases hod : o.dst with
              | none => exact hb
              | some d =>
                have : t ≠ d := fun e => hdt (by rw [hod, e])
                simp only [tmPut, this, if_false]
                exact hb
          · intro p hp ha
            rcases List.mem_cons.1 hp with rfl | hp
            · exact getD_set_self hlts false
            · exact getD_set_true (hi.actl p hp ha)
        have hwT : wantsT ops tm o = wants ops ⟨T, n, H, nx⟩ o := by
          rw [wantsT_congr (tm' := T) (fun d hd => hrd d (.inr hd))]
          exact wantsT_wants ⟨T, n, H, nx⟩ o
        have hevT : evR (opTs o) tm = evR (opTs o) T := evR_congr (fun t ht => hrd t (.inl ht))
        rcases h with ⟨hw, h⟩ | ⟨hw, ⟨v, e, hop, hKe, h⟩ | ⟨f, args, R, hc, hf2, hcall, h⟩⟩
        · have hds : DStep P W0 ops tm n H nx o undef H nx := ⟨hdn, .inl ⟨hwT.trans hw, rfl, rfl, rfl⟩⟩
          exact hds.wp hs ho fun C' v' w' hs' hS' => hnext undef H nx C' v' w' (.inl ⟨rfl, rfl⟩) h hs' hS'
        · have hds : DStep P W0 ops tm n H nx o v (e.H nx H) (e.nx nx) := ⟨hdn, .inr ⟨hwT.trans hw, .inl ⟨e, by rw [hevT]; exact (aop_evR (st := ⟨T, n, H, nx⟩)).trans hop, rfl, rfl⟩⟩⟩
          exact hds.wp hs ho fun C' v' w' hs' hS' => hnext v _ _ C' v' w' (.inr hKe) h hs' hS'
        · refine callR_wp hs hdn (hwT.trans hw) (by rw [hevT]; exact (calleeE_congr (st := ⟨T, n, H, nx⟩)).trans hc) hf2 hcall ho ?_
          intro v nx' H' C' v' w' hRv hs' hS'
          obtain ⟨hK', h'⟩ := h v nx' H' hRv
          exact hnext v H' nx' C' v' w' (.inr hK') h' hs' hS'
theorem OpsR.drawnW {id : Nat} {st : ASt} {Q : AExit → ASt → Prop} (acts : List Nat) (hm : P.follows .mixedOrders = true) (hs : statOk ops = true) (hr : readsOkW ops acts = true) (perm : List Nat) (hperm : ((List.range ops.size).all perm.contains && perm.all (fun i => decide (i < ops.size)) && decide perm.Nodup) = true) (h0 : K st.nx st.H) (h : OpsR P W0 ops acts K perm.length perm st (Q .normal)) : Trip P W0 (.region id ops true) st Q := by
  obtain ⟨b1, b2, _⟩ := statOk_spec hs
  simp only [Bool.and_eq_true, decide_eq_true_eq] at hperm
  obtain ⟨⟨hp1, hp2⟩, hp3⟩ := hperm
  intro ρ C a w hrr hss
  have hs' : SRel W0 C st a w.drew := ⟨hss.tm, hss.sz, hss.rel.drew⟩
  have hfalse : ∀ i, (Array.replicate ops.size false).getD i false = false := fun i => by
    rw [Array.getD_eq_getD_getElem?, Array.getElem?_replicate]; split <;> rfl
  refine wpIn_region_any hm (opsRW_any (P := P) (W0 := W0) (K := K) (n := st.n) (nx0 := st.nx) (H0 := st.H) (C0 := C) (df := a.defers) (Q' := Q .normal) hr b1 b2 (fun T H nx C' a' w' hq hs' hS hdf => ⟨.normal, _, C', rfl, hq, hs', hS, rfl, .of_eq hdf⟩) ops.size (Array.replicate ops.size false) st.tm perm.length [] perm st.tm st.H st.nx C a _ ?_ ?_ hs' (Stp.refl _ _ _) rfl h0 h)
  · refine ⟨by simp, fun i o _ hl => (by rw [hfalse] at hl; cases hl), fun i _ => hfalse i, fun i hi => .inr ?_, fun p hp => (by cases hp), fun p hp => (by cases hp), hp3, fun i hi => (by have := List.all_eq_true.1 hp2 i hi; simpa using this), fun i hi => (by cases hi), fun t _ => rfl, fun p hp => (by cases hp)⟩
    have := List.all_eq_true.1 hp1 i (List.mem_range.2 hi)
    simpa using this
  · have : ((List.range ops.size).filter fun i => !(Array.replicate ops.size false).getD i false) = List.range ops.size := by
      rw [List.filter_eq_self]
      intro i _
      rw [hfalse]; rfl
    rw [this, List.length_range]
theorem ActStep.walk {i : Nat} {o : Oper} {st : ASt} {N : ASt → Prop} (ho : ops[i]? = some o) (he : acts.contains i = true) (h : OpsL P W0 ops [o] st fun s => K s.nx s.H ∧ N s) : ActStep P W0 ops acts K i st N := by
  obtain ⟨hd, h⟩ := h
  refine ⟨o, ho, hd, he, ?_⟩
  rcases h with ⟨hw, h⟩ | ⟨hw, ⟨v, e, hop, h⟩ | ⟨f, args, R, hc, hf, hcall, h⟩⟩
  · exact .inl ⟨hw, h.2⟩
  · exact .inr ⟨hw, .inl ⟨v, e, hop, h.1, h.2⟩⟩
  · exact .inr ⟨hw, .inr ⟨f, args, R, hc, hf, hcall, fun v nx' H' hr => h v nx' H' hr⟩⟩
end
end Go.Am
namespace Go.Am
open Go.RowKit Go.ChangeShapes Go.WideShapes Go.ChangeAt
section
variable {H : Type} {enc : TypeId × Value → H} {P : Program} {W W' : World}
theorem trodAll_stays (hl : laidOutB P = true) (hb : BelD W.heap.size W W') : ∀ (ts : List TypeId) (vs : List Value) (ds : List (DataW H)) (ps : List MemPlace), (ts.all fun t => P.readableRec t && decide (t < P.types.size)) = true →
    DataW.TrodAll enc P W 0 (fun _ => true) true ts vs ds ps → (∀ x ∈ ps, x.block < W.heap.size) → DataW.TrodAll enc P W' 0 (fun b => decide (b < W.heap.size)) true ts vs ds ps := by
  intro ts
  induction ts with
  | nil =>
    intro vs ds ps _ h _
    cases vs <;> cases ds <;> first | exact h | exact h.elim
  | cons t ts ih =>
    intro vs ds ps hr h hlt
    simp only [List.all_cons, Bool.and_eq_true, decide_eq_true_eq] at hr
    obtain ⟨v, vs', d, ds', p, q, rfl, rfl, rfl, h0, h1⟩ := trodAll_cons h
    exact trodAll_cons_mk (Below.trod hl hr.1.1 hr.1.2 h0 hb.toB (fun x hx => hlt x (List.mem_append.2 (.inl hx)))) (ih vs' ds' q hr.2 h1 (fun x hx => hlt x (List.mem_append.2 (.inr hx))))
theorem law_post {f : Func} {s : ChangeSpec} {t : TypeId} {args : Array Value} {ds gs : List (DataW H)} {before : List MemPlace} (hl : laidOutB P = true) (hr : (f.params.toList.all fun t => P.readableRec t && decide (t < P.types.size)) = true)
    (hrt : f.resultTypes = #[t]) (ht : P.underlying t = some .bool) (hvars : s.vars = []) (hW : DataW.Whole enc P f.params.toList s.vars false W args.toList ds gs before)
    (hspec : s.fn H (ds ++ gs) = { results := [.lit (.bool true)], args := ds }) (hb : BelD W.heap.size W W') : s.post enc P f false true false false W args (.bool true) W' := by
  have hW' := hW
  obtain ⟨p, q, hA, hV, rfl, _, _⟩ := hW
  have hlt : ∀ x ∈ p, x.block < W.heap.size := fun x hx => hW'.lt x (List.mem_append.2 (.inl hx))
  rw [hvars] at hV
  obtain ⟨rfl, rfl⟩ := trodVars_none hV
  refine ⟨ds, [], _, [], p, [], hW', ?_, ?_, ?_, hb.toB.frame _, fun h => by cases h⟩
  · rw [hspec, hrt]
    exact trodAll_mk1 (shut_bool ht _)
  · rw [hspec]
    exact trodAll_stays hl hb _ _ _ _ hr hA hlt
  · rw [hspec, hvars]; rfl
end
end Go.Am
namespace Go.Am
open Go.RowKit Go.ChangeShapes Go.WideShapes Go.ChangeAt
inductive Arg where
  | plain (v : Value)
  | ints (k : IntKind) (xs : List Int)
def NumsAt (H : Heap) (k : IntKind) (v : Value) (xs : List Int) : Prop :=
  (∃ c, v = .slice none 0 c ∧ xs = []) ∨ ∃ a c, v = .slice (some a) xs.length c ∧ ∀ (i : Nat) (h : i < xs.length), cellAt H ⟨a.block, a.off + i, a.spot⟩ (.int k xs[i])
def RowIn (H : Heap) (v : Value) : Prop := v = .slice none 0 0 ∨ ∃ k n c cs, v = .slice (some ⟨k, 0, none⟩) n c ∧ H k = some (.cells cs 1 none true none) ∧ cs.length = c ∧ n ≤ c
def Arg.came (W : World) : Arg → Value → Prop
  | .plain u, v => v = u ∧ plain1 u = true
  | .ints k xs, v => (v = .slice none 0 0 ∧ xs = []) ∨ ∃ (b off len cap : Nat) (zs : List Int) (Cc : Array Value) (el : TypeId) (fr : Nat × Nat), v = .slice (some ⟨b, off, none⟩) len cap ∧ len ≤ cap ∧ zs.length = cap ∧ xs = zs.take len ∧
      W.heap[b]? = some (.cells Cc el fr) ∧ off + cap ≤ Cc.size ∧ ∀ i, i < cap → Cc[off + i]? = some (.int k (zs.getD i 0))
def Arg.at (H : Heap) : Arg → Value → Prop
  | .plain u, v => v = u
  | .ints k xs, v => NumsAt H k v xs ∧ RowIn H v
def All2 {α β : Type} (R : α → β → Prop) : List α → List β → Prop
  | [], [] => True
  | a :: l, b :: l' => R a b ∧ All2 R l l'
  | _, _ => False
theorem All2.cons {α β : Type} {R : α → β → Prop} {a : α} {l : List α} {us : List β} (h : All2 R (a :: l) us) : ∃ b us', us = b :: us' ∧ R a b ∧ All2 R l us' := by
  cases us with
  | nil => exact h.elim
  | cons b us => exact ⟨b, us, rfl, h.1, h.2⟩
theorem All2.nil {α β : Type} {R : α → β → Prop} {us : List β} (h : All2 R [] us) : us = [] := by
  cases us with
  | nil => rfl
  | cons b us => exact h.elim
section
variable {P : Program} {W0 : World} {C : Corr} {nx : Nat} {H : Heap} {w : World}
theorem Rel.read (h : Rel W0 C nx H w) (hpn : ∀ k, C.pin k = none) (hro : ∀ id o, H id = some o → o.ro = true) {c : List Value} {b off : Nat} {Cc : Array Value} {el : TypeId} {fr : Nat × Nat} (hw : w.heap[b]? = some (.cells Cc el fr)) (hle : off + c.length ≤ Cc.size)
    (hp : c.all plain1 = true) (hc : ∀ i, i < c.length → Cc[off + i]? = c[i]?) :
    Rel W0 (C.put nx (b, off) Cc.size) (nx + 1) (H.put nx (.cells c 1 none true none)) w ∧ Stp nx H C (nx + 1) (H.put nx (.cells c 1 none true none)) (C.put nx (b, off) Cc.size) := by
  have hst : Stp nx H C (nx + 1) (H.put nx (.cells c 1 none true none)) (C.put nx (b, off) Cc.size) := ⟨⟨by omega, fun id o' hid ho' ht => by
    have : id ≠ nx := by omega
    simp only [Heap.put, this, if_false] at ho'
    exact ⟨o', ho', rfl, rfl, by simp [Corr.put, this], by simp [Corr.put, this]⟩⟩, fun _ _ x => x, fun id hid hl => by
    have : id ≠ nx := by omega
    simp only [Heap.put, this, if_false]
    exact ⟨hl, by simp [Corr.put, this]⟩⟩
  have hro' : ∀ id o, (H.put nx (.cells c 1 none true none)) id = some o → o.ro = true := by
    intro id o ho
    by_cases e : id = nx
    · simp only [Heap.put, e, if_true, Option.some.injEq] at ho; subst ho; rfl
    · simp only [Heap.put, e, if_false] at ho; exact hro id o ho
  refine ⟨⟨h.below, ?_, ?_, ?_, ?_, h.pin, Nat.le_succ_of_le h.base, fun g og hg hog => ?_, fun _ _ _ => hpn _⟩, hst⟩
  · intro id o' ho'
    by_cases e : id = nx
    · subst e
      simp only [Heap.put, if_true, Option.some.injEq] at ho'
      subst ho'
      exact ⟨by omega, fun t ht => by cases ht⟩
    · simp only [Heap.put, e, if_false] at ho'
      obtain ⟨a, b⟩ := h.lt id o' ho'
      exact ⟨by omega, fun t ht => by have := b t ht; omega⟩
  · intro id o' ho'
    by_cases e : id = nx
    · subst e
      simp only [Heap.put, if_true, Option.some.injEq] at ho'
      subst ho'
      refine ⟨Cc, el, fr, by simpa [Corr.put] using hw, by simp [Corr.put], by simpa [Corr.put] using hle, ?_, ⟨fun hh => (by cases hh), fun t ht => (by cases ht), fun hh => (by cases hh), fun hh => (by cases hh)⟩⟩
      intro i hi hi'
      simp only [Corr.put, if_true] at hi' ⊢
      have := hc i hi
      rw [Array.getElem?_eq_getElem hi', List.getElem?_eq_getElem hi, Option.some.injEq] at this
      rw [this]
      exact plain1_VR (List.all_eq_true.1 hp _ (List.getElem_mem hi))
    · simp only [Heap.put, e, if_false] at ho'
      exact (h.obj id o' ho').mono hst (by simp [Corr.put, e]) (by simp [Corr.put, e]) rfl
  · intro id o' ho' hh
    rw [hro' id o' ho'] at hh; cases hh
  · intro i j oi oj hi _ _ hh
    rw [hro' i oi hi] at hh; cases hh
  · have e : g ≠ nx := by have := h.base; omega
    simp only [Heap.put, e, if_false] at hog
    simpa [Corr.put, e] using h.glob g og hg hog
theorem NumsAt.mono {H' : Heap} {k : IntKind} {v : Value} {xs : List Int} (hh : ∀ id o, H id = some o → H' id = some o) (h : NumsAt H k v xs) : NumsAt H' k v xs := by
  rcases h with h | ⟨a, c, rfl, h⟩
  · exact .inl h
  · refine .inr ⟨a, c, rfl, fun i hi => ?_⟩
    have h1 := h i hi
    obtain ⟨o, ho⟩ := getc_some h1
    unfold cellAt getc at *
    rw [hh _ _ ho]
    rw [ho] at h1
    exact h1
theorem Arg.at_mono {H' : Heap} (hh : ∀ id o, H id = some o → H' id = some o) : ∀ {a : Arg} {v : Value}, a.at H v → a.at H' v := by
  intro a v h
  cases a with
  | plain u => exact h
  | ints k xs =>
    refine ⟨h.1.mono hh, ?_⟩
    rcases h.2 with h | ⟨k, n, c, cs, h1, h2, h3⟩
    · exact .inl h
    · exact .inr ⟨k, n, c, cs, h1, hh _ _ h2, h3⟩
theorem All2.at_mono {H' : Heap} (hh : ∀ id o, H id = some o → H' id = some o) : ∀ {aas : List Arg} {vs : List Value}, All2 (Arg.at H) aas vs → All2 (Arg.at H') aas vs := by
  intro aas
  induction aas with
  | nil => intro vs h; cases vs <;> first | trivial | exact h.elim
  | cons a aas ih =>
    intro vs h
    cases vs with
    | nil => exact h.elim
    | cons v vs => exact ⟨Arg.at_mono hh h.1, ih h.2⟩
theorem start {T : Tables} (W : World) (hT : Tabs T W) : ∀ (aas : List Arg) (vs : List Value), All2 (Arg.came W) aas vs → ∃ nx H C us, Rel W C nx H W ∧ VRs nx H C us vs ∧ All2 (Arg.at H) aas us ∧ (∀ id o, H id = some o → o.ro = true) ∧ (∀ k, C.pin k = none) ∧ ∀ g o, (tabTree T).get g = some o → H g = some o := by
  intro aas
  induction aas with
  | nil =>
    intro vs h
    cases vs with
    | nil => exact ⟨NG, (tabTree T).get, Corr.tab W, [], Rel.tabs hT (BelD.refl _ _), VRs.nil, trivial, fun _ _ h => (by obtain ⟨c, _, rfl⟩ := tabTree_get h; rfl), fun _ => rfl, fun _ _ h => h⟩
    | cons => exact h.elim
  | cons a aas ih =>
    intro vs h
    cases vs with
    | nil => exact h.elim
    | cons v vs =>
      obtain ⟨nx, H, C, us, hR, hV, hA, hro, hpn, htb⟩ := ih vs h.2
      have hlt := fun id o (ho : H id = some o) => (hR.lt id o ho).1
      have h1 := h.1
      cases a with
      | plain u =>
        obtain ⟨rfl, hp⟩ := h1
        exact ⟨nx, H, C, v :: us, hR, VRs.cons (plain1_VR hp) hV, ⟨rfl, hA⟩, hro, hpn, htb⟩
      | ints k xs =>
        rcases h1 with ⟨rfl, rfl⟩ | ⟨b, off, len, cap, zs, Cc, el, fr, rfl, hlc, hz, rfl, hw, hle, hc⟩
        · exact ⟨nx, H, C, .slice none 0 0 :: us, hR, VRs.cons (.nils _ _) hV, ⟨⟨.inl ⟨0, rfl, rfl⟩, .inl rfl⟩, hA⟩, hro, hpn, htb⟩
        · obtain ⟨hR', hS⟩ := hR.read hpn hro (c := zs.map (.int k ·)) hw (by simpa [hz] using hle) (by simp [plain1]) (fun i hi => by
            simp only [List.length_map, hz] at hi
            rw [hc i hi, List.getElem?_map, List.getElem?_eq_getElem (by omega)]
            simp [List.getD_eq_getElem?_getD, List.getElem?_eq_getElem (show i < zs.length by omega)])
          have hext : ∀ id o, H id = some o → (H.put nx (.cells (zs.map (.int k ·)) 1 none true none)) id = some o := fun id o ho => by
            have : id ≠ nx := by have := hlt id o ho; omega
            simp only [Heap.put, this, if_false]; exact ho
          refine ⟨nx + 1, _, _, .slice (some ⟨nx, 0, none⟩) len cap :: us, hR', VRs.cons ?_ (hV.mono hS), ⟨⟨.inr ⟨⟨nx, 0, none⟩, cap, by simp [hz]; omega, ?_⟩, .inr ⟨nx, len, cap, zs.map (.int k ·), rfl, by simp [Heap.put], by simpa using hz, hlc⟩⟩, hA.at_mono hext⟩, ?_, hpn, fun g o hg => hext g o (htb g o hg)⟩
          · exact .slc _ _ _ _ _ ⟨by simp, by simp⟩ (fun o ho _ => ⟨by simp [Corr.at, Corr.put], by simp [capOk]⟩)
          · intro i hi
            simp only [List.length_take, hz] at hi
            have hi' : i < zs.length := by omega
            simp [cellAt, getc, Heap.put, hi', List.getElem_take]
            refine ⟨by omega, ?_⟩
            rw [← List.map_drop, ← List.map_take, List.take_one, List.head?_drop, List.getElem?_eq_getElem hi']
            rfl
          · intro id o ho
            by_cases e : id = nx
            · simp only [Heap.put, e, if_true, Option.some.injEq] at ho; subst ho; rfl
            · simp only [Heap.put, e, if_false] at ho; exact hro id o ho
theorem law_callsT {T : Tables} {f : FuncId} {ars : List Arg} {vs : List Value} {W : World} (hT : Tabs T W) (hc : All2 (Arg.came W) ars vs)
    (h : ∀ nx H us, All2 (Arg.at H) ars us → (∀ id o, H id = some o → id < nx) → (∀ g o, (tabTree T).get g = some o → H g = some o) → ACalls P W f us nx H fun v _ _ => v = .bool true) :
    Calls P f vs.toArray W fun e w' => e = .returned (.bool true) ∧ BelD W.heap.size W w' := by
  obtain ⟨nx, H, C, us, hR, hV, hA, _, _, htb⟩ := start W hT ars vs hc
  refine (h nx H us hA (fun id o ho => (hR.lt id o ho).1) htb C W vs hR hV).mono ?_
  rintro e w' ⟨v, v', C', nx', H', rfl, rfl, hR', hv, _⟩
  cases hv
  exact ⟨rfl, hR'.below⟩
theorem law_calls {f : FuncId} {ars : List Arg} {vs : List Value} {W : World} (hc : All2 (Arg.came W) ars vs) (h : ∀ nx H us, All2 (Arg.at H) ars us → (∀ id o, H id = some o → id < nx) → ACalls P W f us nx H fun v _ _ => v = .bool true) :
    Calls P f vs.toArray W fun e w' => e = .returned (.bool true) ∧ BelD W.heap.size W w' :=
  law_callsT Tabs.nil hc fun nx H us h1 h2 _ => h nx H us h1 h2
theorem rowAt_le {fits : TypeId → Bool} : ∀ (d : Nat) (e : TypeId) (count off n : Nat), rowAt P fits d e count off n = true → P.cellsOf e ≠ 0 ∧ off ≤ count * P.cellsOf e := by
  intro d
  cases d with
  | zero => intro e count off n h; cases h
  | succ d =>
    intro e count off n h
    simp only [rowAt] at h
    split at h
    · cases h
    · rename_i hs
      refine ⟨hs, ?_⟩
      have hd := Nat.div_add_mod off (P.cellsOf e)
      simp only [Bool.or_eq_true, Bool.and_eq_true, beq_iff_eq, decide_eq_true_eq] at h
      rcases h with ⟨⟨h1, h2⟩, _⟩ | ⟨h1, _⟩
      · have := Nat.mul_le_mul_right (P.cellsOf e) (show off / P.cellsOf e ≤ count by omega)
        rw [h1, Nat.mul_comm] at hd
        omega
      · have := Nat.mul_le_mul_right (P.cellsOf e) (show off / P.cellsOf e + 1 ≤ count by omega)
        have hm := Nat.mod_lt off (Nat.pos_of_ne_zero hs)
        rw [Nat.add_mul, Nat.mul_comm (off / _)] at this
        omega
theorem liesAt_le : ∀ (d : Nat) (e : TypeId) (count off : Nat) (u : TypeId) (n : Nat), liesAt P d e count off u n = true → off ≤ count * P.cellsOf e := by
  intro d
  induction d with
  | zero => intro e count off u n h; cases h
  | succ d ih =>
    intro e count off u n h
    simp only [liesAt, Bool.or_eq_true] at h
    rcases h with h | h
    · exact (rowAt_le _ _ _ _ _ h).2
    · split at h
      · exact ih _ _ _ _ _ h
      · cases h
variable {E : Type} {enc : TypeId × Value → E} {W : World}
theorem came_ints {t e : TypeId} {k : IntKind} {r : Reach} {b0 : Nat} {v : Value} {d : DataW E} {ps : List MemPlace} (ht : P.underlying t = some (.slice e)) (he : P.underlying e = some (.int k)) (hc : P.cellsOf e = 1)
    (hval : Value.okWide P W r b0 t v) (h : DataW.Trod enc P W 0 (fun _ => true) true t v d ps) : ∃ xs, Arg.came W (.ints k xs) v ∧ ∀ x ∈ xs, (Lit.int k x).wf = true := by
  obtain ⟨a0, len0, cap0, rfl⟩ := okWide_slice ht hval
  obtain ⟨fuel, hf⟩ := h
  simp only [Value.okWide, ht, Cell.okWide] at hval
  rcases open_ints ht he hc hf with ⟨h1, _⟩ | ⟨a, len, cap, zs, h1, _, hle, hmax, hz, hx, hcell, hwf⟩
  · simp [Value.cells] at h1
    obtain ⟨rfl, rfl, rfl⟩ := h1
    exact ⟨[], .inl ⟨rfl, rfl⟩, fun x hx => by cases hx⟩
  · simp [Value.cells] at h1
    obtain ⟨rfl, rfl, rfl⟩ := h1
    simp only [if_true] at hz
    have hok : len0 ≤ cap0 ∧ (cap0 : Int) ≤ IntKind.i64.max ∧ W.has P r b0 a e cap0 := by
      simpa [Cell.ok, ht] using hval
    obtain ⟨_, _, _, hsp, row, cells, hsh, hlies⟩ := hok
    obtain ⟨b, off, sp⟩ := a
    simp only at hsp
    subst hsp
    simp only [World.shape?] at hsh
    split at hsh
    case h_2 => cases hsh
    rename_i Cc el fr hw
    simp only [Option.some.injEq, Prod.mk.injEq] at hsh
    obtain ⟨rfl, rfl⟩ := hsh
    have hoff : off ≤ Cc.size := by
      have h1 := liesAt_le _ _ _ _ _ _ hlies
      have h2 := Nat.div_mul_le_self Cc.size (P.cellsOf el)
      exact Nat.le_trans h1 h2
    have hcells : ∀ i, i < cap0 → Cc[off + i]? = some (.int k (zs.getD i 0)) := fun i hi => by
      have := hcell i (by omega)
      simpa [add_none, World.cell?, hw] using this
    have hle2 : off + cap0 ≤ Cc.size := by
      rcases Nat.eq_zero_or_pos cap0 with h0 | h0
      · omega
      · have := hcells (cap0 - 1) (by omega)
        have := (Array.getElem?_eq_some_iff.1 this).1
        omega
    exact ⟨zs.take len0, .inr ⟨b, off, len0, cap0, zs, Cc, el, fr, rfl, hle, hz, rfl, hw, hle2, hcells⟩, fun x hx => hwf x (List.mem_of_mem_take hx)⟩
end
end Go.Am
namespace Go.Am
open Go.RowKit
theorem Ext.newPut {nx : Nat} {H : Heap} {o : AObj} : Ext nx H (nx + 1) (H.put nx o) := (Ext.refl.up (Nat.le_succ _)).put (Nat.le_refl _)
theorem ok_new {H : Heap} {nx : Nat} {o : AObj} (hok : ∀ id o, H id = some o → id < nx) : ∀ id o', (H.put nx o) id = some o' → id < nx + 1 := fun id o' h => by
  by_cases hi : id = nx
  · omega
  · rw [Heap.put_ne hi] at h
    have := hok id o' h
    omega
def RowsAt {α : Type} (enc : α → List Value) (sz : Nat) (H : Heap) (v : Value) (l : List α) : Prop :=
  (∃ c, v = .slice none 0 c ∧ l = []) ∨ ∃ a c, v = .slice (some a) l.length c ∧ ∀ (i : Nat) (h : i < l.length), getc H ⟨a.block, a.off + i * sz, a.spot⟩ sz = some (enc l[i])
section
variable {α : Type} {enc : α → List Value} {sz : Nat} {H H' : Heap} {nx nx' : Nat} {v : Value} {l : List α}
theorem RowsAt.slice (h : RowsAt enc sz H v l) : ∃ a c, v = .slice a l.length c := by
  rcases h with ⟨c, rfl, rfl⟩ | ⟨a, c, rfl, _⟩
  · exact ⟨none, c, rfl⟩
  · exact ⟨some a, c, rfl⟩
theorem rows_src (hk : ∀ x, (enc x).length = sz) (h0 : 0 < sz) (h : RowsAt enc sz H v l) : source H sz v none = some (l.length, l.flatMap enc) := by
  rcases h with ⟨c, rfl, rfl⟩ | ⟨a, c, rfl, hs⟩
  · rfl
  · by_cases hl : l.length = 0
    · have : l = [] := List.eq_nil_of_length_eq_zero hl
      subst this
      show (if 0 * sz = 0 then some (0, []) else _) = _
      rw [if_pos (by omega)]
      rfl
    · have key : ∀ m (hm : m ≤ l.length), getc H a (m * sz) = some ((l.take m).flatMap enc) := by
        intro m
        induction m with
        | zero =>
          intro _
          have h1 := hs 0 (by omega)
          unfold getc at h1 ⊢
          split at h1
          · rename_i c' e t r q ho
            simp only [ho]
            split at h1
            · rename_i hc
              simp only [Nat.zero_mul, Nat.add_zero] at hc ⊢
              rw [if_pos ⟨hc.1, by omega⟩]
              rfl
            · cases h1
          all_goals cases h1
        | succ m ih =>
          intro hm
          have h1 := hs m (by omega)
          have h2 := ih (by omega)
          unfold getc at h1 h2 ⊢
          split at h1
          · rename_i c' e t r q ho
            simp only [ho] at h2 ⊢
            split at h1
            · rename_i hc
              split at h2
              · rw [if_pos ⟨hc.1, by have := hc.2; simp only at this; rw [Nat.add_mul]; omega⟩]
                simp only [Option.some.injEq] at h1 h2 ⊢
                rw [Nat.add_mul, Nat.one_mul, List.take_add, h2, List.drop_drop, h1, List.take_add_one (l := l) (i := m), List.getElem?_eq_getElem (by omega : m < l.length)]
                show _ = (l.take m ++ [l[m]]).flatMap enc
                rw [List.flatMap_append]
                simp
              · cases h2
            · cases h1
          all_goals cases h1
      show (if l.length * sz = 0 then some (l.length, []) else (getc H a (l.length * sz)).map (l.length, ·)) = _
      have : l.length * sz ≠ 0 := Nat.mul_ne_zero hl (by omega)
      rw [if_neg this, key l.length (Nat.le_refl _), List.take_length]
      rfl
theorem flat_len (hk : ∀ x, (enc x).length = sz) (l : List α) : (l.flatMap enc).length = l.length * sz := by
  induction l with
  | nil => simp
  | cons x l ih => simp only [List.flatMap_cons, List.length_append, hk, ih, List.length_cons, Nat.add_mul]; omega
theorem flat_at (hk : ∀ x, (enc x).length = sz) : ∀ (l : List α) (i : Nat) (h : i < l.length), ((l.flatMap enc).drop (i * sz)).take sz = enc l[i] := by
  intro l
  induction l with
  | nil => intro i h; simp at h
  | cons x l ih =>
    intro i h
    cases i with
    | zero => simp [← hk x]
    | succ i =>
      rw [List.flatMap_cons, Nat.add_mul, Nat.one_mul, Nat.add_comm, ← List.drop_drop, List.drop_append_of_le_length (by rw [hk]; exact Nat.le_refl _)]
      rw [show (enc x).drop sz = [] by rw [List.drop_eq_nil_of_le]; rw [hk]; exact Nat.le_refl _]
      simpa using ih i (by simpa using h)
def OwnOf (enc : α → List Value) (sz : Nat) (el : TypeId) (H : Heap) (ob : Option (Nat × Nat)) (v : Value) (l : List α) : Prop := OwnRow H ob el sz v (l.flatMap enc) l.length
theorem OwnOf.at (hk : ∀ x, (enc x).length = sz) {el : TypeId} {ob : Option (Nat × Nat)} (h : OwnOf enc sz el H ob v l) : RowsAt enc sz H v l := by
  cases ob with
  | none =>
    obtain ⟨rfl, _, h2⟩ := h
    exact .inl ⟨0, rfl, List.eq_nil_of_length_eq_zero h2⟩
  | some bt =>
    obtain ⟨b, t⟩ := bt
    obtain ⟨rfl, _, rest, ho⟩ := h
    refine .inr ⟨⟨b, 0, some t⟩, l.length, rfl, fun i hi => ?_⟩
    have hfl := flat_len hk l
    have : (i + 1) * sz ≤ l.length * sz := Nat.mul_le_mul_right sz hi
    rw [Nat.add_mul, Nat.one_mul] at this
    unfold getc
    simp only [ho, Nat.zero_add]
    rw [if_pos ⟨trivial, by rw [List.length_append, hfl]; omega⟩, List.drop_append_of_le_length (by rw [hfl]; omega), List.take_append_of_le_length (by rw [List.length_drop, hfl]; omega), flat_at hk l i hi]
end
structure AppO {α : Type} (enc : α → List Value) (sz : Nat) (el : TypeId) (nx : Nat) (H : Heap) (ob : Option (Nat × Nat)) (l : List α) (v' : Value) (nx' : Nat) (H' : Heap) (ob' : Option (Nat × Nat)) : Prop where
  own : OwnOf enc sz el H' ob' v' l
  blk : ∀ b' t', ob' = some (b', t') → b' < nx' ∧ (b' = nx ∨ ∃ t, ob = some (b', t))
  le : nx ≤ nx'
  same : ∀ i, i < nx → (∀ b t, ob = some (b, t) → i ≠ b) → H' i = H i
  ok : (∀ b t, ob = some (b, t) → b < nx) → (∀ id o, H id = some o → id < nx) → ∀ id o, H' id = some o → id < nx'
section
variable {P : Program} {W0 : World} {H : Heap} {nx n : Nat} {ev : Operand → Option Value} {dst : Option Tmp} {type : TypeId} {pos : String} {after : Array Edge} {guard : Option (Nat × Bool)} {ops : Array Oper} {l : List Oper} {tm : Nat → Value} {QQ : ASt → Prop} {d : Tmp}
theorem OpsL.appendO {α : Type} {enc : α → List Value} {sz bytes : Nat} {z : List Value} {el st xt : TypeId} {ob : Option (Nat × Nat)} {v u : Value} {zs us : List α} {x y : Operand} (hk : ∀ x, (enc x).length = sz) (h1 : ∀ x, (enc x).all (·.oneCell') = true) (h0 : 0 < sz) (hd : d < n) (h : OwnOf enc sz el H ob v zs) (hu : RowsAt enc sz H u us) (hx : ASt.ev ⟨tm, n, H, nx⟩ x = some v) (hy : ASt.ev ⟨tm, n, H, nx⟩ y = some u) (hb : ∀ b t, ob = some (b, t) → b < nx)
    (hst : P.underlying st = some (.slice el)) (hxt : P.underlying xt = some (.slice el)) (hsz : szOf P el = some sz) (hby : bytesOfT P el = some bytes) (hz : zeroOf P el = some z) (hzl : z.length = sz) (hle : zs.length + us.length ≤ 1000000) (hbl : bytes ≤ 1000)
    (hc : ∀ v' nx' H' ob', AppO enc sz el nx H ob (zs ++ us) v' nx' H' ob' → OpsL P W0 ops l ⟨tmPut tm (some d) v', n, H', nx'⟩ QQ) :
    OpsL P W0 ops (⟨some d, .call ⟨.builtin .append, #[x, y], #[st, xt]⟩, type, pos, after, none⟩ :: l) ⟨tm, n, H, nx⟩ QQ := by
  have hsrc := rows_src hk h0 hu
  have hall : ∀ l : List α, (l.flatMap enc).all (·.oneCell') = true := fun l => by
    rw [List.all_eq_true]
    intro v hv
    obtain ⟨x, _, hx⟩ := List.mem_flatMap.1 hv
    exact List.all_eq_true.1 (h1 x) v hx
  have hm1 : (2 * (zs.length + us.length) + 192) * bytes ≤ 281474976710656 := by
    have : (2 * (zs.length + us.length) + 192) * bytes ≤ (2 * (zs.length + us.length) + 192) * 1000 := Nat.mul_le_mul_left _ hbl
    omega
  by_cases hl0 : us.length = 0
  · have : us = [] := List.eq_nil_of_length_eq_zero hl0
    subst this
    have hop : aop P H nx (ASt.ev ⟨tm, n, H, nx⟩) ⟨some d, .call ⟨.builtin .append, #[x, y], #[st, xt]⟩, type, pos, after, none⟩ = some (v, .none) := by
      cases ob with
      | none =>
        obtain ⟨rfl, _, hz0⟩ := h
        simp [aop, hx, hy, evAll, aBuiltin, aAppend, hst, hxt, hsz, hby, hz, hzl, hsrc, show notInt (.slice el) = true from rfl]
      | some bt =>
        obtain ⟨b, t⟩ := bt
        obtain ⟨rfl, hc', rest, ho⟩ := h
        simp [aop, hx, hy, evAll, aBuiltin, aAppend, hst, hxt, hsz, hby, hz, hzl, hsrc, ho, show notInt (.slice el) = true from rfl]
    refine OpsL.p hd hop (hc v nx H ob ⟨by rw [List.append_nil]; exact h, fun b' t' e => ⟨hb b' t' e, .inr ⟨t', e⟩⟩, Nat.le_refl _, fun _ _ _ => rfl, fun _ h => h⟩)
  · refine OpsL.append (sz := sz) (bytes := bytes) (k := zs.length) (m := us.length) (cs := zs.flatMap enc) (xs := us.flatMap enc) (ob := ob) (u := u) (xd := .slice el) (v := v) (el := el) (z := z) hd hx hy h hsrc (hall us) hl0 hst hxt rfl hsz hby hz hzl (by omega) hm1 ?_
    refine hc _ _ _ (some (blkOf nx ob, nx)) ⟨?_, ?_, Nat.le_succ _, ?_, ?_⟩
    · refine ⟨by rw [List.length_append], ?_, [], ?_⟩
      · rw [flat_len hk]
      · rw [Heap.put_eq, List.flatMap_append, List.append_nil]
    · intro b' t' e
      cases e
      cases ob with
      | none => exact ⟨Nat.lt_succ_self _, .inl rfl⟩
      | some bt => exact ⟨Nat.lt_succ_of_lt (hb bt.1 bt.2 rfl), .inr ⟨bt.2, rfl⟩⟩
    · intro i hi hib
      refine Heap.put_ne ?_
      cases ob with
      | none => simp only [blkOf]; omega
      | some bt => exact hib bt.1 bt.2 rfl
    · intro hb' hok id o ho
      by_cases e : id = blkOf nx ob
      · subst e
        cases ob with
        | none => exact Nat.lt_succ_self _
        | some bt => exact Nat.lt_succ_of_lt (hb' bt.1 bt.2 rfl)
      · rw [Heap.put_ne e] at ho
        exact Nat.lt_succ_of_lt (hok id o ho)
end
end Go.Am
namespace Go.Am
open Go.RowKit
section
variable {P : Program} {W0 : World} {H : Heap} {nx n : Nat} {ev : Operand → Option Value} {dst : Option Tmp} {type : TypeId} {pos : String} {after : Array Edge} {guard : Option (Nat × Bool)}
end
def RowE {α : Type} (enc : α → List Value) (sz : Nat) (el : TypeId) (H : Heap) (ob : Option (Nat × Nat)) (v : Value) (l : List α) : Prop :=
  OwnOf enc sz el H ob v l ∨ (ob = none ∧ l = [] ∧ ∃ b esz ro q, v = .slice (some ⟨b, 0, none⟩) 0 0 ∧ H b = some (.cells [] esz none ro q))
structure AppE {α : Type} (enc : α → List Value) (sz : Nat) (el : TypeId) (nx : Nat) (H : Heap) (ob : Option (Nat × Nat)) (l : List α) (v' : Value) (nx' : Nat) (H' : Heap) (ob' : Option (Nat × Nat)) : Prop where
  own : RowE enc sz el H' ob' v' l
  blk : ∀ b' t', ob' = some (b', t') → b' < nx' ∧ (b' = nx ∨ ∃ t, ob = some (b', t))
  le : nx ≤ nx'
  same : ∀ i, i < nx → (∀ b t, ob = some (b, t) → i ≠ b) → H' i = H i
  ok : (∀ b t, ob = some (b, t) → b < nx) → (∀ id o, H id = some o → id < nx) → ∀ id o, H' id = some o → id < nx'
attribute [local irreducible] aop OpsL Trip blockExit OpsD OpsK OpsR
section
variable {P : Program} {W0 : World} {H : Heap} {nx n : Nat} {type : TypeId} {pos : String} {after : Array Edge} {ops : Array Oper} {l : List Oper} {tm : Nat → Value} {QQ : ASt → Prop} {d : Tmp}
end
def encN (x : Int) : List Value := [.int .i64 x]
theorem encN_len (x : Int) : (encN x).length = 1 := rfl
theorem encN_one (x : Int) : (encN x).all (·.oneCell') = true := rfl
theorem rows_intsN {H : Heap} {v : Value} {l : List Int} (h : RowsAt encN 1 H v l) : IntsAt H v l := by
  rcases h with h | ⟨a, c, rfl, hc⟩
  · exact .inl h
  · exact .inr ⟨a, c, rfl, fun i hi => by have := hc i hi; simpa [cellAt, encN] using this⟩
section
variable {P : Program} {W0 : World} {H : Heap} {nx n : Nat} {ev : Operand → Option Value} {dst : Option Tmp} {type : TypeId} {pos : String} {after : Array Edge} {guard : Option (Nat × Bool)}
theorem aop_append_full {b k m sz bytes : Nat} {el : TypeId} {u : Value} {cs xs z : List Value} {q : Option TypeId} {ro : Bool} {esz : Nat} {x y : Operand} {st xt : TypeId} {xd : TypeDesc} (hx : ev x = some (.slice (some ⟨b, 0, none⟩) k k)) (hy : ev y = some u)
    (hH : H b = some (.cells cs esz none ro q)) (hc : cs.length = k * sz)
    (hs : source H sz u none = some (m, xs)) (h1 : xs.all (·.oneCell') = true) (hm : m ≠ 0) (hst : P.underlying st = some (.slice el)) (hxt : P.underlying xt = some xd) (hxd : notInt xd = true)
    (hsz : szOf P el = some sz) (hby : bytesOfT P el = some bytes) (hz : zeroOf P el = some z) (hzl : z.length = sz) (hle : k + m ≤ 1099511627776) (hle2 : (2 * (k + m) + 192) * bytes ≤ 281474976710656) :
    aop P H nx ev ⟨dst, .call ⟨.builtin .append, #[x, y], #[st, xt]⟩, type, pos, after, guard⟩ = some (.slice (some ⟨nx, 0, some nx⟩) (k + m) (k + m), .new (.cells (cs ++ xs) sz (some nx) false (some el))) := by
  have hg : getc H ⟨b, 0, none⟩ (k * sz) = some cs := by
    unfold getc
    simp only [hH]
    rw [if_pos ⟨trivial, by omega⟩]
    simp [← hc]
  simp [aop, hx, hy, evAll, aBuiltin, aAppend, hst, hxt, hsz, hby, hz, hxd, hzl, hs, hm, hH, hle, hle2, hg]
  rw [if_pos (by simpa using h1), if_neg (by omega : ¬ (k + m ≤ k))]
end
section
variable {P : Program} {W0 : World} {H : Heap} {nx n : Nat} {ops : Array Oper} {l : List Oper} {tm : Nat → Value} {QQ : ASt → Prop}
end
end Go.Am
namespace Go.Am
open Go.RowKit
theorem cell_of {H : Heap} {b e k : Nat} {cs : List Value} {tg : Option Nat} {ro : Bool} {q : Option TypeId} {v : Value} (hH : H b = some (.cells cs e tg ro q)) (h : cs[k]? = some v) : cellAt H ⟨b, k, tg⟩ v := by
  obtain ⟨hk, rfl⟩ := List.getElem?_eq_some_iff.1 h
  exact cellAt_own hH hk
theorem getc_all {H : Heap} {b e : Nat} {cs : List Value} {tg : Option Nat} {ro : Bool} {q : Option TypeId} {m : Nat} (hH : H b = some (.cells cs e tg ro q)) (h : cs.length = m) : getc H ⟨b, 0, tg⟩ m = some cs := by
  unfold getc
  simp only [hH]
  rw [if_pos ⟨trivial, by omega⟩]
  simp [← h]
theorem cell_ext {nx nx' : Nat} {H H' : Heap} {a : Addr} {v : Value} (h : Ext nx H nx' H') (hok : ∀ id o, H id = some o → id < nx) (hc : cellAt H a v) : cellAt H' a v := getc_ext h hok hc
def ListAt {α : Type} (R : Heap → Value → α → Prop) (H : Heap) (v : Value) (l : List α) : Prop :=
  (∃ c, v = .slice none 0 c ∧ l = []) ∨ ∃ a c, v = .slice (some a) l.length c ∧ ∀ (i : Nat) (h : i < l.length), ∃ u, cellAt H ⟨a.block, a.off + i, a.spot⟩ u ∧ R H u l[i]
section
variable {α : Type} {R : Heap → Value → α → Prop} {H H' : Heap} {nx nx' : Nat} {v : Value} {l : List α}
theorem ListAt.slice (h : ListAt R H v l) : ∃ a c, v = .slice a l.length c := by
  rcases h with ⟨c, rfl, rfl⟩ | ⟨a, c, rfl, _⟩
  · exact ⟨none, c, rfl⟩
  · exact ⟨some a, c, rfl⟩
theorem ListAt.atI {a : Option Addr} {c n : Nat} (h : ListAt R H (.slice a n c) l) (d : α) {j : Int} (h0 : 0 ≤ j) (h1 : j < l.length) : ∃ p u, a = some p ∧ cellAt H ⟨p.block, p.off + j.toNat * 1, p.spot⟩ u ∧ R H u (l.getD j.toNat d) := by
  have hj : j.toNat < l.length := by omega
  rcases h with ⟨c', h, rfl⟩ | ⟨p, c', h, hv⟩
  · simp at hj
  · cases h
    obtain ⟨u, h2, h3⟩ := hv j.toNat hj
    exact ⟨p, u, rfl, by simpa using h2, by rw [List.getD_eq_getElem?_getD, List.getElem?_eq_getElem hj]; exact h3⟩
theorem ListAt.ext (hR : ∀ u x, R H u x → R H' u x) (h : Ext nx H nx' H') (hok : ∀ id o, H id = some o → id < nx) (hl : ListAt R H v l) : ListAt R H' v l := by
  rcases hl with h1 | ⟨a, c, h1, hs⟩
  · exact .inl h1
  · refine .inr ⟨a, c, h1, fun i hi => ?_⟩
    obtain ⟨u, h2, h3⟩ := hs i hi
    exact ⟨u, cell_ext h hok h2, hR _ _ h3⟩
end
theorem IntsAt.atI {H : Heap} {a : Option Addr} {c n : Nat} {l : List Int} (h : IntsAt H (.slice a n c) l) {j : Int} (h0 : 0 ≤ j) (h1 : j < l.length) : ∃ p, a = some p ∧ cellAt H ⟨p.block, p.off + j.toNat * 1, p.spot⟩ (.int .i64 (l.getD j.toNat 0)) := by
  have hj : j.toNat < l.length := by omega
  obtain ⟨p, rfl, h2⟩ := h.get hj
  exact ⟨p, rfl, by rw [List.getD_eq_getElem?_getD, List.getElem?_eq_getElem hj]; simpa using h2⟩
def BoolsAt (H : Heap) (v : Value) (l : List Bool) : Prop := ListAt (fun _ u b => u = .bool b) H v l
def L2At (H : Heap) (v : Value) (l : List (List Int)) : Prop := ListAt IntsAt H v l
def L3At (H : Heap) (v : Value) (l : List (List (List Int))) : Prop := ListAt L2At H v l
section
variable {H H' : Heap} {nx nx' : Nat} {v : Value}
theorem BoolsAt.ext {l : List Bool} (h : Ext nx H nx' H') (hok : ∀ id o, H id = some o → id < nx) (hl : BoolsAt H v l) : BoolsAt H' v l := ListAt.ext (fun _ _ h => h) h hok hl
theorem L2At.ext {l : List (List Int)} (h : Ext nx H nx' H') (hok : ∀ id o, H id = some o → id < nx) (hl : L2At H v l) : L2At H' v l := ListAt.ext (fun _ _ q => q.ext h hok) h hok hl
theorem L3At.ext {l : List (List (List Int))} (h : Ext nx H nx' H') (hok : ∀ id o, H id = some o → id < nx) (hl : L3At H v l) : L3At H' v l := ListAt.ext (fun _ _ q => L2At.ext h hok q) h hok hl
theorem BoolsAt.slice {l : List Bool} (h : BoolsAt H v l) : ∃ a c, v = .slice a l.length c := ListAt.slice h
theorem L2At.slice {l : List (List Int)} (h : L2At H v l) : ∃ a c, v = .slice a l.length c := ListAt.slice h
theorem L3At.slice {l : List (List (List Int))} (h : L3At H v l) : ∃ a c, v = .slice a l.length c := ListAt.slice h
theorem L2At.atI {l : List (List Int)} {a : Option Addr} {c n : Nat} (h : L2At H (.slice a n c) l) {j : Int} (h0 : 0 ≤ j) (h1 : j < l.length) : ∃ p b k, a = some p ∧ cellAt H ⟨p.block, p.off + j.toNat * 1, p.spot⟩ (.slice b (l.getD j.toNat []).length k) ∧ IntsAt H (.slice b (l.getD j.toNat []).length k) (l.getD j.toNat []) := by
  obtain ⟨p, u, h2, h3, h4⟩ := ListAt.atI h [] h0 h1
  obtain ⟨b, k, rfl⟩ := h4.slice
  exact ⟨p, b, k, h2, h3, h4⟩
theorem L3At.atI {l : List (List (List Int))} {a : Option Addr} {c n : Nat} (h : L3At H (.slice a n c) l) {j : Int} (h0 : 0 ≤ j) (h1 : j < l.length) : ∃ p b k, a = some p ∧ cellAt H ⟨p.block, p.off + j.toNat * 1, p.spot⟩ (.slice b (l.getD j.toNat []).length k) ∧ L2At H (.slice b (l.getD j.toNat []).length k) (l.getD j.toNat []) := by
  obtain ⟨p, u, h2, h3, h4⟩ := ListAt.atI h [] h0 h1
  obtain ⟨b, k, rfl⟩ := L2At.slice h4
  exact ⟨p, b, k, h2, h3, h4⟩
end
structure Mo where
  plains : Int
  closings : Int
  of : List Int
  entry : List Int
  final : List Bool
  inn : List (List Int)
  low : List (List Int)
  ret : List (List (List Int))
structure MoV where
  o : Value
  e : Value
  f : Value
  i : Value
  l : Value
  r : Value
def moV (m : Mo) (V : MoV) : List Value := [.int .i64 m.plains, .int .i64 m.closings, V.o, V.e, V.f, V.i, V.l, V.r]
structure MoIn (H : Heap) (m : Mo) (V : MoV) : Prop where
  of : IntsAt H V.o m.of
  entry : IntsAt H V.e m.entry
  final : BoolsAt H V.f m.final
  inn : L2At H V.i m.inn
  low : L2At H V.l m.low
  ret : L3At H V.r m.ret
theorem MoIn.ext {nx nx' : Nat} {H H' : Heap} {m : Mo} {V : MoV} (h : Ext nx H nx' H') (hok : ∀ id o, H id = some o → id < nx) (hm : MoIn H m V) : MoIn H' m V :=
  ⟨hm.of.ext h hok, hm.entry.ext h hok, hm.final.ext h hok, hm.inn.ext h hok, hm.low.ext h hok, hm.ret.ext h hok⟩
structure MoLen (m : Mo) : Prop where
  of : m.of.length ≤ 100000
  entry : m.entry.length ≤ 100000
  final : m.final.length ≤ 100000
  inn : m.inn.length ≤ 100000
  low : m.low.length ≤ 100000
  ret : m.ret.length ≤ 100000
  inn1 : ∀ i, (m.inn.getD i []).length ≤ 100000
  low1 : ∀ i, (m.low.getD i []).length ≤ 100000
  ret1 : ∀ i, (m.ret.getD i []).length ≤ 100000
  ret2 : ∀ i j, ((m.ret.getD i []).getD j []).length ≤ 100000
def allN (n : Nat) (p : Nat → Bool) : Bool := (List.range n).all p
theorem allN_zero {p : Nat → Bool} : allN 0 p = true := rfl
theorem allN_succ {n : Nat} {p : Nat → Bool} : allN (n + 1) p = (allN n p && p n) := by
  unfold allN
  rw [List.range_succ, List.all_append]
  simp
theorem allN_put {n : Nat} {p : Nat → Bool} (h : allN n p = true) (hn : p n = true) : allN (n + 1) p = true := by rw [allN_succ, h, hn]; rfl
theorem allN_no {n i : Nat} {p : Nat → Bool} (h : i < n) (hi : p i = false) : allN n p = false := by
  rw [← Bool.not_eq_true]
  intro hh
  have := List.all_eq_true.1 hh i (List.mem_range.2 h)
  rw [hi] at this
  cases this
theorem allN_iff {n : Nat} {p : Nat → Bool} : allN n p = true ↔ ∀ i, i < n → p i = true := by
  unfold allN
  rw [List.all_eq_true]
  exact ⟨fun h i hi => h i (List.mem_range.2 hi), fun h i hi => h i (List.mem_range.1 hi)⟩
def inF (m : Mo) (p k : Int) : Bool := decide ((0 ≤ p ∧ p ≤ (m.of.length : Int) - 1) ∧ m.of.getD p.toNat 0 = k)
def areF (m : Mo) (l : List Int) (k : Int) : Bool := allN l.length fun i => inF m (l.getD i 0) k
def sizedF (m : Mo) : Bool := decide ((0 ≤ m.plains ∧ m.plains ≤ 20) ∧ (0 ≤ m.closings ∧ m.closings ≤ 20) ∧ (1 ≤ (m.of.length : Int) ∧ (m.of.length : Int) ≤ 60) ∧ (1 ≤ (m.entry.length : Int) ∧ (m.entry.length : Int) ≤ 21) ∧ (m.final.length : Int) = m.of.length ∧ (m.inn.length : Int) = m.of.length ∧ (m.low.length : Int) = m.of.length ∧ (m.ret.length : Int) = m.of.length)
def housedF (m : Mo) : Bool := allN m.of.length (fun i => decide (0 ≤ m.of.getD i 0 ∧ m.of.getD i 0 ≤ (m.entry.length : Int) - 1)) && allN m.entry.length (fun i => inF m (m.entry.getD i 0) i)
def plnF (m : Mo) (p : Nat) : Bool := decide (((m.inn.getD p []).length : Int) = m.plains) && areF m (m.inn.getD p []) (m.of.getD p 0)
def lowF (m : Mo) (p : Nat) : Bool := if m.of.getD p 0 = 0 then decide (((m.low.getD p []).length : Int) = m.closings) && areF m (m.low.getD p []) 0 else decide (((m.low.getD p []).length : Int) = 0)
def rowF (m : Mo) (l : List Int) : Bool := decide ((l.length : Int) = m.of.length) && allN l.length fun q => inF m (l.getD q 0) (m.of.getD q 0)
def retF (m : Mo) (p : Nat) : Bool := if m.of.getD p 0 = 0 then decide (((m.ret.getD p []).length : Int) = 0) else decide (((m.ret.getD p []).length : Int) = m.closings) && allN (m.ret.getD p []).length fun j => rowF m ((m.ret.getD p []).getD j [])
def stateF (m : Mo) (p : Nat) : Bool := plnF m p && lowF m p && retF m p
def modF (m : Mo) : Bool := sizedF m && housedF m && allN m.of.length (stateF m)
end Go.Am
namespace Go.Proofs.Ytooakbmehcchnaa
open Go.Am Go.RowKit
theorem mixed13 : Try.prog.follows .mixedOrders = true := by kernel_rfl
structure MoBox (G : Heap) (b : Nat) (m : Mo) (V : MoV) : Prop where
  all : getc G ⟨b, 0, none⟩ 8 = some (moV m V)
  c0 : cellAt G ⟨b, 0, none⟩ (.int .i64 m.plains)
  c1 : cellAt G ⟨b, 1, none⟩ (.int .i64 m.closings)
  c2 : cellAt G ⟨b, 2, none⟩ V.o
  c3 : cellAt G ⟨b, 3, none⟩ V.e
  c4 : cellAt G ⟨b, 4, none⟩ V.f
  c5 : cellAt G ⟨b, 5, none⟩ V.i
  c6 : cellAt G ⟨b, 6, none⟩ V.l
  c7 : cellAt G ⟨b, 7, none⟩ V.r
theorem MoBox.of {G : Heap} {b e : Nat} {m : Mo} {V : MoV} {ro : Bool} {q : Option TypeId} (h : G b = some (.cells (moV m V) e none ro q)) : MoBox G b m V :=
  ⟨getc_all h rfl, cell_of h rfl, cell_of h rfl, cell_of h rfl, cell_of h rfl, cell_of h rfl, cell_of h rfl, cell_of h rfl, cell_of h rfl⟩
theorem MoBox.ext {nx nx' : Nat} {G G' : Heap} {b : Nat} {m : Mo} {V : MoV} (h : Ext nx G nx' G') (hok : ∀ id o, G id = some o → id < nx) (hb : MoBox G b m V) : MoBox G' b m V :=
  ⟨getc_ext h hok hb.all, cell_ext h hok hb.c0, cell_ext h hok hb.c1, cell_ext h hok hb.c2, cell_ext h hok hb.c3, cell_ext h hok hb.c4, cell_ext h hok hb.c5, cell_ext h hok hb.c6, cell_ext h hok hb.c7⟩
section
attribute [local irreducible] aop OpsL Trip blockExit OpsD OpsK OpsR
variable {W0 : World} {H : Heap} {nx n : Nat} {ops : Array Oper} {l : List Oper} {tm : Nat → Value} {QQ : ASt → Prop} {d : Tmp} {type : TypeId} {pos : String} {after : Array Edge}
theorem OpsL.boxM {t : TypeId} {x : Operand} {m : Mo} {V : MoV} (hm : MoIn H m V) (hok : ∀ id o, H id = some o → id < nx)
    (h : ∀ G, Ext nx H (nx + 1) G → (∀ id o, G id = some o → id < nx + 1) → MoBox G nx m V → MoIn G m V → OpsL Try.prog W0 ops l ⟨tmPut tm (some d) (.pointer (some ⟨nx, 0, none⟩)), n, G, nx + 1⟩ QQ)
    (hx : ASt.ev ⟨tm, n, H, nx⟩ x = some (.agg (moV m V).toArray)) (hd : d < n) :
    OpsL Try.prog W0 ops (⟨some d, .box t x, type, pos, after, none⟩ :: l) ⟨tm, n, H, nx⟩ QQ := by
  refine OpsL.new hd (aop_box hx) ?_
  exact h _ Ext.newPut (ok_new hok) (MoBox.of (e := 0) (ro := false) (q := some t) (by rw [Heap.put_eq]; rfl)) (hm.ext Ext.newPut hok)
theorem OpsL.loadM {x : Operand} {b : Nat} {m : Mo} {V : MoV} (hb : MoBox H b m V)
    (h : OpsL Try.prog W0 ops l ⟨tmPut tm (some d) (.agg (moV m V).toArray), n, H, nx⟩ QQ)
    (hx : ASt.ev ⟨tm, n, H, nx⟩ x = some (.pointer (some ⟨b, 0, none⟩))) (hd : d < n) :
    OpsL Try.prog W0 ops (⟨some d, .load 28 x, type, pos, after, none⟩ :: l) ⟨tm, n, H, nx⟩ QQ :=
  OpsL.p hd (aop_loadAgg (k := 8) hx (by exact rfl) rfl (by exact rfl) hb.all) h
end
end Go.Proofs.Ytooakbmehcchnaa
