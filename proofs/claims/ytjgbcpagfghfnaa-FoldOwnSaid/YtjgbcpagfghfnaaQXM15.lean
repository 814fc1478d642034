import Derived.Test.YtjgbcpagfghfnaaQXM14
namespace Go.Am
open Go.RowKit
section
variable {P : Program} {W0 : World} {ops : Array Oper} {dst : Option Tmp} {op : Op} {guard : Option (Nat × Bool)} {ev : Operand → Option Value} {type : TypeId} {pos : String} {after : Array Edge} {l : List Oper} {tm : Nat → Value} {n nx : Nat} {H : Heap} {v w : Value} {QQ : ASt → Prop} {d : Tmp} {t u s e : TypeId} {x y z : Operand} {k k' : IntKind} {a b : Int}
theorem OpsL.q (hop : aop P H nx (ASt.ev ⟨tm, n, H, nx⟩) ⟨some d, op, type, pos, after, none⟩ = some (v, .none)) (h : OpsL P W0 ops l ⟨tmPut tm (some d) v, n, H, nx⟩ QQ) (hd : d < n := by first | decide | (refine Nat.lt_of_lt_of_eq ?_ (Eq.symm ‹_›); decide)) : OpsL P W0 ops (⟨some d, op, type, pos, after, none⟩ :: l) ⟨tm, n, H, nx⟩ QQ := OpsL.p hd hop h
theorem omv (hx : ev x = some v := by simp only [ASt.ev, tmPut, ↓reduceIte, Nat.reduceEqDiff, plain1, *]; first | done | rfl) : aop P H nx ev ⟨dst, .move x, type, pos, after, guard⟩ = some (v, .none) := aop_move hx
theorem oasg (hx : ev x = some v := by simp only [ASt.ev, tmPut, ↓reduceIte, Nat.reduceEqDiff, plain1, *]; first | done | rfl) : aop P H nx ev ⟨dst, .assign x, type, pos, after, guard⟩ = some (v, .none) := aop_assign hx
theorem olss (hx : ev x = some (.int k a) := by simp only [ASt.ev, tmPut, ↓reduceIte, Nat.reduceEqDiff, plain1, *]; first | done | rfl) (hy : ev y = some (.int k b) := by simp only [ASt.ev, tmPut, ↓reduceIte, Nat.reduceEqDiff, plain1, *]; first | done | rfl) : aop P H nx ev ⟨dst, .binOp .lss t x y u, type, pos, after, guard⟩ = some ((.bool (decide (a < b))), .none) := aop_lss hx hy
theorem OpsL.lssT (h : OpsL P W0 ops l ⟨tmPut tm (some d) (.bool true), n, H, nx⟩ QQ) (hd : d < n := by first | decide | (refine Nat.lt_of_lt_of_eq ?_ (Eq.symm ‹_›); decide)) (hx : ASt.ev ⟨tm, n, H, nx⟩ x = some (.int k a) := by simp only [ASt.ev, tmPut, ↓reduceIte, Nat.reduceEqDiff, plain1, *]; first | done | rfl) (hy : ASt.ev ⟨tm, n, H, nx⟩ y = some (.int k b) := by simp only [ASt.ev, tmPut, ↓reduceIte, Nat.reduceEqDiff, plain1, *]; first | done | rfl) (c : a < b := by omega) : OpsL P W0 ops (⟨some d, .binOp .lss t x y u, type, pos, after, none⟩ :: l) ⟨tm, n, H, nx⟩ QQ := OpsL.p hd (aop_lssT hx hy c) h
theorem OpsL.lssF (h : OpsL P W0 ops l ⟨tmPut tm (some d) (.bool false), n, H, nx⟩ QQ) (hd : d < n := by first | decide | (refine Nat.lt_of_lt_of_eq ?_ (Eq.symm ‹_›); decide)) (hx : ASt.ev ⟨tm, n, H, nx⟩ x = some (.int k a) := by simp only [ASt.ev, tmPut, ↓reduceIte, Nat.reduceEqDiff, plain1, *]; first | done | rfl) (hy : ASt.ev ⟨tm, n, H, nx⟩ y = some (.int k b) := by simp only [ASt.ev, tmPut, ↓reduceIte, Nat.reduceEqDiff, plain1, *]; first | done | rfl) (c : ¬ (a < b) := by omega) : OpsL P W0 ops (⟨some d, .binOp .lss t x y u, type, pos, after, none⟩ :: l) ⟨tm, n, H, nx⟩ QQ := OpsL.p hd (aop_lssF hx hy c) h
theorem oleq (hx : ev x = some (.int k a) := by simp only [ASt.ev, tmPut, ↓reduceIte, Nat.reduceEqDiff, plain1, *]; first | done | rfl) (hy : ev y = some (.int k b) := by simp only [ASt.ev, tmPut, ↓reduceIte, Nat.reduceEqDiff, plain1, *]; first | done | rfl) : aop P H nx ev ⟨dst, .binOp .leq t x y u, type, pos, after, guard⟩ = some ((.bool (decide (a ≤ b))), .none) := aop_leq hx hy
theorem ogtr (hx : ev x = some (.int k a) := by simp only [ASt.ev, tmPut, ↓reduceIte, Nat.reduceEqDiff, plain1, *]; first | done | rfl) (hy : ev y = some (.int k b) := by simp only [ASt.ev, tmPut, ↓reduceIte, Nat.reduceEqDiff, plain1, *]; first | done | rfl) : aop P H nx ev ⟨dst, .binOp .gtr t x y u, type, pos, after, guard⟩ = some ((.bool (decide (b < a))), .none) := aop_gtr hx hy
theorem OpsL.gtrT (h : OpsL P W0 ops l ⟨tmPut tm (some d) (.bool true), n, H, nx⟩ QQ) (hd : d < n := by first | decide | (refine Nat.lt_of_lt_of_eq ?_ (Eq.symm ‹_›); decide)) (hx : ASt.ev ⟨tm, n, H, nx⟩ x = some (.int k a) := by simp only [ASt.ev, tmPut, ↓reduceIte, Nat.reduceEqDiff, plain1, *]; first | done | rfl) (hy : ASt.ev ⟨tm, n, H, nx⟩ y = some (.int k b) := by simp only [ASt.ev, tmPut, ↓reduceIte, Nat.reduceEqDiff, plain1, *]; first | done | rfl) (c : b < a := by omega) : OpsL P W0 ops (⟨some d, .binOp .gtr t x y u, type, pos, after, none⟩ :: l) ⟨tm, n, H, nx⟩ QQ := OpsL.p hd (aop_gtrT hx hy c) h
theorem OpsL.gtrF (h : OpsL P W0 ops l ⟨tmPut tm (some d) (.bool false), n, H, nx⟩ QQ) (hd : d < n := by first | decide | (refine Nat.lt_of_lt_of_eq ?_ (Eq.symm ‹_›); decide)) (hx : ASt.ev ⟨tm, n, H, nx⟩ x = some (.int k a) := by simp only [ASt.ev, tmPut, ↓reduceIte, Nat.reduceEqDiff, plain1, *]; first | done | rfl) (hy : ASt.ev ⟨tm, n, H, nx⟩ y = some (.int k b) := by simp only [ASt.ev, tmPut, ↓reduceIte, Nat.reduceEqDiff, plain1, *]; first | done | rfl) (c : ¬ (b < a) := by omega) : OpsL P W0 ops (⟨some d, .binOp .gtr t x y u, type, pos, after, none⟩ :: l) ⟨tm, n, H, nx⟩ QQ := OpsL.p hd (aop_gtrF hx hy c) h
theorem ogeq (hx : ev x = some (.int k a) := by simp only [ASt.ev, tmPut, ↓reduceIte, Nat.reduceEqDiff, plain1, *]; first | done | rfl) (hy : ev y = some (.int k b) := by simp only [ASt.ev, tmPut, ↓reduceIte, Nat.reduceEqDiff, plain1, *]; first | done | rfl) : aop P H nx ev ⟨dst, .binOp .geq t x y u, type, pos, after, guard⟩ = some ((.bool (decide (b ≤ a))), .none) := aop_geq hx hy
theorem OpsL.geqT (h : OpsL P W0 ops l ⟨tmPut tm (some d) (.bool true), n, H, nx⟩ QQ) (hd : d < n := by first | decide | (refine Nat.lt_of_lt_of_eq ?_ (Eq.symm ‹_›); decide)) (hx : ASt.ev ⟨tm, n, H, nx⟩ x = some (.int k a) := by simp only [ASt.ev, tmPut, ↓reduceIte, Nat.reduceEqDiff, plain1, *]; first | done | rfl) (hy : ASt.ev ⟨tm, n, H, nx⟩ y = some (.int k b) := by simp only [ASt.ev, tmPut, ↓reduceIte, Nat.reduceEqDiff, plain1, *]; first | done | rfl) (c : b ≤ a := by omega) : OpsL P W0 ops (⟨some d, .binOp .geq t x y u, type, pos, after, none⟩ :: l) ⟨tm, n, H, nx⟩ QQ := OpsL.p hd (aop_geqT hx hy c) h
theorem OpsL.geqF (h : OpsL P W0 ops l ⟨tmPut tm (some d) (.bool false), n, H, nx⟩ QQ) (hd : d < n := by first | decide | (refine Nat.lt_of_lt_of_eq ?_ (Eq.symm ‹_›); decide)) (hx : ASt.ev ⟨tm, n, H, nx⟩ x = some (.int k a) := by simp only [ASt.ev, tmPut, ↓reduceIte, Nat.reduceEqDiff, plain1, *]; first | done | rfl) (hy : ASt.ev ⟨tm, n, H, nx⟩ y = some (.int k b) := by simp only [ASt.ev, tmPut, ↓reduceIte, Nat.reduceEqDiff, plain1, *]; first | done | rfl) (c : ¬ (b ≤ a) := by omega) : OpsL P W0 ops (⟨some d, .binOp .geq t x y u, type, pos, after, none⟩ :: l) ⟨tm, n, H, nx⟩ QQ := OpsL.p hd (aop_geqF hx hy c) h
theorem oeql (hx : ev x = some (.int k a) := by simp only [ASt.ev, tmPut, ↓reduceIte, Nat.reduceEqDiff, plain1, *]; first | done | rfl) (hy : ev y = some (.int k b) := by simp only [ASt.ev, tmPut, ↓reduceIte, Nat.reduceEqDiff, plain1, *]; first | done | rfl) : aop P H nx ev ⟨dst, .binOp .eql t x y u, type, pos, after, guard⟩ = some ((.bool (decide (a = b))), .none) := aop_eql hx hy
theorem OpsL.eqlT (h : OpsL P W0 ops l ⟨tmPut tm (some d) (.bool true), n, H, nx⟩ QQ) (hd : d < n := by first | decide | (refine Nat.lt_of_lt_of_eq ?_ (Eq.symm ‹_›); decide)) (hx : ASt.ev ⟨tm, n, H, nx⟩ x = some (.int k a) := by simp only [ASt.ev, tmPut, ↓reduceIte, Nat.reduceEqDiff, plain1, *]; first | done | rfl) (hy : ASt.ev ⟨tm, n, H, nx⟩ y = some (.int k b) := by simp only [ASt.ev, tmPut, ↓reduceIte, Nat.reduceEqDiff, plain1, *]; first | done | rfl) (c : a = b := by omega) : OpsL P W0 ops (⟨some d, .binOp .eql t x y u, type, pos, after, none⟩ :: l) ⟨tm, n, H, nx⟩ QQ := OpsL.p hd (aop_eqlT hx hy c) h
theorem OpsL.eqlF (h : OpsL P W0 ops l ⟨tmPut tm (some d) (.bool false), n, H, nx⟩ QQ) (hd : d < n := by first | decide | (refine Nat.lt_of_lt_of_eq ?_ (Eq.symm ‹_›); decide)) (hx : ASt.ev ⟨tm, n, H, nx⟩ x = some (.int k a) := by simp only [ASt.ev, tmPut, ↓reduceIte, Nat.reduceEqDiff, plain1, *]; first | done | rfl) (hy : ASt.ev ⟨tm, n, H, nx⟩ y = some (.int k b) := by simp only [ASt.ev, tmPut, ↓reduceIte, Nat.reduceEqDiff, plain1, *]; first | done | rfl) (c : ¬ (a = b) := by omega) : OpsL P W0 ops (⟨some d, .binOp .eql t x y u, type, pos, after, none⟩ :: l) ⟨tm, n, H, nx⟩ QQ := OpsL.p hd (aop_eqlF hx hy c) h
theorem OpsL.neqT (h : OpsL P W0 ops l ⟨tmPut tm (some d) (.bool true), n, H, nx⟩ QQ) (hd : d < n := by first | decide | (refine Nat.lt_of_lt_of_eq ?_ (Eq.symm ‹_›); decide)) (hx : ASt.ev ⟨tm, n, H, nx⟩ x = some (.int k a) := by simp only [ASt.ev, tmPut, ↓reduceIte, Nat.reduceEqDiff, plain1, *]; first | done | rfl) (hy : ASt.ev ⟨tm, n, H, nx⟩ y = some (.int k b) := by simp only [ASt.ev, tmPut, ↓reduceIte, Nat.reduceEqDiff, plain1, *]; first | done | rfl) (c : a ≠ b := by omega) : OpsL P W0 ops (⟨some d, .binOp .neq t x y u, type, pos, after, none⟩ :: l) ⟨tm, n, H, nx⟩ QQ := OpsL.p hd (aop_neqT hx hy c) h
theorem OpsL.neqF (h : OpsL P W0 ops l ⟨tmPut tm (some d) (.bool false), n, H, nx⟩ QQ) (hd : d < n := by first | decide | (refine Nat.lt_of_lt_of_eq ?_ (Eq.symm ‹_›); decide)) (hx : ASt.ev ⟨tm, n, H, nx⟩ x = some (.int k a) := by simp only [ASt.ev, tmPut, ↓reduceIte, Nat.reduceEqDiff, plain1, *]; first | done | rfl) (hy : ASt.ev ⟨tm, n, H, nx⟩ y = some (.int k b) := by simp only [ASt.ev, tmPut, ↓reduceIte, Nat.reduceEqDiff, plain1, *]; first | done | rfl) (c : a = b := by omega) : OpsL P W0 ops (⟨some d, .binOp .neq t x y u, type, pos, after, none⟩ :: l) ⟨tm, n, H, nx⟩ QQ := OpsL.p hd (aop_neqF hx hy c) h
theorem onot {q : Bool} (hx : ev x = some (.bool q) := by simp only [ASt.ev, tmPut, ↓reduceIte, Nat.reduceEqDiff, plain1, *]; first | done | rfl) : aop P H nx ev ⟨dst, .unOp .not t x, type, pos, after, guard⟩ = some ((.bool (!q)), .none) := aop_not hx
theorem oadd (hx : ev x = some (.int .i64 a) := by simp only [ASt.ev, tmPut, ↓reduceIte, Nat.reduceEqDiff, plain1, *]; first | done | rfl) (hy : ev y = some (.int .i64 b) := by simp only [ASt.ev, tmPut, ↓reduceIte, Nat.reduceEqDiff, plain1, *]; first | done | rfl) (c : -9223372036854775808 ≤ a + b ∧ a + b ≤ 9223372036854775807 := by omega) : aop P H nx ev ⟨dst, .binOp .add t x y u, type, pos, after, guard⟩ = some ((.int .i64 (a + b)), .none) := aop_add hx hy c
theorem osub (hx : ev x = some (.int .i64 a) := by simp only [ASt.ev, tmPut, ↓reduceIte, Nat.reduceEqDiff, plain1, *]; first | done | rfl) (hy : ev y = some (.int .i64 b) := by simp only [ASt.ev, tmPut, ↓reduceIte, Nat.reduceEqDiff, plain1, *]; first | done | rfl) (c : -9223372036854775808 ≤ a - b ∧ a - b ≤ 9223372036854775807 := by omega) : aop P H nx ev ⟨dst, .binOp .sub t x y u, type, pos, after, guard⟩ = some ((.int .i64 (a - b)), .none) := aop_sub hx hy c
theorem olen {m c : Nat} {p : Option Addr} (hx : ev x = some (.slice p m c) := by simp only [ASt.ev, tmPut, ↓reduceIte, Nat.reduceEqDiff, plain1, *]; first | done | rfl) (hu : P.underlying t = some (.slice e) := by exact rfl) : aop P H nx ev ⟨dst, .call ⟨.builtin .len, #[x], #[t]⟩, type, pos, after, guard⟩ = some ((.int .i64 (m : Int)), .none) := aop_len hx hu
theorem oixa {m c sz : Nat} {p : Addr} (hx : ev x = some (.slice (some p) m c) := by simp only [ASt.ev, tmPut, ↓reduceIte, Nat.reduceEqDiff, plain1, *]; first | done | rfl) (hy : ev y = some (.int k a) := by simp only [ASt.ev, tmPut, ↓reduceIte, Nat.reduceEqDiff, plain1, *]; first | done | rfl) (hu : P.underlying t = some (.slice e) := by exact rfl) (hs : szOf P e = some sz := by exact rfl) (h0 : 0 ≤ a := by omega) (h1 : a < m := by omega) : aop P H nx ev ⟨dst, .indexAddr t x y, type, pos, after, guard⟩ = some ((.pointer (some ⟨p.block, p.off + a.toNat * sz, p.spot⟩)), .none) := aop_indexAddr hx hy hu hs h0 h1
theorem ofa {f : Nat} {p : Addr} (hx : ev x = some (.pointer (some p)) := by simp only [ASt.ev, tmPut, ↓reduceIte, Nat.reduceEqDiff, plain1, *]; first | done | rfl) (hv : aFieldAddr P s (.pointer (some p)) f = some v := by exact rfl) : aop P H nx ev ⟨dst, .fieldAddr s x f, type, pos, after, guard⟩ = some (v, .none) := aop_fieldAddr hx hv
theorem old {p : Addr} {dd : TypeDesc} (hx : ev x = some (.pointer (some p)) := by simp only [ASt.ev, tmPut, ↓reduceIte, Nat.reduceEqDiff, plain1, *]; first | done | rfl) (hu : P.underlying t = some dd := by exact rfl) (hg : isAggD dd = false := by rfl) (hc : cellAt H p v := by assumption) : aop P H nx ev ⟨dst, .load t x, type, pos, after, guard⟩ = some (v, .none) := aop_load hx hu hg hc
theorem opkT (hx : ev x = some (.bool true) := by simp only [ASt.ev, tmPut, ↓reduceIte, reduceIte, Nat.reduceEqDiff, decide_true, decide_false, not_true_eq_false, not_false_eq_true, Bool.not_true, Bool.not_false, *]; first | done | rfl) (hy : ev y = some v := by simp only [ASt.ev, tmPut, ↓reduceIte, Nat.reduceEqDiff, plain1, *]; first | done | rfl) : aop P H nx ev ⟨dst, .pick x y z, type, pos, after, guard⟩ = some (v, .none) := aop_pickT hx hy
theorem opkF (hx : ev x = some (.bool false) := by simp only [ASt.ev, tmPut, ↓reduceIte, reduceIte, Nat.reduceEqDiff, decide_true, decide_false, not_true_eq_false, not_false_eq_true, Bool.not_true, Bool.not_false, *]; first | done | rfl) (hy : ev z = some v := by simp only [ASt.ev, tmPut, ↓reduceIte, Nat.reduceEqDiff, plain1, *]; first | done | rfl) : aop P H nx ev ⟨dst, .pick x y z, type, pos, after, guard⟩ = some (v, .none) := aop_pickF hx hy
theorem OpsL.ung {j : Nat} {want : Bool} {d' : Tmp} (h : OpsL P W0 ops (⟨dst, op, type, pos, after, none⟩ :: l) ⟨tm, n, H, nx⟩ QQ) (hj : (ops[j]?).bind (·.dst) = some d' := by exact rfl) (hb : tm d' = .bool want := by simp only [ASt.ev, tmPut, ↓reduceIte, reduceIte, Nat.reduceEqDiff, decide_true, decide_false, not_true_eq_false, not_false_eq_true, Bool.not_true, Bool.not_false, *]; first | done | rfl) : OpsL P W0 ops (⟨dst, op, type, pos, after, some (j, want)⟩ :: l) ⟨tm, n, H, nx⟩ QQ := OpsL.unguard hj hb h
theorem OpsL.skp {j : Nat} {want : Bool} {d' : Tmp} (h : OpsL P W0 ops l ⟨tmPut tm (some d) undef, n, H, nx⟩ QQ) (hj : (ops[j]?).bind (·.dst) = some d' := by exact rfl) (hb : tm d' = .bool (!want) := by simp only [ASt.ev, tmPut, ↓reduceIte, reduceIte, Nat.reduceEqDiff, decide_true, decide_false, not_true_eq_false, not_false_eq_true, Bool.not_true, Bool.not_false, *]; first | done | rfl) (hd : d < n := by first | decide | (refine Nat.lt_of_lt_of_eq ?_ (Eq.symm ‹_›); decide)) : OpsL P W0 ops (⟨some d, op, type, pos, after, some (j, want)⟩ :: l) ⟨tm, n, H, nx⟩ QQ := OpsL.skipped hj hb hd h
theorem OpsL.sku {j : Nat} {want : Bool} {d' : Tmp} (h : OpsL P W0 ops l ⟨tmPut tm (some d) undef, n, H, nx⟩ QQ) (hj : (ops[j]?).bind (·.dst) = some d' := by exact rfl) (hb : tm d' = undef := by simp only [ASt.ev, tmPut, ↓reduceIte, reduceIte, Nat.reduceEqDiff, decide_true, decide_false, not_true_eq_false, not_false_eq_true, Bool.not_true, Bool.not_false, *]; first | done | rfl) (hd : d < n := by first | decide | (refine Nat.lt_of_lt_of_eq ?_ (Eq.symm ‹_›); decide)) : OpsL P W0 ops (⟨some d, op, type, pos, after, some (j, want)⟩ :: l) ⟨tm, n, H, nx⟩ QQ := OpsL.skippedU hj hb hd h
theorem OpsL.gT {j : Nat} {d' : Tmp} {p : Prop} [Decidable p] (h1 : p → OpsL P W0 ops (⟨some d, op, type, pos, after, none⟩ :: l) ⟨tm, n, H, nx⟩ QQ) (h2 : ¬p → OpsL P W0 ops l ⟨tmPut tm (some d) undef, n, H, nx⟩ QQ) (hj : (ops[j]?).bind (·.dst) = some d' := by exact rfl) (hb : tm d' = .bool (decide p) := by simp only [ASt.ev, tmPut, ↓reduceIte, Nat.reduceEqDiff, plain1, *]; first | done | rfl) (hd : d < n := by first | decide | (refine Nat.lt_of_lt_of_eq ?_ (Eq.symm ‹_›); decide)) : OpsL P W0 ops (⟨some d, op, type, pos, after, some (j, true)⟩ :: l) ⟨tm, n, H, nx⟩ QQ := OpsL.guardT hj hb hd h1 h2
theorem OpsL.gF {j : Nat} {d' : Tmp} {p : Prop} [Decidable p] (h1 : ¬p → OpsL P W0 ops (⟨some d, op, type, pos, after, none⟩ :: l) ⟨tm, n, H, nx⟩ QQ) (h2 : p → OpsL P W0 ops l ⟨tmPut tm (some d) undef, n, H, nx⟩ QQ) (hj : (ops[j]?).bind (·.dst) = some d' := by exact rfl) (hb : tm d' = .bool (decide p) := by simp only [ASt.ev, tmPut, ↓reduceIte, Nat.reduceEqDiff, plain1, *]; first | done | rfl) (hd : d < n := by first | decide | (refine Nat.lt_of_lt_of_eq ?_ (Eq.symm ‹_›); decide)) : OpsL P W0 ops (⟨some d, op, type, pos, after, some (j, false)⟩ :: l) ⟨tm, n, H, nx⟩ QQ := OpsL.guardF hj hb hd h1 h2
variable {f : FuncId} {R : Value → Nat → Heap → Prop} {ts : Array TypeId} {va vb vc ve : Value}
theorem OpsL.c0 (hd : d < n := by first | decide | (refine Nat.lt_of_lt_of_eq ?_ (Eq.symm ‹_›); decide))  (hf : Enters P f) (hc : ACalls P W0 f [] nx H R) (h : ∀ v nx' H', R v nx' H' → OpsL P W0 ops l ⟨tmPut tm (some d) v, n, H', nx'⟩ QQ) : OpsL P W0 ops (⟨some d, .call ⟨.value (.func f), #[], ts⟩, type, pos, after, none⟩ :: l) ⟨tm, n, H, nx⟩ QQ := OpsL.call0 hd  hf hc h
theorem OpsL.c1 (hd : d < n := by first | decide | (refine Nat.lt_of_lt_of_eq ?_ (Eq.symm ‹_›); decide)) (hx : ASt.ev ⟨tm, n, H, nx⟩ x = some va := by simp only [ASt.ev, tmPut, ↓reduceIte, Nat.reduceEqDiff, plain1, *]; first | done | rfl) (hf : Enters P f) (hc : ACalls P W0 f [va] nx H R) (h : ∀ v nx' H', R v nx' H' → OpsL P W0 ops l ⟨tmPut tm (some d) v, n, H', nx'⟩ QQ) : OpsL P W0 ops (⟨some d, .call ⟨.value (.func f), #[x], ts⟩, type, pos, after, none⟩ :: l) ⟨tm, n, H, nx⟩ QQ := OpsL.call1 hd hx hf hc h
theorem OpsL.c2 (hd : d < n := by first | decide | (refine Nat.lt_of_lt_of_eq ?_ (Eq.symm ‹_›); decide)) (hx : ASt.ev ⟨tm, n, H, nx⟩ x = some va := by simp only [ASt.ev, tmPut, ↓reduceIte, Nat.reduceEqDiff, plain1, *]; first | done | rfl) (hy : ASt.ev ⟨tm, n, H, nx⟩ y = some vb := by simp only [ASt.ev, tmPut, ↓reduceIte, Nat.reduceEqDiff, plain1, *]; first | done | rfl) (hf : Enters P f) (hc : ACalls P W0 f [va, vb] nx H R) (h : ∀ v nx' H', R v nx' H' → OpsL P W0 ops l ⟨tmPut tm (some d) v, n, H', nx'⟩ QQ) : OpsL P W0 ops (⟨some d, .call ⟨.value (.func f), #[x, y], ts⟩, type, pos, after, none⟩ :: l) ⟨tm, n, H, nx⟩ QQ := OpsL.call2 hd hx hy hf hc h
theorem OpsL.c3 (hd : d < n := by first | decide | (refine Nat.lt_of_lt_of_eq ?_ (Eq.symm ‹_›); decide)) (hx : ASt.ev ⟨tm, n, H, nx⟩ x = some va := by simp only [ASt.ev, tmPut, ↓reduceIte, Nat.reduceEqDiff, plain1, *]; first | done | rfl) (hy : ASt.ev ⟨tm, n, H, nx⟩ y = some vb := by simp only [ASt.ev, tmPut, ↓reduceIte, Nat.reduceEqDiff, plain1, *]; first | done | rfl) (hz : ASt.ev ⟨tm, n, H, nx⟩ z = some vc := by simp only [ASt.ev, tmPut, ↓reduceIte, Nat.reduceEqDiff, plain1, *]; first | done | rfl) (hf : Enters P f) (hc : ACalls P W0 f [va, vb, vc] nx H R) (h : ∀ v nx' H', R v nx' H' → OpsL P W0 ops l ⟨tmPut tm (some d) v, n, H', nx'⟩ QQ) : OpsL P W0 ops (⟨some d, .call ⟨.value (.func f), #[x, y, z], ts⟩, type, pos, after, none⟩ :: l) ⟨tm, n, H, nx⟩ QQ := OpsL.call3 hd hx hy hz hf hc h
theorem OpsL.call4 {x y z w : Operand} (hd : d < n) (hx : ASt.ev ⟨tm, n, H, nx⟩ x = some va) (hy : ASt.ev ⟨tm, n, H, nx⟩ y = some vb) (hz : ASt.ev ⟨tm, n, H, nx⟩ z = some vc) (hw : ASt.ev ⟨tm, n, H, nx⟩ w = some ve) (hf : Enters P f) (hcall : ACalls P W0 f [va, vb, vc, ve] nx H R) (h : ∀ v nx' H', R v nx' H' → OpsL P W0 ops l ⟨tmPut tm (some d) v, n, H', nx'⟩ QQ) :
  OpsL P W0 ops (⟨some d, .call ⟨.value (.func f), #[x, y, z, w], ts⟩, type, pos, after, none⟩ :: l) ⟨tm, n, H, nx⟩ QQ := by
 refine OpsL.call R (by simp [dstOk, hd]) rfl ?_ hf hcall h
 have hf' : ASt.ev ⟨tm, n, H, nx⟩ (.func f) = some (.func (.func f) #[] #[]) := rfl
 simp [callee, hf', evAll, hx, hy, hz, hw]
theorem OpsL.c4 {x y z w : Operand} (hd : d < n := by first | decide | (refine Nat.lt_of_lt_of_eq ?_ (Eq.symm ‹_›); decide)) (hx : ASt.ev ⟨tm, n, H, nx⟩ x = some va := by simp only [ASt.ev, tmPut, ↓reduceIte, Nat.reduceEqDiff, plain1, *]; first | done | rfl) (hy : ASt.ev ⟨tm, n, H, nx⟩ y = some vb := by simp only [ASt.ev, tmPut, ↓reduceIte, Nat.reduceEqDiff, plain1, *]; first | done | rfl) (hz : ASt.ev ⟨tm, n, H, nx⟩ z = some vc := by simp only [ASt.ev, tmPut, ↓reduceIte, Nat.reduceEqDiff, plain1, *]; first | done | rfl) (hw : ASt.ev ⟨tm, n, H, nx⟩ w = some ve := by simp only [ASt.ev, tmPut, ↓reduceIte, Nat.reduceEqDiff, plain1, *]; first | done | rfl) (hf : Enters P f) (hc : ACalls P W0 f [va, vb, vc, ve] nx H R) (h : ∀ v nx' H', R v nx' H' → OpsL P W0 ops l ⟨tmPut tm (some d) v, n, H', nx'⟩ QQ) : OpsL P W0 ops (⟨some d, .call ⟨.value (.func f), #[x, y, z, w], ts⟩, type, pos, after, none⟩ :: l) ⟨tm, n, H, nx⟩ QQ := OpsL.call4 hd hx hy hz hw hf hc h
end
section
variable {P : Program} {W0 : World} {st : ASt} {Q : AExit → ASt → Prop} {c : Operand} {x y : Code}
theorem Trip.itA {p : Prop} [Decidable p] (h1 : p → Trip P W0 x st Q) (h2 : ¬p → Trip P W0 y st Q) (hc : st.ev c = some (.bool (decide p)) := by simp only [ASt.ev, tmPut, ↓reduceIte, Nat.reduceEqDiff, plain1, *]; first | done | rfl) : Trip P W0 (.cond c x y) st Q := Trip.ite hc h1 h2
theorem Trip.ifT (h : Trip P W0 x st Q) (hc : st.ev c = some (.bool true) := by simp only [ASt.ev, tmPut, ↓reduceIte, reduceIte, Nat.reduceEqDiff, decide_true, decide_false, not_true_eq_false, not_false_eq_true, Bool.not_true, Bool.not_false, *]; first | done | rfl) : Trip P W0 (.cond c x y) st Q := Trip.iteB hc (fun _ => h) (fun h => absurd h (by decide))
theorem Trip.ifF (h : Trip P W0 y st Q) (hc : st.ev c = some (.bool false) := by simp only [ASt.ev, tmPut, ↓reduceIte, reduceIte, Nat.reduceEqDiff, decide_true, decide_false, not_true_eq_false, not_false_eq_true, Bool.not_true, Bool.not_false, *]; first | done | rfl) : Trip P W0 (.cond c x y) st Q := Trip.iteB hc (fun h => absurd h (by decide)) (fun _ => h)
end
theorem evd {A : Prop} (h : A := by simp only [ASt.ev, tmPut, ↓reduceIte, Nat.reduceEqDiff, *]; done) : A := h
theorem evr {A : Prop} (h : A := by simp only [ASt.ev, tmPut, ↓reduceIte, Nat.reduceEqDiff, *]; rfl) : A := h
theorem stp {A : Prop} (h : A := by simp [tmPut, *]) : A := h
theorem krf {A : Prop} (h : A := by kernel_rfl) : A := h
theorem sdc {A : Prop} (h : A := by subst_vars; decide) : A := h
theorem xrf {A : Prop} (h : A := by exact rfl) : A := h
theorem zg0 {G K : Prop} (k : K) (f : PLift K → G := by
 intro k
 refine OpsR.one rfl rfl rfl (by kernel_rfl) ?_
 repeat (first | (refine OpsL.nil ?_; (skip)) | (refine OpsL.skp ?_))
 refine OpsR.one rfl rfl rfl (by kernel_rfl) ?_
 repeat (first | (refine OpsL.nil ?_; (skip)) | (refine OpsL.skp ?_))
 refine OpsR.one rfl rfl rfl (by kernel_rfl) ?_
 repeat (first | (refine OpsL.nil ?_; (skip)) | (refine OpsL.skp ?_))
 exact k.down) : G := f ⟨k⟩
theorem zg1 {G K : Prop} (k : K) (f : PLift K → G := by
 intro k
 refine OpsR.one rfl rfl rfl (by kernel_rfl) ?_
 exact k.down) : G := f ⟨k⟩
theorem zg2 {G K : Prop} (k : K) (f : PLift K → G := by
 intro k
 refine zg1 ?_
 repeat (first | (refine OpsL.q (by exact omv) ?_) | (refine OpsL.nil ?_; (skip)) | (refine OpsL.ung ?_))
 refine zg1 ?_
 repeat (first | (refine OpsL.q (by exact oixa) ?_) | (refine OpsL.nil ?_; (dsimp only)) | (refine OpsL.ung ?_))
 refine zg1 ?_
 repeat (first | (refine OpsL.q (by exact old) ?_) | (refine OpsL.nil ?_; (skip)) | (refine OpsL.ung ?_))
 exact k.down) : G := f ⟨k⟩
theorem zg3 {G K : Prop} (k : K) (f : PLift K → G := by
 intro k
 repeat (first | (refine OpsL.q (by exact omv) ?_) | (refine OpsL.nil ?_; (skip)))
 exact k.down) : G := f ⟨k⟩
theorem zg4 {G K : Prop} (k : K) (f : PLift K → G := by
 intro k
 refine OpsQ.one rfl rfl rfl (by kernel_rfl) ?_
 repeat (first | (refine OpsL.q (by exact ofa) ?_) | (refine OpsL.nil ?_; (dsimp only)))
 exact k.down) : G := f ⟨k⟩
theorem zg5 {G K : Prop} (k : K) (f : PLift K → G := by
 intro k
 repeat (first | (refine OpsL.q (by exact old) ?_) | (refine OpsL.nil ?_; (skip)))
 exact k.down) : G := f ⟨k⟩
theorem zg6 {G K : Prop} (k : K) (f : PLift K → G := by
 intro k
 refine zg1 ?_
 repeat (first | (refine OpsL.nil ?_; (skip)) | (refine OpsL.sku ?_))
 refine zg1 ?_
 repeat (first | (refine OpsL.nil ?_; (skip)) | (refine OpsL.sku ?_))
 refine zg1 ?_
 repeat (first | (refine OpsL.nil ?_; (skip)) | (refine OpsL.sku ?_))
 exact k.down) : G := f ⟨k⟩
theorem zg7 {G K : Prop} (k : K) (f : PLift K → G := by
 intro k
 refine zg1 ?_
 repeat (first | (refine OpsL.q (by exact ofa) ?_) | (refine OpsL.nil ?_; (dsimp only)) | (refine OpsL.ung ?_))
 refine zg1 ?_
 repeat (first | (refine OpsL.q (by exact old) ?_) | (refine OpsL.nil ?_; (skip)) | (refine OpsL.ung ?_))
 exact k.down) : G := f ⟨k⟩
theorem zg8 {G K : Prop} (k : K) (f : PLift K → G := by
 intro k
 refine OpsQ.one rfl rfl rfl (by kernel_rfl) ?_
 exact k.down) : G := f ⟨k⟩
theorem zg9 {G K : Prop} (k : K) (f : PLift K → G := by
 intro k
 repeat (first | (refine OpsL.q (by exact oixa) ?_) | (refine OpsL.nil ?_; (dsimp only)))
 exact k.down) : G := f ⟨k⟩
theorem zg10 {G K : Prop} (k : K) (f : PLift K → G := by
 intro k
 refine zg1 ?_
 repeat (first | (refine OpsL.q (by exact ofa) ?_) | (refine OpsL.nil ?_; (dsimp only)))
 refine zg1 ?_
 refine zg5 ?_
 refine zg1 ?_
 exact k.down) : G := f ⟨k⟩
theorem zg11 {G K : Prop} (k : K) (f : PLift K → G := by
 intro k
 repeat (first | (refine OpsL.q (by exact oasg) ?_) | (refine Trip.seq ?_) | (refine Trip.ops ?_) | (refine Trip.ret ?_; (dsimp only)) | (refine OpsL.nil ?_; (change Trip _ _ _ _ _)))
 exact k.down) : G := f ⟨k⟩
theorem zg12 {G K : Prop} (k : K) (f : PLift K → G := by
 intro k
 repeat (first | (refine OpsL.q (by exact oasg) ?_) | (refine Trip.seq ?_) | (refine Trip.ops ?_) | (refine Trip.ret ?_; ((repeat (refine blockExit_ret ?_)); dsimp only)) | (refine OpsL.nil ?_; (change Trip _ _ _ _ _)))
 exact k.down) : G := f ⟨k⟩
theorem zg13 {G K : Prop} (k : K) (f : PLift K → G := by
 intro k
 repeat (first | (refine OpsL.q (by first | exact omv | exact oadd | exact oasg) ?_) | (refine Trip.ops ?_) | (refine Trip.skip ?_; ((repeat (refine blockExit_normal ?_)); change Trip _ _ _ _ _)) | (refine OpsL.nil ?_; (dsimp only)))
 exact k.down) : G := f ⟨k⟩
theorem zg14 {G K : Prop} (k : K) (f : PLift K → G := by
 intro k
 ((repeat (refine blockExit_normal ?_)); change Trip _ _ _ _ _)
 repeat (first | (refine OpsL.q (by first | exact omv | exact oadd | exact oasg) ?_) | (refine Trip.ops ?_) | (refine OpsL.nil ?_; (dsimp only)))
 exact k.down) : G := f ⟨k⟩
theorem zg15 {G K : Prop} (k : K) (f : PLift K → G := by
 intro k
 repeat (first | (refine OpsL.q (by exact aop_nilCheck (by (first | (simp only [ASt.ev, tmPut, ↓reduceIte, Nat.reduceEqDiff, *]; rfl)))) ?_) | (refine OpsL.nil ?_; (skip)))
 exact k.down) : G := f ⟨k⟩
theorem zg16 {G K : Prop} (k : K) (f : PLift K → G := by
 intro k
 refine OpsQ.act (by kernel_rfl) (ActStep.walk rfl rfl ?_)
 exact k.down) : G := f ⟨k⟩
theorem zg17 {G K : Prop} (k : K) (f : PLift K → G := by
 intro k
 refine zg1 ?_
 repeat (first | (refine OpsL.q (by exact opkF) ?_) | (refine OpsL.nil ?_; (skip)))
 exact k.down) : G := f ⟨k⟩
theorem zg18 {G K : Prop} (k : K) (f : PLift K → G := by
 intro k
 refine zg1 ?_
 repeat (first | (refine OpsL.nil ?_; (skip)) | (refine OpsL.skp ?_))
 refine zg1 ?_
 exact k.down) : G := f ⟨k⟩
theorem zg19 {G K : Prop} (k : K) (f : PLift K → G := by
 intro k
 refine zg3 ?_
 refine zg1 ?_
 refine zg9 ?_
 refine zg1 ?_
 refine zg5 ?_
 refine zg1 ?_
 exact k.down) : G := f ⟨k⟩
theorem zg20 {G K : Prop} (k : K) (f : PLift K → G := by
 intro k
 repeat (first | (refine OpsL.q (by first | exact omv | exact oadd) ?_) | (refine Trip.ops ?_) | (refine Trip.skip ?_; ((repeat (refine blockExit_normal ?_)); change Trip _ _ _ _ _)) | (refine OpsL.nil ?_; (dsimp only)))
 exact k.down) : G := f ⟨k⟩
theorem zg21 {G K : Prop} (k : K) (f : PLift K → G := by
 intro k
 refine zg2 ?_
 refine zg1 ?_
 repeat (first | (refine OpsL.q (by exact oixa) ?_) | (refine OpsL.nil ?_; (dsimp only)) | (refine OpsL.ung ?_))
 refine zg1 ?_
 repeat (first | (refine OpsL.q (by exact old) ?_) | (refine OpsL.nil ?_; (skip)) | (refine OpsL.ung ?_))
 refine zg1 ?_
 exact k.down) : G := f ⟨k⟩
theorem zg22 {G K : Prop} (k : K) (f : PLift K → G := by
 intro k
 repeat (first | (refine OpsL.q (by exact oasg) ?_) | (refine Trip.seq ?_) | (refine Trip.ops ?_) | (refine Trip.block ?_) | (refine Trip.skip ?_; (change Trip _ _ _ _ _)) | (refine OpsL.nil ?_; (change Trip _ _ _ _ _)))
 exact k.down) : G := f ⟨k⟩
theorem zg23 {G K : Prop} (k : K) (f : PLift K → G := by
 intro k
 repeat (first | (refine OpsL.nil ?_; (change Trip _ _ _ _ _)))
 exact k.down) : G := f ⟨k⟩
theorem zg24 {G K : Prop} (k : K) (f : PLift K → G := by
 intro k
 repeat (first | (refine OpsL.q (by first | exact omv | exact oasg) ?_) | (refine Trip.seq ?_) | (refine Trip.ops ?_) | (refine Trip.exit ?_; ((repeat (refine blockExit_eq ?_)); change Trip _ _ _ _ _)) | (refine Trip.ret ?_; (dsimp only)) | (refine OpsL.nil ?_; (change Trip _ _ _ _ _)))
 exact k.down) : G := f ⟨k⟩
theorem zg25 {G K : Prop} (k : K) (f : PLift K → G := by
 intro k
 repeat (first | (refine OpsL.q (by exact oasg) ?_) | (refine Trip.seq ?_) | (refine Trip.ops ?_) | (refine OpsL.nil ?_; (change Trip _ _ _ _ _)))
 exact k.down) : G := f ⟨k⟩
theorem zg26 {G K : Prop} (k : K) (f : PLift K → G := by
 intro k
 repeat (first | (refine OpsL.q (by exact oasg) ?_) | (refine Trip.seq ?_) | (refine Trip.ops ?_) | (refine Trip.block ?_) | (refine OpsL.nil ?_; (change Trip _ _ _ _ _)))
 exact k.down) : G := f ⟨k⟩
theorem zg27 {G K : Prop} (k : K) (f : PLift K → G := by
 intro k
 repeat (first | (refine OpsL.q (by exact omv) ?_) | (refine OpsL.nil ?_; (skip)) | (refine OpsL.ung ?_))
 exact k.down) : G := f ⟨k⟩
theorem zg28 {G K : Prop} (k : K) (f : PLift K → G := by
 intro k
 refine zg8 ?_
 refine zg3 ?_
 refine zg8 ?_
 refine zg9 ?_
 refine zg8 ?_
 refine zg5 ?_
 exact k.down) : G := f ⟨k⟩
theorem zg29 {G K : Prop} (k : K) (f : PLift K → G := by
 intro k
 refine Trip.seq ?_
 refine Trip.ops ?_
 exact k.down) : G := f ⟨k⟩
theorem zg30 {G K : Prop} (k : K) (f : PLift K → G := by
 intro k
 repeat (first | (refine OpsL.q (by first | exact omv | exact oadd) ?_) | (refine Trip.ops ?_) | (refine OpsL.nil ?_; ((repeat (refine blockExit_normal ?_)); first | (change Trip _ _ _ _ _) | (dsimp only))))
 exact k.down) : G := f ⟨k⟩
theorem zg31 {G K : Prop} (k : K) (f : PLift K → G := by
 intro k
 repeat (first | (refine OpsL.q (by exact onot) ?_) | (refine OpsL.nil ?_; (change Trip _ _ _ _ _)))
 exact k.down) : G := f ⟨k⟩
theorem zg32 {G K : Prop} (k : K) (f : PLift K → G := by
 intro k
 ((repeat (refine blockExit_normal ?_)); change Trip _ _ _ _ _)
 repeat (first | (refine OpsL.q (by first | exact omv | exact oadd) ?_) | (refine Trip.ops ?_) | (refine OpsL.nil ?_; (dsimp only)))
 exact k.down) : G := f ⟨k⟩
theorem zg33 {G K : Prop} (k : K) (f : PLift K → G := by
 intro k
 repeat (first | (refine OpsL.q (by exact opkT) ?_) | (refine OpsL.nil ?_; (skip)))
 exact k.down) : G := f ⟨k⟩
theorem zg34 {G K : Prop} (k : K) (f : PLift K → G := by
 intro k
 refine zg0 ?_
 refine zg0 ?_
 refine zg0 ?_
 exact k.down) : G := f ⟨k⟩
theorem zg35 {G K : Prop} (k : K) (f : PLift K → G := by
 intro k
 refine Trip.ifF ?_
 repeat (first | (refine OpsL.q (by first | exact omv | exact oasg | exact oadd) ?_) | (refine Trip.ops ?_) | (refine Trip.skip ?_; ((repeat (refine blockExit_normal ?_)); change Trip _ _ _ _ _)) | (refine OpsL.nil ?_; (dsimp only)))
 exact k.down) : G := f ⟨k⟩
theorem zg36 {G K : Prop} (k : K) (f : PLift K → G := by
 intro k
 repeat (first | (refine OpsL.q (by first | exact omv | exact opkT | exact opkF) ?_) | (refine OpsL.nil ?_; (change Trip _ _ _ _ _)) | (refine OpsL.skp ?_))
 refine Trip.ifT ?_
 refine zg11 ?_
 exact k.down) : G := f ⟨k⟩
theorem zg37 {G K : Prop} (k : K) (f : PLift K → G := by
 intro k
 refine Trip.ifF ?_
 repeat (first | (refine Trip.seq ?_) | (refine Trip.skip ?_; (change Trip _ _ _ _ _)))
 exact k.down) : G := f ⟨k⟩
theorem zg38 {G K : Prop} (k : K) (f : PLift K → G := by
 intro k
 repeat (first | (refine OpsL.q (by exact omv) ?_) | (refine Trip.seq ?_) | (refine Trip.ops ?_))
 exact k.down) : G := f ⟨k⟩
theorem zg39 {G K : Prop} (k : K) (f : PLift K → G := by
 intro k
 repeat (first | (refine Trip.seq ?_) | (refine Trip.ops ?_) | (refine Trip.exit ?_; ((repeat (refine blockExit_eq ?_)); change Trip _ _ _ _ _)))
 exact k.down) : G := f ⟨k⟩
theorem zg40 {G K : Prop} (k : K) (f : PLift K → G := by
 intro k
 repeat (first | (refine OpsL.q (by exact oasg) ?_) | (refine OpsL.nil ?_; (change Trip _ _ _ _ _)))
 exact k.down) : G := f ⟨k⟩
theorem zg41 {G K : Prop} (k : K) (f : PLift K → G := by
 intro k
 repeat (first | (refine OpsL.nil ?_; (skip)) | (refine OpsL.skp ?_))
 exact k.down) : G := f ⟨k⟩
theorem zg42 {G K : Prop} (k : K) (f : PLift K → G := by
 intro k
 refine zg1 ?_
 repeat (first | (refine OpsL.q (by exact oasg) ?_) | (refine OpsL.nil ?_; (skip)))
 refine OpsR.nil ?_
 exact k.down) : G := f ⟨k⟩
theorem zg43 {G K : Prop} (k : K) (f : PLift K → G := by
 intro k
 repeat (first | (refine OpsL.q (by exact olen) ?_) | (refine OpsL.nil ?_; (skip)))
 exact k.down) : G := f ⟨k⟩
theorem zg44 {G K : Prop} (k : K) (f : PLift K → G := by
 intro k
 repeat (first | (refine OpsL.q (by first | exact omv | exact oasg | exact olen) ?_) | (refine Trip.seq ?_) | (refine Trip.ops ?_) | (refine Trip.block ?_) | (refine OpsL.nil ?_; (change Trip _ _ _ _ _)))
 exact k.down) : G := f ⟨k⟩
theorem zg45 {G K : Prop} (k : K) (f : PLift K → G := by
 intro k
 refine zg1 ?_
 refine zg3 ?_
 exact k.down) : G := f ⟨k⟩
theorem zg46 {G K : Prop} (k : K) (f : PLift K → G := by
 intro k
 refine OpsL.nil ?_
 exact k.down) : G := f ⟨k⟩
theorem zg47 {G K : Prop} (k : K) (f : PLift K → G := by
 intro k
 repeat (first | (refine OpsL.q (by first | exact omv | exact oixa | exact old | exact oasg) ?_) | (refine Trip.seq ?_) | (refine Trip.ops ?_) | (refine OpsL.nil ?_; (change Trip _ _ _ _ _)))
 exact k.down) : G := f ⟨k⟩
theorem zg48 {G K : Prop} (k : K) (f : PLift K → G := by
 intro k
 refine zg8 ?_
 refine zg3 ?_
 exact k.down) : G := f ⟨k⟩
theorem zg49 {G K : Prop} (k : K) (f : PLift K → G := by
 intro k
 repeat (first | (refine OpsL.q (by first | exact omv | exact oasg) ?_) | (refine Trip.ops ?_) | (refine OpsL.nil ?_; ((repeat (refine blockExit_normal ?_)); change Trip _ _ _ _ _)))
 exact k.down) : G := f ⟨k⟩
theorem zg50 {G K : Prop} (k : K) (f : PLift K → G := by
 intro k
 repeat (first | (refine OpsL.q (by first | exact omv | exact oasg) ?_) | (refine Trip.seq ?_) | (refine Trip.ops ?_) | (refine OpsL.nil ?_; (change Trip _ _ _ _ _)))
 exact k.down) : G := f ⟨k⟩
theorem zg51 {G K : Prop} (k : K) (f : PLift K → G := by
 intro k
 repeat (first | (refine OpsL.q (by exact omv) ?_) | (refine OpsL.nil ?_; (dsimp only)))
 exact k.down) : G := f ⟨k⟩
theorem zg52 {G K : Prop} (k : K) (f : PLift K → G := by
 intro k
 refine zg4 ?_
 refine zg8 ?_
 refine zg5 ?_
 exact k.down) : G := f ⟨k⟩
theorem zg53 {G K : Prop} (k : K) (f : PLift K → G := by
 intro k
 repeat (first | (refine OpsL.q (by first | exact oadd | exact oasg) ?_) | (refine OpsL.nil ?_; (dsimp only)))
 exact k.down) : G := f ⟨k⟩
theorem zg54 {G K : Prop} (k : K) (f : PLift K → G := by
 intro k
 repeat (first | (refine OpsL.q (by first | exact omv | exact olen) ?_) | (refine Trip.seq ?_) | (refine Trip.ops ?_) | (refine Trip.block ?_) | (refine OpsL.nil ?_; (change Trip _ _ _ _ _)))
 exact k.down) : G := f ⟨k⟩
theorem zg55 {G K : Prop} (k : K) (f : PLift K → G := by
 intro k
 repeat (first | (refine OpsL.q (by exact oasg) ?_) | (refine Trip.ops ?_) | (refine OpsL.nil ?_; ((repeat (refine blockExit_normal ?_)); change Trip _ _ _ _ _)))
 repeat (first | (refine OpsL.q (by first | exact omv | exact oadd) ?_) | (refine OpsL.nil ?_; (dsimp only)))
 exact k.down) : G := f ⟨k⟩
theorem zg56 {G K : Prop} (k : K) (f : PLift K → G := by
 intro k
 refine zg46 ?_
 refine zg1 ?_
 repeat (first | (refine OpsL.q (by exact opkT) ?_) | (refine OpsL.nil ?_; (skip)) | (refine OpsL.ung ?_))
 refine zg17 ?_
 refine OpsR.nil ?_
 exact k.down) : G := f ⟨k⟩
theorem zg57 {G K : Prop} (k : K) (f : PLift K → G := by
 intro k
 repeat (first | (refine OpsL.q (by exact oasg) ?_) | (refine Trip.seq ?_) | (refine Trip.ops ?_) | (refine Trip.exit ?_; ((repeat (refine blockExit_eq ?_)); change Trip _ _ _ _ _)) | (refine Trip.ret ?_; (dsimp only)) | (refine OpsL.nil ?_; (change Trip _ _ _ _ _)))
 exact k.down) : G := f ⟨k⟩
theorem zg58 {G K : Prop} (k : K) (f : PLift K → G := by
 intro k
 refine zg10 ?_
 refine zg19 ?_
 refine zg43 ?_
 refine zg10 ?_
 repeat (first | (refine OpsL.q (by exact oeql) ?_) | (refine OpsL.nil ?_; (skip)))
 refine zg45 ?_
 exact k.down) : G := f ⟨k⟩
theorem zg59 {G K : Prop} (k : K) (f : PLift K → G := by
 intro k
 repeat (first | (refine OpsL.q (by first | exact oixa | exact old | exact onot) ?_) | (refine OpsL.nil ?_; (change Trip _ _ _ _ _)))
 exact k.down) : G := f ⟨k⟩
theorem zg60 {G K : Prop} (k : K) (f : PLift K → G := by
 intro k
 repeat (first | (refine OpsL.q (by exact oasg) ?_) | (refine Trip.seq ?_) | (refine Trip.ops ?_) | (refine Trip.block ?_) | (refine Trip.exit ?_; ((repeat (refine blockExit_eq ?_)); change Trip _ _ _ _ _)) | (refine OpsL.nil ?_; (change Trip _ _ _ _ _)))
 exact k.down) : G := f ⟨k⟩
theorem zg61 {G K : Prop} (k : K) (f : PLift K → G := by
 intro k
 repeat (first | (refine OpsL.q (by exact omv) ?_))
 exact k.down) : G := f ⟨k⟩
theorem zg62 {G K : Prop} (k : K) (f : PLift K → G := by
 intro k
 repeat (first | (refine OpsL.q (by first | exact aop_nilCheck (by (first | (simp only [ASt.ev, tmPut, ↓reduceIte, Nat.reduceEqDiff, *]; rfl))) | exact ofa) ?_))
 exact k.down) : G := f ⟨k⟩
theorem zg63 {G K : Prop} (k : K) (f : PLift K → G := by
 intro k
 repeat (first | (refine OpsL.q (by exact oasg) ?_) | (refine Trip.seq ?_) | (refine OpsL.nil ?_; (change Trip _ _ _ _ _)))
 exact k.down) : G := f ⟨k⟩
theorem zg64 {G K : Prop} (k : K) (f : PLift K → G := by
 intro k
 repeat (first | (refine Trip.seq ?_) | (refine Trip.ops ?_))
 exact k.down) : G := f ⟨k⟩
theorem zg65 {G K : Prop} (k : K) (f : PLift K → G := by
 intro k
 repeat (first | (refine OpsL.q (by first | exact oasg | exact ofa | exact old | exact omv | exact olen) ?_) | (refine Trip.seq ?_) | (refine Trip.ops ?_) | (refine Trip.block ?_) | (refine OpsL.nil ?_; (change Trip _ _ _ _ _)))
 exact k.down) : G := f ⟨k⟩
theorem zg66 {G K : Prop} (k : K) (f : PLift K → G := by
 intro k
 repeat (first | (refine OpsL.q (by first | exact omv | exact oadd | exact oasg) ?_) | (refine Trip.ops ?_) | (refine OpsL.nil ?_; ((repeat (refine blockExit_normal ?_)); first | (change Trip _ _ _ _ _) | (dsimp only))))
 exact k.down) : G := f ⟨k⟩
theorem zg67 {G K : Prop} (k : K) (f : PLift K → G := by
 intro k
 refine zg46 ?_
 refine zg17 ?_
 refine OpsR.nil ?_
 exact k.down) : G := f ⟨k⟩
theorem zg68 {G K : Prop} (k : K) (f : PLift K → G := by
 intro k
 refine zg23 ?_
 refine Trip.ifT ?_
 exact k.down) : G := f ⟨k⟩
theorem zg69 {G K : Prop} (k : K) (f : PLift K → G := by
 intro k
 repeat (first | (refine OpsL.ung ?_))
 exact k.down) : G := f ⟨k⟩
theorem zg70 {G K : Prop} (k : K) (f : PLift K → G := by
 intro k
 refine zg8 ?_
 refine zg9 ?_
 refine zg8 ?_
 refine zg5 ?_
 exact k.down) : G := f ⟨k⟩
theorem zg71 {G K : Prop} (k : K) (f : PLift K → G := by
 intro k
 refine zg45 ?_
 refine zg34 ?_
 refine zg18 ?_
 refine zg41 ?_
 refine zg1 ?_
 refine zg33 ?_
 exact k.down) : G := f ⟨k⟩
theorem zg72 {G K : Prop} (k : K) (f : PLift K → G := by
 intro k
 repeat (first | (refine OpsL.q (by first | exact omv | exact oasg | exact opkT | exact opkF) ?_) | (refine Trip.ret ?_; (dsimp only)) | (refine OpsL.nil ?_; (change Trip _ _ _ _ _)) | (refine OpsL.skp ?_))
 exact k.down) : G := f ⟨k⟩
theorem zg73 {G K : Prop} (k : K) (f : PLift K → G := by
 intro k
 repeat (first | (refine OpsL.q (by first | exact oasg | exact omv | exact olen) ?_) | (refine Trip.seq ?_) | (refine Trip.ops ?_) | (refine Trip.block ?_) | (refine OpsL.nil ?_; (change Trip _ _ _ _ _)))
 exact k.down) : G := f ⟨k⟩
theorem zg74 {G K : Prop} (k : K) (f : PLift K → G := by
 intro k
 repeat (first | (refine Trip.exit ?_; ((repeat (refine blockExit_eq ?_)))))
 exact k.down) : G := f ⟨k⟩
theorem zg75 {G K : Prop} (k : K) (f : PLift K → G := by
 intro k
 refine zg27 ?_
 refine zg7 ?_
 refine zg2 ?_
 refine zg2 ?_
 refine zg21 ?_
 exact k.down) : G := f ⟨k⟩
theorem zg76 {G K : Prop} (k : K) (f : PLift K → G := by
 intro k
 repeat (first | (refine Trip.exit ?_; ((repeat (refine blockExit_eq ?_)); dsimp only)))
 exact k.down) : G := f ⟨k⟩
theorem zg77 {G K : Prop} (k : K) (f : PLift K → G := by
 intro k
 repeat (first | (refine OpsL.q (by first | exact oasg | exact ofa | exact old | exact olen) ?_) | (refine Trip.seq ?_) | (refine Trip.ops ?_) | (refine OpsL.nil ?_; (change Trip _ _ _ _ _)))
 exact k.down) : G := f ⟨k⟩
theorem zg78 {G K : Prop} (k : K) (f : PLift K → G := by
 intro k
 repeat (first | (refine OpsL.q (by exact opkT) ?_) | (refine OpsL.nil ?_; (change Trip _ _ _ _ _)))
 exact k.down) : G := f ⟨k⟩
theorem zg79 {G K : Prop} (k : K) (f : PLift K → G := by
 intro k
 repeat (first | (refine OpsL.q (by first | exact omv | exact ofa | exact old) ?_) | (refine Trip.seq ?_) | (refine Trip.ops ?_))
 exact k.down) : G := f ⟨k⟩
theorem zg80 {G K : Prop} (k : K) (f : PLift K → G := by
 intro k
 refine Trip.ifT ?_
 refine zg12 ?_
 exact k.down) : G := f ⟨k⟩
theorem zg81 {G K : Prop} (k : K) (f : PLift K → G := by
 intro k
 refine zg1 ?_
 repeat (first | (refine OpsL.q (by exact olen) ?_) | (refine OpsL.nil ?_; (skip)) | (refine OpsL.ung ?_))
 exact k.down) : G := f ⟨k⟩
theorem zg82 {G K : Prop} (k : K) (f : PLift K → G := by
 intro k
 repeat (first | (refine OpsL.q (by first | exact omv | exact oasg | exact olen) ?_) | (refine Trip.seq ?_) | (refine Trip.ops ?_) | (refine OpsL.nil ?_; (change Trip _ _ _ _ _)))
 exact k.down) : G := f ⟨k⟩
theorem zg83 {G K : Prop} (k : K) (f : PLift K → G := by
 intro k
 repeat (first | (refine OpsL.q (by exact oasg) ?_) | (refine Trip.ret ?_; ((repeat (refine blockExit_ret ?_)); dsimp only)) | (refine OpsL.nil ?_; (change Trip _ _ _ _ _)))
 exact k.down) : G := f ⟨k⟩
theorem zg84 {G K : Prop} (k : K) (f : PLift K → G := by
 intro k
 refine OpsR.act (by kernel_rfl) (ActStep.walk rfl rfl ?_)
 exact k.down) : G := f ⟨k⟩
theorem zg85 {G K : Prop} (k : K) (f : PLift K → G := by
 intro k
 repeat (first | (refine Trip.ret ?_; (dsimp only)))
 exact k.down) : G := f ⟨k⟩
theorem zg86 {G K : Prop} (k : K) (f : PLift K → G := by
 intro k
 refine zg48 ?_
 refine zg8 ?_
 refine zg15 ?_
 exact k.down) : G := f ⟨k⟩
theorem zg87 {G K : Prop} (k : K) (f : PLift K → G := by
 intro k
 repeat (first | (refine OpsL.q (by exact omv) ?_) | (refine Trip.ops ?_))
 exact k.down) : G := f ⟨k⟩
theorem zg88 {G K : Prop} (k : K) (f : PLift K → G := by
 intro k
 refine Trip.ifF ?_
 exact k.down) : G := f ⟨k⟩
theorem zg89 {G K : Prop} (k : K) (f : PLift K → G := by
 intro k
 refine ActStep.walk rfl rfl ?_
 exact k.down) : G := f ⟨k⟩
theorem zg90 {G K : Prop} (k : K) (f : PLift K → G := by
 intro k
 refine Trip.ifT ?_
 refine zg11 ?_
 exact k.down) : G := f ⟨k⟩
theorem zg91 {G K : Prop} (k : K) (f : PLift K → G := by
 intro k
 refine zg9 ?_
 refine zg1 ?_
 refine zg5 ?_
 exact k.down) : G := f ⟨k⟩
theorem zg92 {G K : Prop} (k : K) (f : PLift K → G := by
 intro k
 refine zg6 ?_
 refine zg6 ?_
 refine zg6 ?_
 refine zg6 ?_
 refine zg6 ?_
 exact k.down) : G := f ⟨k⟩
theorem zg93 {G K : Prop} (k : K) (f : PLift K → G := by
 intro k
 repeat (first | (refine OpsL.q (by first | exact omv | exact oasg | exact aop_nilCheck (by (first | (simp only [ASt.ev, tmPut, ↓reduceIte, Nat.reduceEqDiff, *]; rfl))) | exact ofa | exact old | exact osub) ?_) | (refine Trip.seq ?_) | (refine Trip.ops ?_) | (refine OpsL.nil ?_; (change Trip _ _ _ _ _)))
 exact k.down) : G := f ⟨k⟩
theorem zg94 {G K : Prop} (k : K) (f : PLift K → G := by
 intro k
 repeat (first | (refine OpsL.q (by exact oixa) ?_))
 exact k.down) : G := f ⟨k⟩
theorem zg95 {G K : Prop} (k : K) (f : PLift K → G := by
 intro k
 refine zg68 ?_
 repeat (first | (refine OpsL.q (by first | exact omv | exact oasg | exact oeql | exact olen | exact oixa | exact ofa | exact old) ?_) | (refine Trip.seq ?_) | (refine Trip.ops ?_) | (refine Trip.ret ?_; (dsimp only)) | (refine OpsL.nil ?_; (change Trip _ _ _ _ _)))
 exact k.down) : G := f ⟨k⟩
theorem zg96 {G K : Prop} (k : K) (f : PLift K → G := by
 intro k
 refine zg88 ?_
 repeat (first | (refine OpsL.q (by first | exact omv | exact oasg) ?_) | (refine Trip.seq ?_) | (refine Trip.ops ?_) | (refine Trip.skip ?_; (change Trip _ _ _ _ _)) | (refine Trip.ret ?_; (dsimp only)) | (refine OpsL.nil ?_; (change Trip _ _ _ _ _)))
 exact k.down) : G := f ⟨k⟩
theorem zg97 {G K : Prop} (k : K) (f : PLift K → G := by
 intro k
 repeat (first | (refine OpsL.q (by exact oasg) ?_) | (refine Trip.ret ?_; (dsimp only)) | (refine OpsL.nil ?_; (change Trip _ _ _ _ _)))
 exact k.down) : G := f ⟨k⟩
theorem zg98 {G K : Prop} (k : K) (f : PLift K → G := by
 intro k
 refine zg46 ?_
 refine OpsR.nil ?_
 exact k.down) : G := f ⟨k⟩
theorem zg99 {G K : Prop} (k : K) (f : PLift K → G := by
 intro k
 repeat (first | (refine OpsL.q (by exact omv) ?_) | (refine OpsL.ung ?_))
 exact k.down) : G := f ⟨k⟩
theorem zg100 {G K : Prop} (k : K) (f : PLift K → G := by
 intro k
 repeat (first | (refine OpsL.q (by first | exact oixa | exact old) ?_))
 exact k.down) : G := f ⟨k⟩
theorem zg101 {G K : Prop} (k : K) (f : PLift K → G := by
 intro k
 refine zg1 ?_
 refine OpsL.ung ?_
 exact k.down) : G := f ⟨k⟩
theorem zg102 {G K : Prop} (k : K) (f : PLift K → G := by
 intro k
 repeat (first | (refine OpsL.q (by first | exact omv | exact oadd) ?_) | (refine Trip.ops ?_) | (refine Trip.exit ?_; ((repeat (first | refine blockExit_eq ?_ | refine blockExit_normal ?_)); change Trip _ _ _ _ _)) | (refine OpsL.nil ?_; (dsimp only)))
 exact k.down) : G := f ⟨k⟩
theorem zg103 {G K : Prop} (k : K) (f : PLift K → G := by
 intro k
 refine zg88 ?_
 repeat (first | (refine Trip.seq ?_) | (refine Trip.ops ?_) | (refine Trip.skip ?_; (change Trip _ _ _ _ _)))
 exact k.down) : G := f ⟨k⟩
theorem zg104 {G K : Prop} (k : K) (f : PLift K → G := by
 intro k
 ((repeat (refine blockExit_eq ?_)); change Trip _ _ _ _ _)
 exact k.down) : G := f ⟨k⟩
theorem zg105 {G K : Prop} (k : K) (f : PLift K → G := by
 intro k
 repeat (first | (refine OpsL.q (by exact opkT) ?_) | (refine OpsL.nil ?_; (dsimp only)))
 exact k.down) : G := f ⟨k⟩
theorem zg106 {G K : Prop} (k : K) (f : PLift K → G := by
 intro k
 refine zg45 ?_
 refine zg7 ?_
 refine zg2 ?_
 exact k.down) : G := f ⟨k⟩
theorem zg107 {G K : Prop} (k : K) (f : PLift K → G := by
 intro k
 refine zg23 ?_
 refine zg88 ?_
 exact k.down) : G := f ⟨k⟩
theorem zg108 {G K : Prop} (k : K) (f : PLift K → G := by
 intro k
 refine zg10 ?_
 refine zg19 ?_
 exact k.down) : G := f ⟨k⟩
theorem zg109 {G K : Prop} (k : K) (f : PLift K → G := by
 intro k
 ((repeat (first | refine blockExit_eq ?_ | refine blockExit_normal ?_)); change Trip _ _ _ _ _)
 repeat (first | (refine OpsL.q (by first | exact omv | exact oadd | exact oasg) ?_) | (refine Trip.ops ?_) | (refine OpsL.nil ?_; (dsimp only)))
 exact k.down) : G := f ⟨k⟩
theorem zg110 {G K : Prop} (k : K) (f : PLift K → G := by
 intro k
 refine zg4 ?_
 refine zg16 ?_
 exact k.down) : G := f ⟨k⟩
theorem zg111 {G K : Prop} (k : K) (f : PLift K → G := by
 intro k
 repeat (first | (refine OpsL.q (by exact onot) ?_) | (refine OpsL.nil ?_; (skip)))
 exact k.down) : G := f ⟨k⟩
theorem zg112 {G K : Prop} (k : K) (f : PLift K → G := by
 intro k
 refine zg51 ?_
 refine zg86 ?_
 refine zg4 ?_
 refine zg52 ?_
 refine zg86 ?_
 refine zg52 ?_
 exact k.down) : G := f ⟨k⟩
theorem zg113 {G K : Prop} (k : K) (f : PLift K → G := by
 intro k
 refine zg10 ?_
 refine zg3 ?_
 refine zg1 ?_
 exact k.down) : G := f ⟨k⟩
theorem zg114 {G K : Prop} (k : K) (f : PLift K → G := by
 intro k
 refine zg48 ?_
 refine zg8 ?_
 refine zg9 ?_
 exact k.down) : G := f ⟨k⟩
theorem zg115 {G K : Prop} (k : K) (f : PLift K → G := by
 intro k
 repeat (first | (refine OpsL.q (by first | exact omv | exact oixa | exact old) ?_) | (refine Trip.ops ?_))
 exact k.down) : G := f ⟨k⟩
theorem zg116 {G K : Prop} (k : K) (f : PLift K → G := by
 intro k
 refine zg18 ?_
 refine zg41 ?_
 refine zg1 ?_
 repeat (first | (refine OpsL.q (by exact opkF) ?_) | (refine OpsL.nil ?_; (skip)) | (refine OpsL.ung ?_))
 refine zg17 ?_
 refine OpsR.nil ?_
 exact k.down) : G := f ⟨k⟩
theorem zg117 {G K : Prop} (k : K) (f : PLift K → G := by
 intro k
 repeat (first | (refine OpsL.q (by exact onot) ?_) | (refine OpsL.ung ?_))
 exact k.down) : G := f ⟨k⟩
theorem zg118 {G K : Prop} (k : K) (f : PLift K → G := by
 intro k
 repeat (first | (refine OpsL.q (by first | exact omv | exact oasg | exact ofa | exact old | exact oixa) ?_) | (refine Trip.seq ?_) | (refine Trip.ops ?_) | (refine OpsL.nil ?_; (change Trip _ _ _ _ _)))
 exact k.down) : G := f ⟨k⟩
theorem zg119 {G K : Prop} (k : K) (f : PLift K → G := by
 intro k
 refine zg52 ?_
 refine zg28 ?_
 exact k.down) : G := f ⟨k⟩
theorem zg120 {G K : Prop} (k : K) (f : PLift K → G := by
 intro k
 repeat (first | (refine OpsL.q (by first | exact oasg | exact omv) ?_) | (refine Trip.ops ?_) | (refine OpsL.nil ?_; ((repeat (refine blockExit_normal ?_)); change Trip _ _ _ _ _)))
 refine zg53 ?_
 exact k.down) : G := f ⟨k⟩
theorem zg121 {G K : Prop} (k : K) (f : PLift K → G := by
 intro k
 refine zg1 ?_
 refine zg33 ?_
 exact k.down) : G := f ⟨k⟩
theorem zg122 {G K : Prop} (k : K) (f : PLift K → G := by
 intro k
 refine zg1 ?_
 refine zg27 ?_
 exact k.down) : G := f ⟨k⟩
theorem zg123 {G K : Prop} (k : K) (f : PLift K → G := by
 intro k
 repeat (first | (refine OpsL.q (by first | exact omv | exact oasg | exact opkF) ?_) | (refine Trip.ret ?_; (dsimp only)) | (refine OpsL.nil ?_; (change Trip _ _ _ _ _)) | (refine OpsL.skp ?_))
 exact k.down) : G := f ⟨k⟩
end Go.Am
