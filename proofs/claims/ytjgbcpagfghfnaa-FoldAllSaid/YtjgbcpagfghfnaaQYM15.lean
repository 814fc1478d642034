import Derived.Test.YtjgbcpagfghfnaaQYM14
namespace Go.Am
open Go.RowKit
section
variable {P : Program} {W0 : World} {ops : Array Oper} {dst : Option Tmp} {op : Op} {guard : Option (Nat × Bool)} {ev : Operand → Option Value} {type : TypeId} {pos : String} {after : Array Edge} {l : List Oper} {tm : Nat → Value} {n nx : Nat} {H : Heap} {v w : Value} {QQ : ASt → Prop} {d : Tmp} {t u s e : TypeId} {x y z : Operand} {k k' : IntKind} {a b : Int}
theorem zc (hop : aop P H nx (ASt.ev ⟨tm, n, H, nx⟩) ⟨some d, op, type, pos, after, none⟩ = some (v, .none)) (h : OpsL P W0 ops l ⟨zb tm (some d) v, n, H, nx⟩ QQ) (hd : d < n := by first | decide | (refine Nat.lt_of_lt_of_eq ?_ (Eq.symm ‹_›); decide)) : OpsL P W0 ops (⟨some d, op, type, pos, after, none⟩ :: l) ⟨tm, n, H, nx⟩ QQ := zw hd hop h
theorem omv (hx : ev x = some v := by simp only [ASt.ev, zb, ↓reduceIte, Nat.reduceEqDiff, zK, *]; first | done | rfl) : aop P H nx ev ⟨dst, .move x, type, pos, after, guard⟩ = some (v, .none) := ze9 hx
theorem z09 (hx : ev x = some v := by simp only [ASt.ev, zb, ↓reduceIte, Nat.reduceEqDiff, zK, *]; first | done | rfl) : aop P H nx ev ⟨dst, .assign x, type, pos, after, guard⟩ = some (v, .none) := zbM hx
theorem z24 (hx : ev x = some (.int k a) := by simp only [ASt.ev, zb, ↓reduceIte, Nat.reduceEqDiff, zK, *]; first | done | rfl) (hy : ev y = some (.int k b) := by simp only [ASt.ev, zb, ↓reduceIte, Nat.reduceEqDiff, zK, *]; first | done | rfl) : aop P H nx ev ⟨dst, .binOp .lss t x y u, type, pos, after, guard⟩ = some ((.bool (decide (a < b))), .none) := zad hx hy
theorem z0y (h : OpsL P W0 ops l ⟨zb tm (some d) (.bool true), n, H, nx⟩ QQ) (hd : d < n := by first | decide | (refine Nat.lt_of_lt_of_eq ?_ (Eq.symm ‹_›); decide)) (hx : ASt.ev ⟨tm, n, H, nx⟩ x = some (.int k a) := by simp only [ASt.ev, zb, ↓reduceIte, Nat.reduceEqDiff, zK, *]; first | done | rfl) (hy : ASt.ev ⟨tm, n, H, nx⟩ y = some (.int k b) := by simp only [ASt.ev, zb, ↓reduceIte, Nat.reduceEqDiff, zK, *]; first | done | rfl) (c : a < b := by omega) : OpsL P W0 ops (⟨some d, .binOp .lss t x y u, type, pos, after, none⟩ :: l) ⟨tm, n, H, nx⟩ QQ := zw hd (zea hx hy c) h
theorem z0z (h : OpsL P W0 ops l ⟨zb tm (some d) (.bool false), n, H, nx⟩ QQ) (hd : d < n := by first | decide | (refine Nat.lt_of_lt_of_eq ?_ (Eq.symm ‹_›); decide)) (hx : ASt.ev ⟨tm, n, H, nx⟩ x = some (.int k a) := by simp only [ASt.ev, zb, ↓reduceIte, Nat.reduceEqDiff, zK, *]; first | done | rfl) (hy : ASt.ev ⟨tm, n, H, nx⟩ y = some (.int k b) := by simp only [ASt.ev, zb, ↓reduceIte, Nat.reduceEqDiff, zK, *]; first | done | rfl) (c : ¬ (a < b) := by omega) : OpsL P W0 ops (⟨some d, .binOp .lss t x y u, type, pos, after, none⟩ :: l) ⟨tm, n, H, nx⟩ QQ := zw hd (zeb hx hy c) h
theorem zhA (hx : ev x = some (.int k a) := by simp only [ASt.ev, zb, ↓reduceIte, Nat.reduceEqDiff, zK, *]; first | done | rfl) (hy : ev y = some (.int k b) := by simp only [ASt.ev, zb, ↓reduceIte, Nat.reduceEqDiff, zK, *]; first | done | rfl) : aop P H nx ev ⟨dst, .binOp .leq t x y u, type, pos, after, guard⟩ = some ((.bool (decide (a ≤ b))), .none) := zfj hx hy
theorem zgZ (hx : ev x = some (.int k a) := by simp only [ASt.ev, zb, ↓reduceIte, Nat.reduceEqDiff, zK, *]; first | done | rfl) (hy : ev y = some (.int k b) := by simp only [ASt.ev, zb, ↓reduceIte, Nat.reduceEqDiff, zK, *]; first | done | rfl) : aop P H nx ev ⟨dst, .binOp .gtr t x y u, type, pos, after, guard⟩ = some ((.bool (decide (b < a))), .none) := zae hx hy
theorem z4e (h : OpsL P W0 ops l ⟨zb tm (some d) (.bool true), n, H, nx⟩ QQ) (hd : d < n := by first | decide | (refine Nat.lt_of_lt_of_eq ?_ (Eq.symm ‹_›); decide)) (hx : ASt.ev ⟨tm, n, H, nx⟩ x = some (.int k a) := by simp only [ASt.ev, zb, ↓reduceIte, Nat.reduceEqDiff, zK, *]; first | done | rfl) (hy : ASt.ev ⟨tm, n, H, nx⟩ y = some (.int k b) := by simp only [ASt.ev, zb, ↓reduceIte, Nat.reduceEqDiff, zK, *]; first | done | rfl) (c : b < a := by omega) : OpsL P W0 ops (⟨some d, .binOp .gtr t x y u, type, pos, after, none⟩ :: l) ⟨tm, n, H, nx⟩ QQ := zw hd (zbc hx hy c) h
theorem z4f (h : OpsL P W0 ops l ⟨zb tm (some d) (.bool false), n, H, nx⟩ QQ) (hd : d < n := by first | decide | (refine Nat.lt_of_lt_of_eq ?_ (Eq.symm ‹_›); decide)) (hx : ASt.ev ⟨tm, n, H, nx⟩ x = some (.int k a) := by simp only [ASt.ev, zb, ↓reduceIte, Nat.reduceEqDiff, zK, *]; first | done | rfl) (hy : ASt.ev ⟨tm, n, H, nx⟩ y = some (.int k b) := by simp only [ASt.ev, zb, ↓reduceIte, Nat.reduceEqDiff, zK, *]; first | done | rfl) (c : ¬ (b < a) := by omega) : OpsL P W0 ops (⟨some d, .binOp .gtr t x y u, type, pos, after, none⟩ :: l) ⟨tm, n, H, nx⟩ QQ := zw hd (zbd hx hy c) h
theorem zhB (hx : ev x = some (.int k a) := by simp only [ASt.ev, zb, ↓reduceIte, Nat.reduceEqDiff, zK, *]; first | done | rfl) (hy : ev y = some (.int k b) := by simp only [ASt.ev, zb, ↓reduceIte, Nat.reduceEqDiff, zK, *]; first | done | rfl) : aop P H nx ev ⟨dst, .binOp .geq t x y u, type, pos, after, guard⟩ = some ((.bool (decide (b ≤ a))), .none) := zaf hx hy
theorem z5f (h : OpsL P W0 ops l ⟨zb tm (some d) (.bool true), n, H, nx⟩ QQ) (hd : d < n := by first | decide | (refine Nat.lt_of_lt_of_eq ?_ (Eq.symm ‹_›); decide)) (hx : ASt.ev ⟨tm, n, H, nx⟩ x = some (.int k a) := by simp only [ASt.ev, zb, ↓reduceIte, Nat.reduceEqDiff, zK, *]; first | done | rfl) (hy : ASt.ev ⟨tm, n, H, nx⟩ y = some (.int k b) := by simp only [ASt.ev, zb, ↓reduceIte, Nat.reduceEqDiff, zK, *]; first | done | rfl) (c : b ≤ a := by omega) : OpsL P W0 ops (⟨some d, .binOp .geq t x y u, type, pos, after, none⟩ :: l) ⟨tm, n, H, nx⟩ QQ := zw hd (z54 hx hy c) h
theorem z5g (h : OpsL P W0 ops l ⟨zb tm (some d) (.bool false), n, H, nx⟩ QQ) (hd : d < n := by first | decide | (refine Nat.lt_of_lt_of_eq ?_ (Eq.symm ‹_›); decide)) (hx : ASt.ev ⟨tm, n, H, nx⟩ x = some (.int k a) := by simp only [ASt.ev, zb, ↓reduceIte, Nat.reduceEqDiff, zK, *]; first | done | rfl) (hy : ASt.ev ⟨tm, n, H, nx⟩ y = some (.int k b) := by simp only [ASt.ev, zb, ↓reduceIte, Nat.reduceEqDiff, zK, *]; first | done | rfl) (c : ¬ (b ≤ a) := by omega) : OpsL P W0 ops (⟨some d, .binOp .geq t x y u, type, pos, after, none⟩ :: l) ⟨tm, n, H, nx⟩ QQ := zw hd (z55 hx hy c) h
theorem zfs (hx : ev x = some (.int k a) := by simp only [ASt.ev, zb, ↓reduceIte, Nat.reduceEqDiff, zK, *]; first | done | rfl) (hy : ev y = some (.int k b) := by simp only [ASt.ev, zb, ↓reduceIte, Nat.reduceEqDiff, zK, *]; first | done | rfl) : aop P H nx ev ⟨dst, .binOp .eql t x y u, type, pos, after, guard⟩ = some ((.bool (decide (a = b))), .none) := zag hx hy
theorem z0H (h : OpsL P W0 ops l ⟨zb tm (some d) (.bool true), n, H, nx⟩ QQ) (hd : d < n := by first | decide | (refine Nat.lt_of_lt_of_eq ?_ (Eq.symm ‹_›); decide)) (hx : ASt.ev ⟨tm, n, H, nx⟩ x = some (.int k a) := by simp only [ASt.ev, zb, ↓reduceIte, Nat.reduceEqDiff, zK, *]; first | done | rfl) (hy : ASt.ev ⟨tm, n, H, nx⟩ y = some (.int k b) := by simp only [ASt.ev, zb, ↓reduceIte, Nat.reduceEqDiff, zK, *]; first | done | rfl) (c : a = b := by omega) : OpsL P W0 ops (⟨some d, .binOp .eql t x y u, type, pos, after, none⟩ :: l) ⟨tm, n, H, nx⟩ QQ := zw hd (z39 hx hy c) h
theorem z30 (h : OpsL P W0 ops l ⟨zb tm (some d) (.bool false), n, H, nx⟩ QQ) (hd : d < n := by first | decide | (refine Nat.lt_of_lt_of_eq ?_ (Eq.symm ‹_›); decide)) (hx : ASt.ev ⟨tm, n, H, nx⟩ x = some (.int k a) := by simp only [ASt.ev, zb, ↓reduceIte, Nat.reduceEqDiff, zK, *]; first | done | rfl) (hy : ASt.ev ⟨tm, n, H, nx⟩ y = some (.int k b) := by simp only [ASt.ev, zb, ↓reduceIte, Nat.reduceEqDiff, zK, *]; first | done | rfl) (c : ¬ (a = b) := by omega) : OpsL P W0 ops (⟨some d, .binOp .eql t x y u, type, pos, after, none⟩ :: l) ⟨tm, n, H, nx⟩ QQ := zw hd (z2c hx hy c) h
theorem z08 (h : OpsL P W0 ops l ⟨zb tm (some d) (.bool true), n, H, nx⟩ QQ) (hd : d < n := by first | decide | (refine Nat.lt_of_lt_of_eq ?_ (Eq.symm ‹_›); decide)) (hx : ASt.ev ⟨tm, n, H, nx⟩ x = some (.int k a) := by simp only [ASt.ev, zb, ↓reduceIte, Nat.reduceEqDiff, zK, *]; first | done | rfl) (hy : ASt.ev ⟨tm, n, H, nx⟩ y = some (.int k b) := by simp only [ASt.ev, zb, ↓reduceIte, Nat.reduceEqDiff, zK, *]; first | done | rfl) (c : a ≠ b := by omega) : OpsL P W0 ops (⟨some d, .binOp .neq t x y u, type, pos, after, none⟩ :: l) ⟨tm, n, H, nx⟩ QQ := zw hd (zbb hx hy c) h
theorem z02 (h : OpsL P W0 ops l ⟨zb tm (some d) (.bool false), n, H, nx⟩ QQ) (hd : d < n := by first | decide | (refine Nat.lt_of_lt_of_eq ?_ (Eq.symm ‹_›); decide)) (hx : ASt.ev ⟨tm, n, H, nx⟩ x = some (.int k a) := by simp only [ASt.ev, zb, ↓reduceIte, Nat.reduceEqDiff, zK, *]; first | done | rfl) (hy : ASt.ev ⟨tm, n, H, nx⟩ y = some (.int k b) := by simp only [ASt.ev, zb, ↓reduceIte, Nat.reduceEqDiff, zK, *]; first | done | rfl) (c : a = b := by omega) : OpsL P W0 ops (⟨some d, .binOp .neq t x y u, type, pos, after, none⟩ :: l) ⟨tm, n, H, nx⟩ QQ := zw hd (z87 hx hy c) h
theorem z4W {q : Bool} (hx : ev x = some (.bool q) := by simp only [ASt.ev, zb, ↓reduceIte, Nat.reduceEqDiff, zK, *]; first | done | rfl) : aop P H nx ev ⟨dst, .unOp .not t x, type, pos, after, guard⟩ = some ((.bool (!q)), .none) := zfi hx
theorem z6e (hx : ev x = some (.int .i64 a) := by simp only [ASt.ev, zb, ↓reduceIte, Nat.reduceEqDiff, zK, *]; first | done | rfl) (hy : ev y = some (.int .i64 b) := by simp only [ASt.ev, zb, ↓reduceIte, Nat.reduceEqDiff, zK, *]; first | done | rfl) (c : -9223372036854775808 ≤ a + b ∧ a + b ≤ 9223372036854775807 := by omega) : aop P H nx ev ⟨dst, .binOp .add t x y u, type, pos, after, guard⟩ = some ((.int .i64 (a + b)), .none) := z7W hx hy c
theorem zc9 (hx : ev x = some (.int .i64 a) := by simp only [ASt.ev, zb, ↓reduceIte, Nat.reduceEqDiff, zK, *]; first | done | rfl) (hy : ev y = some (.int .i64 b) := by simp only [ASt.ev, zb, ↓reduceIte, Nat.reduceEqDiff, zK, *]; first | done | rfl) (c : -9223372036854775808 ≤ a - b ∧ a - b ≤ 9223372036854775807 := by omega) : aop P H nx ev ⟨dst, .binOp .sub t x y u, type, pos, after, guard⟩ = some ((.int .i64 (a - b)), .none) := zfh hx hy c
theorem z1g {m c : Nat} {p : Option Addr} (hx : ev x = some (.slice p m c) := by simp only [ASt.ev, zb, ↓reduceIte, Nat.reduceEqDiff, zK, *]; first | done | rfl) (hu : P.underlying t = some (.slice e) := by exact rfl) : aop P H nx ev ⟨dst, .call ⟨.builtin .len, #[x], #[t]⟩, type, pos, after, guard⟩ = some ((.int .i64 (m : Int)), .none) := zcI hx hu
theorem z1j {m c sz : Nat} {p : Addr} (hx : ev x = some (.slice (some p) m c) := by simp only [ASt.ev, zb, ↓reduceIte, Nat.reduceEqDiff, zK, *]; first | done | rfl) (hy : ev y = some (.int k a) := by simp only [ASt.ev, zb, ↓reduceIte, Nat.reduceEqDiff, zK, *]; first | done | rfl) (hu : P.underlying t = some (.slice e) := by exact rfl) (hs : z1W P e = some sz := by exact rfl) (h0 : 0 ≤ a := by omega) (h1 : a < m := by omega) : aop P H nx ev ⟨dst, .indexAddr t x y, type, pos, after, guard⟩ = some ((.pointer (some ⟨p.block, p.off + a.toNat * sz, p.spot⟩)), .none) := z3M hx hy hu hs h0 h1
theorem ofa {f : Nat} {p : Addr} (hx : ev x = some (.pointer (some p)) := by simp only [ASt.ev, zb, ↓reduceIte, Nat.reduceEqDiff, zK, *]; first | done | rfl) (hv : z3r P s (.pointer (some p)) f = some v := by exact rfl) : aop P H nx ev ⟨dst, .fieldAddr s x f, type, pos, after, guard⟩ = some (v, .none) := z1y hx hv
theorem old {p : Addr} {dd : TypeDesc} (hx : ev x = some (.pointer (some p)) := by simp only [ASt.ev, zb, ↓reduceIte, Nat.reduceEqDiff, zK, *]; first | done | rfl) (hu : P.underlying t = some dd := by exact rfl) (hg : z5O dd = false := by rfl) (hc : zf H p v := by assumption) : aop P H nx ev ⟨dst, .load t x, type, pos, after, guard⟩ = some (v, .none) := z0a hx hu hg hc
theorem z3O (hx : ev x = some (.bool true) := by simp only [ASt.ev, zb, ↓reduceIte, reduceIte, Nat.reduceEqDiff, decide_true, decide_false, not_true_eq_false, not_false_eq_true, Bool.not_true, Bool.not_false, *]; first | done | rfl) (hy : ev y = some v := by simp only [ASt.ev, zb, ↓reduceIte, Nat.reduceEqDiff, zK, *]; first | done | rfl) : aop P H nx ev ⟨dst, .pick x y z, type, pos, after, guard⟩ = some (v, .none) := zd5 hx hy
theorem z3u (hx : ev x = some (.bool false) := by simp only [ASt.ev, zb, ↓reduceIte, reduceIte, Nat.reduceEqDiff, decide_true, decide_false, not_true_eq_false, not_false_eq_true, Bool.not_true, Bool.not_false, *]; first | done | rfl) (hy : ev z = some v := by simp only [ASt.ev, zb, ↓reduceIte, Nat.reduceEqDiff, zK, *]; first | done | rfl) : aop P H nx ev ⟨dst, .pick x y z, type, pos, after, guard⟩ = some (v, .none) := zd6 hx hy
theorem zB {j : Nat} {want : Bool} {d' : Tmp} (h : OpsL P W0 ops (⟨dst, op, type, pos, after, none⟩ :: l) ⟨tm, n, H, nx⟩ QQ) (hj : (ops[j]?).bind (·.dst) = some d' := by exact rfl) (hb : tm d' = .bool want := by simp only [ASt.ev, zb, ↓reduceIte, reduceIte, Nat.reduceEqDiff, decide_true, decide_false, not_true_eq_false, not_false_eq_true, Bool.not_true, Bool.not_false, *]; first | done | rfl) : OpsL P W0 ops (⟨dst, op, type, pos, after, some (j, want)⟩ :: l) ⟨tm, n, H, nx⟩ QQ := z5Z hj hb h
theorem z0e {j : Nat} {want : Bool} {d' : Tmp} (h : OpsL P W0 ops l ⟨zb tm (some d) undef, n, H, nx⟩ QQ) (hj : (ops[j]?).bind (·.dst) = some d' := by exact rfl) (hb : tm d' = .bool (!want) := by simp only [ASt.ev, zb, ↓reduceIte, reduceIte, Nat.reduceEqDiff, decide_true, decide_false, not_true_eq_false, not_false_eq_true, Bool.not_true, Bool.not_false, *]; first | done | rfl) (hd : d < n := by first | decide | (refine Nat.lt_of_lt_of_eq ?_ (Eq.symm ‹_›); decide)) : OpsL P W0 ops (⟨some d, op, type, pos, after, some (j, want)⟩ :: l) ⟨tm, n, H, nx⟩ QQ := z60 hj hb hd h
theorem z58 {j : Nat} {want : Bool} {d' : Tmp} (h : OpsL P W0 ops l ⟨zb tm (some d) undef, n, H, nx⟩ QQ) (hj : (ops[j]?).bind (·.dst) = some d' := by exact rfl) (hb : tm d' = undef := by simp only [ASt.ev, zb, ↓reduceIte, reduceIte, Nat.reduceEqDiff, decide_true, decide_false, not_true_eq_false, not_false_eq_true, Bool.not_true, Bool.not_false, *]; first | done | rfl) (hd : d < n := by first | decide | (refine Nat.lt_of_lt_of_eq ?_ (Eq.symm ‹_›); decide)) : OpsL P W0 ops (⟨some d, op, type, pos, after, some (j, want)⟩ :: l) ⟨tm, n, H, nx⟩ QQ := z8z hj hb hd h
theorem zcJ {j : Nat} {d' : Tmp} {p : Prop} [Decidable p] (h1 : p → OpsL P W0 ops (⟨some d, op, type, pos, after, none⟩ :: l) ⟨tm, n, H, nx⟩ QQ) (h2 : ¬p → OpsL P W0 ops l ⟨zb tm (some d) undef, n, H, nx⟩ QQ) (hj : (ops[j]?).bind (·.dst) = some d' := by exact rfl) (hb : tm d' = .bool (decide p) := by simp only [ASt.ev, zb, ↓reduceIte, Nat.reduceEqDiff, zK, *]; first | done | rfl) (hd : d < n := by first | decide | (refine Nat.lt_of_lt_of_eq ?_ (Eq.symm ‹_›); decide)) : OpsL P W0 ops (⟨some d, op, type, pos, after, some (j, true)⟩ :: l) ⟨tm, n, H, nx⟩ QQ := zaA hj hb hd h1 h2
theorem zcK {j : Nat} {d' : Tmp} {p : Prop} [Decidable p] (h1 : ¬p → OpsL P W0 ops (⟨some d, op, type, pos, after, none⟩ :: l) ⟨tm, n, H, nx⟩ QQ) (h2 : p → OpsL P W0 ops l ⟨zb tm (some d) undef, n, H, nx⟩ QQ) (hj : (ops[j]?).bind (·.dst) = some d' := by exact rfl) (hb : tm d' = .bool (decide p) := by simp only [ASt.ev, zb, ↓reduceIte, Nat.reduceEqDiff, zK, *]; first | done | rfl) (hd : d < n := by first | decide | (refine Nat.lt_of_lt_of_eq ?_ (Eq.symm ‹_›); decide)) : OpsL P W0 ops (⟨some d, op, type, pos, after, some (j, false)⟩ :: l) ⟨tm, n, H, nx⟩ QQ := zaB hj hb hd h1 h2
variable {f : FuncId} {R : Value → Nat → Heap → Prop} {ts : Array TypeId} {va vb vc ve : Value}
theorem OpsL.c0 (hd : d < n := by first | decide | (refine Nat.lt_of_lt_of_eq ?_ (Eq.symm ‹_›); decide))  (hf : z1G P f) (hc : ACalls P W0 f [] nx H R) (h : ∀ v nx' H', R v nx' H' → OpsL P W0 ops l ⟨zb tm (some d) v, n, H', nx'⟩ QQ) : OpsL P W0 ops (⟨some d, .call ⟨.value (.func f), #[], ts⟩, type, pos, after, none⟩ :: l) ⟨tm, n, H, nx⟩ QQ := zbU hd  hf hc h
theorem OpsL.c1 (hd : d < n := by first | decide | (refine Nat.lt_of_lt_of_eq ?_ (Eq.symm ‹_›); decide)) (hx : ASt.ev ⟨tm, n, H, nx⟩ x = some va := by simp only [ASt.ev, zb, ↓reduceIte, Nat.reduceEqDiff, zK, *]; first | done | rfl) (hf : z1G P f) (hc : ACalls P W0 f [va] nx H R) (h : ∀ v nx' H', R v nx' H' → OpsL P W0 ops l ⟨zb tm (some d) v, n, H', nx'⟩ QQ) : OpsL P W0 ops (⟨some d, .call ⟨.value (.func f), #[x], ts⟩, type, pos, after, none⟩ :: l) ⟨tm, n, H, nx⟩ QQ := zbT hd hx hf hc h
theorem OpsL.c2 (hd : d < n := by first | decide | (refine Nat.lt_of_lt_of_eq ?_ (Eq.symm ‹_›); decide)) (hx : ASt.ev ⟨tm, n, H, nx⟩ x = some va := by simp only [ASt.ev, zb, ↓reduceIte, Nat.reduceEqDiff, zK, *]; first | done | rfl) (hy : ASt.ev ⟨tm, n, H, nx⟩ y = some vb := by simp only [ASt.ev, zb, ↓reduceIte, Nat.reduceEqDiff, zK, *]; first | done | rfl) (hf : z1G P f) (hc : ACalls P W0 f [va, vb] nx H R) (h : ∀ v nx' H', R v nx' H' → OpsL P W0 ops l ⟨zb tm (some d) v, n, H', nx'⟩ QQ) : OpsL P W0 ops (⟨some d, .call ⟨.value (.func f), #[x, y], ts⟩, type, pos, after, none⟩ :: l) ⟨tm, n, H, nx⟩ QQ := z7O hd hx hy hf hc h
theorem OpsL.c3 (hd : d < n := by first | decide | (refine Nat.lt_of_lt_of_eq ?_ (Eq.symm ‹_›); decide)) (hx : ASt.ev ⟨tm, n, H, nx⟩ x = some va := by simp only [ASt.ev, zb, ↓reduceIte, Nat.reduceEqDiff, zK, *]; first | done | rfl) (hy : ASt.ev ⟨tm, n, H, nx⟩ y = some vb := by simp only [ASt.ev, zb, ↓reduceIte, Nat.reduceEqDiff, zK, *]; first | done | rfl) (hz : ASt.ev ⟨tm, n, H, nx⟩ z = some vc := by simp only [ASt.ev, zb, ↓reduceIte, Nat.reduceEqDiff, zK, *]; first | done | rfl) (hf : z1G P f) (hc : ACalls P W0 f [va, vb, vc] nx H R) (h : ∀ v nx' H', R v nx' H' → OpsL P W0 ops l ⟨zb tm (some d) v, n, H', nx'⟩ QQ) : OpsL P W0 ops (⟨some d, .call ⟨.value (.func f), #[x, y, z], ts⟩, type, pos, after, none⟩ :: l) ⟨tm, n, H, nx⟩ QQ := zbS hd hx hy hz hf hc h
theorem zbR {x y z w : Operand} (hd : d < n) (hx : ASt.ev ⟨tm, n, H, nx⟩ x = some va) (hy : ASt.ev ⟨tm, n, H, nx⟩ y = some vb) (hz : ASt.ev ⟨tm, n, H, nx⟩ z = some vc) (hw : ASt.ev ⟨tm, n, H, nx⟩ w = some ve) (hf : z1G P f) (hcall : ACalls P W0 f [va, vb, vc, ve] nx H R) (h : ∀ v nx' H', R v nx' H' → OpsL P W0 ops l ⟨zb tm (some d) v, n, H', nx'⟩ QQ) :
  OpsL P W0 ops (⟨some d, .call ⟨.value (.func f), #[x, y, z, w], ts⟩, type, pos, after, none⟩ :: l) ⟨tm, n, H, nx⟩ QQ := by
 refine OpsL.call R (by simp [z1B, hd]) rfl ?_ hf hcall h;have hf' : ASt.ev ⟨tm, n, H, nx⟩ (.func f) = some (.func (.func f) #[] #[]) := rfl;simp [z1z, hf', z1k, hx, hy, hz, hw]
theorem OpsL.c4 {x y z w : Operand} (hd : d < n := by first | decide | (refine Nat.lt_of_lt_of_eq ?_ (Eq.symm ‹_›); decide)) (hx : ASt.ev ⟨tm, n, H, nx⟩ x = some va := by simp only [ASt.ev, zb, ↓reduceIte, Nat.reduceEqDiff, zK, *]; first | done | rfl) (hy : ASt.ev ⟨tm, n, H, nx⟩ y = some vb := by simp only [ASt.ev, zb, ↓reduceIte, Nat.reduceEqDiff, zK, *]; first | done | rfl) (hz : ASt.ev ⟨tm, n, H, nx⟩ z = some vc := by simp only [ASt.ev, zb, ↓reduceIte, Nat.reduceEqDiff, zK, *]; first | done | rfl) (hw : ASt.ev ⟨tm, n, H, nx⟩ w = some ve := by simp only [ASt.ev, zb, ↓reduceIte, Nat.reduceEqDiff, zK, *]; first | done | rfl) (hf : z1G P f) (hc : ACalls P W0 f [va, vb, vc, ve] nx H R) (h : ∀ v nx' H', R v nx' H' → OpsL P W0 ops l ⟨zb tm (some d) v, n, H', nx'⟩ QQ) : OpsL P W0 ops (⟨some d, .call ⟨.value (.func f), #[x, y, z, w], ts⟩, type, pos, after, none⟩ :: l) ⟨tm, n, H, nx⟩ QQ := zbR hd hx hy hz hw hf hc h
end
section
variable {P : Program} {W0 : World} {st : ASt} {Q : AExit → ASt → Prop} {c : Operand} {x y : Code}
theorem zJ {p : Prop} [Decidable p] (h1 : p → Trip P W0 x st Q) (h2 : ¬p → Trip P W0 y st Q) (hc : st.ev c = some (.bool (decide p)) := by simp only [ASt.ev, zb, ↓reduceIte, Nat.reduceEqDiff, zK, *]; first | done | rfl) : Trip P W0 (.cond c x y) st Q := zed hc h1 h2
theorem z07 (h : Trip P W0 x st Q) (hc : st.ev c = some (.bool true) := by simp only [ASt.ev, zb, ↓reduceIte, reduceIte, Nat.reduceEqDiff, decide_true, decide_false, not_true_eq_false, not_false_eq_true, Bool.not_true, Bool.not_false, *]; first | done | rfl) : Trip P W0 (.cond c x y) st Q := z9i hc (fun _ => h) (fun h => absurd h (by decide))
theorem z2d (h : Trip P W0 y st Q) (hc : st.ev c = some (.bool false) := by simp only [ASt.ev, zb, ↓reduceIte, reduceIte, Nat.reduceEqDiff, decide_true, decide_false, not_true_eq_false, not_false_eq_true, Bool.not_true, Bool.not_false, *]; first | done | rfl) : Trip P W0 (.cond c x y) st Q := z9i hc (fun h => absurd h (by decide)) (fun _ => h)
end
theorem evd {A : Prop} (h : A := by simp only [ASt.ev, zb, ↓reduceIte, Nat.reduceEqDiff, *]; done) : A := h
theorem evr {A : Prop} (h : A := by simp only [ASt.ev, zb, ↓reduceIte, Nat.reduceEqDiff, *]; rfl) : A := h
theorem stp {A : Prop} (h : A := by simp [zb, *]) : A := h
theorem krf {A : Prop} (h : A := by kernel_rfl) : A := h
theorem sdc {A : Prop} (h : A := by subst_vars; decide) : A := h
theorem xrf {A : Prop} (h : A := by exact rfl) : A := h
theorem zg0 {G K : Prop} (k : K) (f : PLift K → G := by
 intro k;refine OpsR.one rfl rfl rfl (by kernel_rfl) ?_
 repeat (first | (refine OpsL.nil ?_; (skip)) | (refine z0e ?_))
 refine OpsR.one rfl rfl rfl (by kernel_rfl) ?_
 repeat (first | (refine OpsL.nil ?_; (skip)) | (refine z0e ?_))
 refine OpsR.one rfl rfl rfl (by kernel_rfl) ?_
 repeat (first | (refine OpsL.nil ?_; (skip)) | (refine z0e ?_))
 exact k.down) : G := f ⟨k⟩
theorem zg1 {G K : Prop} (k : K) (f : PLift K → G := by
 intro k;refine OpsR.one rfl rfl rfl (by kernel_rfl) ?_;exact k.down) : G := f ⟨k⟩
theorem zg2 {G K : Prop} (k : K) (f : PLift K → G := by
 intro k;refine zg1 ?_
 repeat (first | (refine zc (by exact omv) ?_) | (refine OpsL.nil ?_; (skip)) | (refine zB ?_))
 refine zg1 ?_
 repeat (first | (refine zc (by exact z1j) ?_) | (refine OpsL.nil ?_; (dsimp only)) | (refine zB ?_))
 refine zg1 ?_
 repeat (first | (refine zc (by exact old) ?_) | (refine OpsL.nil ?_; (skip)) | (refine zB ?_))
 exact k.down) : G := f ⟨k⟩
theorem zg3 {G K : Prop} (k : K) (f : PLift K → G := by
 intro k;refine OpsQ.one rfl rfl rfl (by kernel_rfl) ?_
 repeat (first | (refine zc (by exact omv) ?_) | (refine OpsL.nil ?_; (skip)))
 refine OpsQ.one rfl rfl rfl (by kernel_rfl) ?_;exact k.down) : G := f ⟨k⟩
theorem zg4 {G K : Prop} (k : K) (f : PLift K → G := by
 intro k
 repeat (first | (refine zc (by exact old) ?_) | (refine OpsL.nil ?_; (skip)))
 exact k.down) : G := f ⟨k⟩
theorem zg5 {G K : Prop} (k : K) (f : PLift K → G := by
 intro k
 repeat (first | (refine zc (by exact ofa) ?_) | (refine OpsL.nil ?_; (dsimp only)))
 exact k.down) : G := f ⟨k⟩
theorem zg6 {G K : Prop} (k : K) (f : PLift K → G := by
 intro k;refine zg1 ?_
 repeat (first | (refine OpsL.nil ?_; (skip)) | (refine z58 ?_))
 refine zg1 ?_
 repeat (first | (refine OpsL.nil ?_; (skip)) | (refine z58 ?_))
 refine zg1 ?_
 repeat (first | (refine OpsL.nil ?_; (skip)) | (refine z58 ?_))
 exact k.down) : G := f ⟨k⟩
theorem zg7 {G K : Prop} (k : K) (f : PLift K → G := by
 intro k;refine zg1 ?_
 repeat (first | (refine zc (by exact omv) ?_) | (refine OpsL.nil ?_; (skip)))
 refine zg1 ?_
 repeat (first | (refine zc (by exact z1j) ?_) | (refine OpsL.nil ?_; (dsimp only)))
 refine zg1 ?_;refine zg4 ?_;exact k.down) : G := f ⟨k⟩
theorem zg8 {G K : Prop} (k : K) (f : PLift K → G := by
 intro k;refine OpsQ.one rfl rfl rfl (by kernel_rfl) ?_;exact k.down) : G := f ⟨k⟩
theorem zg9 {G K : Prop} (k : K) (f : PLift K → G := by
 intro k;refine zg1 ?_
 repeat (first | (refine zc (by exact ofa) ?_) | (refine OpsL.nil ?_; (dsimp only)) | (refine zB ?_))
 refine zg1 ?_
 repeat (first | (refine zc (by exact old) ?_) | (refine OpsL.nil ?_; (skip)) | (refine zB ?_))
 exact k.down) : G := f ⟨k⟩
theorem zc7 {G K : Prop} (k : K) (f : PLift K → G := by
 intro k
 repeat (first | (refine zc (by exact z09) ?_) | (refine Trip.seq ?_) | (refine zd ?_) | (refine Trip.ret ?_; (dsimp only)) | (refine OpsL.nil ?_; (change Trip _ _ _ _ _)))
 exact k.down) : G := f ⟨k⟩
theorem zeH {G K : Prop} (k : K) (f : PLift K → G := by
 intro k
 repeat (first | (refine zc (by exact z09) ?_) | (refine Trip.seq ?_) | (refine zd ?_) | (refine Trip.ret ?_; ((repeat (refine z0h ?_)); dsimp only)) | (refine OpsL.nil ?_; (change Trip _ _ _ _ _)))
 exact k.down) : G := f ⟨k⟩
theorem z9X {G K : Prop} (k : K) (f : PLift K → G := by
 intro k
 repeat (first | (refine zc (by exact omv) ?_) | (refine OpsL.nil ?_; (skip)))
 exact k.down) : G := f ⟨k⟩
theorem zhs {G K : Prop} (k : K) (f : PLift K → G := by
 intro k
 repeat (first | (refine zc (by exact z1j) ?_) | (refine OpsL.nil ?_; (dsimp only)))
 refine zg8 ?_;refine zg4 ?_;exact k.down) : G := f ⟨k⟩
theorem z9R {G K : Prop} (k : K) (f : PLift K → G := by
 intro k
 repeat (first | (refine zc (by first | exact omv | exact z6e | exact z09) ?_) | (refine zd ?_) | (refine Trip.skip ?_; ((repeat (refine zH ?_)); change Trip _ _ _ _ _)) | (refine OpsL.nil ?_; (dsimp only)))
 exact k.down) : G := f ⟨k⟩
theorem z1K {G K : Prop} (k : K) (f : PLift K → G := by
 intro k;refine zbf (by kernel_rfl) (zh rfl rfl ?_);exact k.down) : G := f ⟨k⟩
theorem zbW {G K : Prop} (k : K) (f : PLift K → G := by
 intro k
 repeat (first | (refine zc (by exact z0q (by (first | (simp only [ASt.ev, zb, ↓reduceIte, Nat.reduceEqDiff, *]; rfl)))) ?_) | (refine OpsL.nil ?_; (skip)))
 exact k.down) : G := f ⟨k⟩
theorem zfI {G K : Prop} (k : K) (f : PLift K → G := by
 intro k
 repeat (first | (refine zc (by exact omv) ?_) | (refine OpsL.nil ?_; (skip)) | (refine zB ?_))
 exact k.down) : G := f ⟨k⟩
theorem z9W {G K : Prop} (k : K) (f : PLift K → G := by
 intro k;refine zg1 ?_
 repeat (first | (refine zc (by exact z3u) ?_) | (refine OpsL.nil ?_; (skip)))
 exact k.down) : G := f ⟨k⟩
theorem zdu {G K : Prop} (k : K) (f : PLift K → G := by
 intro k
 repeat (first | (refine zc (by first | exact omv | exact z09) ?_) | (refine Trip.seq ?_) | (refine zd ?_) | (refine Trip.exit ?_; ((repeat (refine zD ?_)); change Trip _ _ _ _ _)) | (refine Trip.ret ?_; (dsimp only)) | (refine OpsL.nil ?_; (change Trip _ _ _ _ _)))
 exact k.down) : G := f ⟨k⟩
theorem zdp {G K : Prop} (k : K) (f : PLift K → G := by
 intro k;refine zg1 ?_
 repeat (first | (refine OpsL.nil ?_; (skip)) | (refine z0e ?_))
 refine zg1 ?_;exact k.down) : G := f ⟨k⟩
theorem zc6 {G K : Prop} (k : K) (f : PLift K → G := by
 intro k
 repeat (first | (refine zc (by first | exact omv | exact z6e) ?_) | (refine zd ?_) | (refine Trip.skip ?_; ((repeat (refine zH ?_)); change Trip _ _ _ _ _)) | (refine OpsL.nil ?_; (dsimp only)))
 exact k.down) : G := f ⟨k⟩
theorem zc5 {G K : Prop} (k : K) (f : PLift K → G := by
 intro k
 repeat (first | (refine zc (by exact z09) ?_) | (refine Trip.seq ?_) | (refine zd ?_) | (refine Trip.block ?_) | (refine Trip.skip ?_; (change Trip _ _ _ _ _)) | (refine OpsL.nil ?_; (change Trip _ _ _ _ _)))
 exact k.down) : G := f ⟨k⟩
theorem zc4 {G K : Prop} (k : K) (f : PLift K → G := by
 intro k
 ((repeat (refine zH ?_)); change Trip _ _ _ _ _)
 repeat (first | (refine zc (by first | exact omv | exact z6e | exact z09) ?_) | (refine zd ?_) | (refine OpsL.nil ?_; (dsimp only)))
 exact k.down) : G := f ⟨k⟩
theorem zgY {G K : Prop} (k : K) (f : PLift K → G := by
 intro k;refine zg2 ?_;refine zg1 ?_
 repeat (first | (refine zc (by exact z1j) ?_) | (refine OpsL.nil ?_; (dsimp only)) | (refine zB ?_))
 refine zg1 ?_
 repeat (first | (refine zc (by exact old) ?_) | (refine OpsL.nil ?_; (skip)) | (refine zB ?_))
 refine zg1 ?_;exact k.down) : G := f ⟨k⟩
theorem zbi {G K : Prop} (k : K) (f : PLift K → G := by
 intro k;refine zg1 ?_;refine zg5 ?_;refine zg1 ?_;refine zg4 ?_;exact k.down) : G := f ⟨k⟩
theorem zaF {G K : Prop} (k : K) (f : PLift K → G := by
 intro k
 repeat (first | (refine zc (by exact z09) ?_) | (refine Trip.seq ?_) | (refine zd ?_) | (refine OpsL.nil ?_; (change Trip _ _ _ _ _)))
 exact k.down) : G := f ⟨k⟩
theorem zep {G K : Prop} (k : K) (f : PLift K → G := by
 intro k
 repeat (first | (refine OpsL.nil ?_; (change Trip _ _ _ _ _)))
 exact k.down) : G := f ⟨k⟩
theorem zc3 {G K : Prop} (k : K) (f : PLift K → G := by
 intro k
 repeat (first | (refine zc (by exact z3O) ?_) | (refine OpsL.nil ?_; (skip)))
 exact k.down) : G := f ⟨k⟩
theorem z2k {G K : Prop} (k : K) (f : PLift K → G := by
 intro k;refine Trip.seq ?_;refine zd ?_;exact k.down) : G := f ⟨k⟩
theorem zeo {G K : Prop} (k : K) (f : PLift K → G := by
 intro k
 repeat (first | (refine zc (by first | exact omv | exact z6e) ?_) | (refine zd ?_) | (refine OpsL.nil ?_; ((repeat (refine zH ?_)); first | (change Trip _ _ _ _ _) | (dsimp only))))
 exact k.down) : G := f ⟨k⟩
theorem z9Q {G K : Prop} (k : K) (f : PLift K → G := by
 intro k
 repeat (first | (refine zc (by exact z4W) ?_) | (refine OpsL.nil ?_; (change Trip _ _ _ _ _)))
 exact k.down) : G := f ⟨k⟩
theorem zen {G K : Prop} (k : K) (f : PLift K → G := by
 intro k
 ((repeat (refine zH ?_)); change Trip _ _ _ _ _)
 repeat (first | (refine zc (by first | exact omv | exact z6e) ?_) | (refine zd ?_) | (refine OpsL.nil ?_; (dsimp only)))
 exact k.down) : G := f ⟨k⟩
theorem zdt {G K : Prop} (k : K) (f : PLift K → G := by
 intro k
 repeat (first | (refine zc (by exact z09) ?_) | (refine Trip.seq ?_) | (refine zd ?_) | (refine Trip.block ?_) | (refine OpsL.nil ?_; (change Trip _ _ _ _ _)))
 exact k.down) : G := f ⟨k⟩
theorem z9P {G K : Prop} (k : K) (f : PLift K → G := by
 intro k;refine zg0 ?_;refine zg0 ?_;refine zg0 ?_;exact k.down) : G := f ⟨k⟩
theorem z5s {G K : Prop} (k : K) (f : PLift K → G := by
 intro k;refine zg8 ?_;refine zg5 ?_;exact k.down) : G := f ⟨k⟩
theorem zfH {G K : Prop} (k : K) (f : PLift K → G := by
 intro k;refine z2d ?_
 repeat (first | (refine zc (by first | exact omv | exact z09 | exact z6e) ?_) | (refine zd ?_) | (refine Trip.skip ?_; ((repeat (refine zH ?_)); change Trip _ _ _ _ _)) | (refine OpsL.nil ?_; (dsimp only)))
 exact k.down) : G := f ⟨k⟩
theorem zfr {G K : Prop} (k : K) (f : PLift K → G := by
 intro k
 repeat (first | (refine zc (by first | exact omv | exact z3O | exact z3u) ?_) | (refine OpsL.nil ?_; (change Trip _ _ _ _ _)) | (refine z0e ?_))
 refine z07 ?_;refine zc7 ?_;exact k.down) : G := f ⟨k⟩
theorem zbV {G K : Prop} (k : K) (f : PLift K → G := by
 intro k
 repeat (first | (refine zc (by exact omv) ?_) | (refine Trip.seq ?_) | (refine zd ?_))
 exact k.down) : G := f ⟨k⟩
theorem zfq {G K : Prop} (k : K) (f : PLift K → G := by
 intro k
 repeat (first | (refine zc (by first | exact omv | exact z1j | exact old | exact z09) ?_) | (refine Trip.seq ?_) | (refine zd ?_) | (refine OpsL.nil ?_; (change Trip _ _ _ _ _)))
 exact k.down) : G := f ⟨k⟩
theorem zem {G K : Prop} (k : K) (f : PLift K → G := by
 intro k;refine zg1 ?_
 repeat (first | (refine zc (by exact z1g) ?_) | (refine OpsL.nil ?_; (skip)))
 exact k.down) : G := f ⟨k⟩
theorem zdo {G K : Prop} (k : K) (f : PLift K → G := by
 intro k;refine z2d ?_
 repeat (first | (refine Trip.seq ?_) | (refine Trip.skip ?_; (change Trip _ _ _ _ _)))
 exact k.down) : G := f ⟨k⟩
theorem zds {G K : Prop} (k : K) (f : PLift K → G := by
 intro k
 repeat (first | (refine zc (by exact z1j) ?_) | (refine OpsL.nil ?_; (dsimp only)))
 exact k.down) : G := f ⟨k⟩
theorem z4G {G K : Prop} (k : K) (f : PLift K → G := by
 intro k;refine zg1 ?_;refine z9X ?_;exact k.down) : G := f ⟨k⟩
theorem zeG {G K : Prop} (k : K) (f : PLift K → G := by
 intro k
 repeat (first | (refine Trip.seq ?_) | (refine zd ?_) | (refine Trip.exit ?_; ((repeat (refine zD ?_)); change Trip _ _ _ _ _)))
 exact k.down) : G := f ⟨k⟩
theorem zdn {G K : Prop} (k : K) (f : PLift K → G := by
 intro k
 repeat (first | (refine zc (by exact z09) ?_) | (refine OpsL.nil ?_; (change Trip _ _ _ _ _)))
 exact k.down) : G := f ⟨k⟩
theorem zdm {G K : Prop} (k : K) (f : PLift K → G := by
 intro k
 repeat (first | (refine OpsL.nil ?_; (skip)) | (refine z0e ?_))
 exact k.down) : G := f ⟨k⟩
theorem zel {G K : Prop} (k : K) (f : PLift K → G := by
 intro k;refine zg1 ?_
 repeat (first | (refine zc (by exact z09) ?_) | (refine OpsL.nil ?_; (skip)))
 refine OpsR.nil ?_;exact k.down) : G := f ⟨k⟩
theorem zfp {G K : Prop} (k : K) (f : PLift K → G := by
 intro k
 repeat (first | (refine zc (by first | exact omv | exact z09) ?_) | (refine Trip.seq ?_) | (refine zd ?_) | (refine OpsL.nil ?_; (change Trip _ _ _ _ _)))
 exact k.down) : G := f ⟨k⟩
theorem zfG {G K : Prop} (k : K) (f : PLift K → G := by
 intro k
 repeat (first | (refine zc (by first | exact omv | exact z09 | exact z1g) ?_) | (refine Trip.seq ?_) | (refine zd ?_) | (refine Trip.block ?_) | (refine OpsL.nil ?_; (change Trip _ _ _ _ _)))
 exact k.down) : G := f ⟨k⟩
theorem z0n {G K : Prop} (k : K) (f : PLift K → G := by
 intro k;refine OpsL.nil ?_;exact k.down) : G := f ⟨k⟩
theorem zek {G K : Prop} (k : K) (f : PLift K → G := by
 intro k
 repeat (first | (refine zc (by exact omv) ?_) | (refine OpsL.nil ?_; (dsimp only)))
 exact k.down) : G := f ⟨k⟩
theorem zeF {G K : Prop} (k : K) (f : PLift K → G := by
 intro k;refine z5s ?_;refine zg8 ?_;refine zg4 ?_;exact k.down) : G := f ⟨k⟩
theorem zej {G K : Prop} (k : K) (f : PLift K → G := by
 intro k
 repeat (first | (refine zc (by first | exact z3O | exact z09) ?_) | (refine OpsL.nil ?_; (dsimp only)))
 exact k.down) : G := f ⟨k⟩
theorem zfF {G K : Prop} (k : K) (f : PLift K → G := by
 intro k
 repeat (first | (refine zc (by first | exact omv | exact z09) ?_) | (refine zd ?_) | (refine OpsL.nil ?_; ((repeat (refine zH ?_)); change Trip _ _ _ _ _)))
 exact k.down) : G := f ⟨k⟩
theorem zfo {G K : Prop} (k : K) (f : PLift K → G := by
 intro k
 repeat (first | (refine zc (by first | exact z6e | exact z09) ?_) | (refine OpsL.nil ?_; (dsimp only)))
 exact k.down) : G := f ⟨k⟩
theorem zfE {G K : Prop} (k : K) (f : PLift K → G := by
 intro k
 repeat (first | (refine zc (by first | exact omv | exact z3O | exact z3u | exact z09) ?_) | (refine OpsL.nil ?_; (dsimp only)) | (refine z0e ?_))
 exact k.down) : G := f ⟨k⟩
theorem zgJ {G K : Prop} (k : K) (f : PLift K → G := by
 intro k
 repeat (first | (refine zc (by first | exact omv | exact z1g) ?_) | (refine Trip.seq ?_) | (refine zd ?_) | (refine Trip.block ?_) | (refine OpsL.nil ?_; (change Trip _ _ _ _ _)))
 exact k.down) : G := f ⟨k⟩
theorem z9V {G K : Prop} (k : K) (f : PLift K → G := by
 intro k
 repeat (first | (refine zc (by exact omv) ?_))
 exact k.down) : G := f ⟨k⟩
theorem zeE {G K : Prop} (k : K) (f : PLift K → G := by
 intro k
 repeat (first | (refine zc (by exact z3O) ?_) | (refine OpsL.nil ?_; (change Trip _ _ _ _ _)))
 exact k.down) : G := f ⟨k⟩
theorem zgX {G K : Prop} (k : K) (f : PLift K → G := by
 intro k
 repeat (first | (refine zc (by exact z09) ?_) | (refine zd ?_) | (refine OpsL.nil ?_; ((repeat (refine zH ?_)); change Trip _ _ _ _ _)))
 repeat (first | (refine zc (by first | exact omv | exact z6e) ?_) | (refine OpsL.nil ?_; (dsimp only)))
 exact k.down) : G := f ⟨k⟩
theorem zgI {G K : Prop} (k : K) (f : PLift K → G := by
 intro k;refine z0n ?_;refine zg1 ?_
 repeat (first | (refine zc (by exact z3O) ?_) | (refine OpsL.nil ?_; (skip)) | (refine zB ?_))
 refine z9W ?_;refine OpsR.nil ?_;exact k.down) : G := f ⟨k⟩
theorem zgW {G K : Prop} (k : K) (f : PLift K → G := by
 intro k
 repeat (first | (refine zc (by exact z09) ?_) | (refine Trip.seq ?_) | (refine zd ?_) | (refine Trip.exit ?_; ((repeat (refine zD ?_)); change Trip _ _ _ _ _)) | (refine Trip.ret ?_; (dsimp only)) | (refine OpsL.nil ?_; (change Trip _ _ _ _ _)))
 exact k.down) : G := f ⟨k⟩
theorem zgH {G K : Prop} (k : K) (f : PLift K → G := by
 intro k;refine zbi ?_;refine zg7 ?_;refine zem ?_;refine zbi ?_;refine zg1 ?_
 repeat (first | (refine zc (by exact zfs) ?_) | (refine OpsL.nil ?_; (skip)))
 exact k.down) : G := f ⟨k⟩
theorem zfD {G K : Prop} (k : K) (f : PLift K → G := by
 intro k
 repeat (first | (refine zc (by first | exact z1j | exact old | exact z4W) ?_) | (refine OpsL.nil ?_; (change Trip _ _ _ _ _)))
 exact k.down) : G := f ⟨k⟩
theorem zgV {G K : Prop} (k : K) (f : PLift K → G := by
 intro k
 repeat (first | (refine zc (by exact z09) ?_) | (refine Trip.seq ?_) | (refine zd ?_) | (refine Trip.block ?_) | (refine Trip.exit ?_; ((repeat (refine zD ?_)); change Trip _ _ _ _ _)) | (refine OpsL.nil ?_; (change Trip _ _ _ _ _)))
 exact k.down) : G := f ⟨k⟩
theorem zgG {G K : Prop} (k : K) (f : PLift K → G := by
 intro k
 repeat (first | (refine zc (by first | exact z0q (by (first | (simp only [ASt.ev, zb, ↓reduceIte, Nat.reduceEqDiff, *]; rfl))) | exact ofa) ?_))
 exact k.down) : G := f ⟨k⟩
theorem zfC {G K : Prop} (k : K) (f : PLift K → G := by
 intro k
 repeat (first | (refine zc (by exact z09) ?_) | (refine Trip.seq ?_) | (refine OpsL.nil ?_; (change Trip _ _ _ _ _)))
 exact k.down) : G := f ⟨k⟩
theorem zgU {G K : Prop} (k : K) (f : PLift K → G := by
 intro k
 repeat (first | (refine zc (by first | exact z09 | exact ofa | exact old | exact omv | exact z1g) ?_) | (refine Trip.seq ?_) | (refine zd ?_) | (refine Trip.block ?_) | (refine OpsL.nil ?_; (change Trip _ _ _ _ _)))
 exact k.down) : G := f ⟨k⟩
theorem zgT {G K : Prop} (k : K) (f : PLift K → G := by
 intro k
 repeat (first | (refine zc (by first | exact omv | exact z6e | exact z09) ?_) | (refine zd ?_) | (refine OpsL.nil ?_; ((repeat (refine zH ?_)); first | (change Trip _ _ _ _ _) | (dsimp only))))
 exact k.down) : G := f ⟨k⟩
theorem zgF {G K : Prop} (k : K) (f : PLift K → G := by
 intro k
 repeat (first | (refine zc (by first | exact omv | exact z3u | exact z09) ?_) | (refine OpsL.nil ?_; (dsimp only)) | (refine z0e ?_))
 exact k.down) : G := f ⟨k⟩
theorem zdl {G K : Prop} (k : K) (f : PLift K → G := by
 intro k;refine z0n ?_;refine z9W ?_;refine OpsR.nil ?_;exact k.down) : G := f ⟨k⟩
theorem z9O {G K : Prop} (k : K) (f : PLift K → G := by
 intro k;refine zep ?_;refine z07 ?_;exact k.down) : G := f ⟨k⟩
theorem zfB {G K : Prop} (k : K) (f : PLift K → G := by
 intro k;refine z4G ?_;refine z9P ?_;refine zdp ?_;refine zdm ?_;refine zg1 ?_;refine zc3 ?_;exact k.down) : G := f ⟨k⟩
theorem zgS {G K : Prop} (k : K) (f : PLift K → G := by
 intro k
 repeat (first | (refine zc (by first | exact omv | exact z09 | exact z3O | exact z3u) ?_) | (refine Trip.ret ?_; (dsimp only)) | (refine OpsL.nil ?_; (change Trip _ _ _ _ _)) | (refine z0e ?_))
 exact k.down) : G := f ⟨k⟩
theorem zdr {G K : Prop} (k : K) (f : PLift K → G := by
 intro k
 repeat (first | (refine Trip.seq ?_) | (refine zd ?_))
 exact k.down) : G := f ⟨k⟩
theorem zgR {G K : Prop} (k : K) (f : PLift K → G := by
 intro k
 repeat (first | (refine zc (by first | exact z09 | exact omv | exact z1g) ?_) | (refine Trip.seq ?_) | (refine zd ?_) | (refine Trip.block ?_) | (refine OpsL.nil ?_; (change Trip _ _ _ _ _)))
 exact k.down) : G := f ⟨k⟩
theorem zeD {G K : Prop} (k : K) (f : PLift K → G := by
 intro k
 repeat (first | (refine Trip.exit ?_; ((repeat (refine zD ?_)))))
 exact k.down) : G := f ⟨k⟩
theorem zfn {G K : Prop} (k : K) (f : PLift K → G := by
 intro k;refine zfI ?_;refine zg9 ?_;refine zg2 ?_;refine zg2 ?_;refine zgY ?_;exact k.down) : G := f ⟨k⟩
theorem zfm {G K : Prop} (k : K) (f : PLift K → G := by
 intro k
 repeat (first | (refine Trip.exit ?_; ((repeat (refine zD ?_)); dsimp only)))
 exact k.down) : G := f ⟨k⟩
theorem zfA {G K : Prop} (k : K) (f : PLift K → G := by
 intro k
 repeat (first | (refine zc (by first | exact omv | exact ofa | exact old) ?_) | (refine zB ?_))
 exact k.down) : G := f ⟨k⟩
theorem zc2 {G K : Prop} (k : K) (f : PLift K → G := by
 intro k;refine zg3 ?_;refine zhs ?_;exact k.down) : G := f ⟨k⟩
theorem zgQ {G K : Prop} (k : K) (f : PLift K → G := by
 intro k
 repeat (first | (refine zc (by first | exact z09 | exact ofa | exact old | exact z1g) ?_) | (refine Trip.seq ?_) | (refine zd ?_) | (refine OpsL.nil ?_; (change Trip _ _ _ _ _)))
 exact k.down) : G := f ⟨k⟩
theorem zgE {G K : Prop} (k : K) (f : PLift K → G := by
 intro k
 repeat (first | (refine zc (by first | exact omv | exact ofa | exact old) ?_) | (refine Trip.seq ?_) | (refine zd ?_))
 exact k.down) : G := f ⟨k⟩
theorem z9U {G K : Prop} (k : K) (f : PLift K → G := by
 intro k;refine z07 ?_;refine zeH ?_;exact k.down) : G := f ⟨k⟩
theorem z2r {G K : Prop} (k : K) (f : PLift K → G := by
 intro k;refine z2d ?_;exact k.down) : G := f ⟨k⟩
theorem z9T {G K : Prop} (k : K) (f : PLift K → G := by
 intro k
 repeat (first | (refine zB ?_))
 exact k.down) : G := f ⟨k⟩
theorem zgD {G K : Prop} (k : K) (f : PLift K → G := by
 intro k;refine zg1 ?_
 repeat (first | (refine zc (by exact z1g) ?_) | (refine OpsL.nil ?_; (skip)) | (refine zB ?_))
 exact k.down) : G := f ⟨k⟩
theorem zgP {G K : Prop} (k : K) (f : PLift K → G := by
 intro k
 repeat (first | (refine zc (by first | exact omv | exact z09 | exact z1g) ?_) | (refine Trip.seq ?_) | (refine zd ?_) | (refine OpsL.nil ?_; (change Trip _ _ _ _ _)))
 exact k.down) : G := f ⟨k⟩
theorem zaE {G K : Prop} (k : K) (f : PLift K → G := by
 intro k;refine z07 ?_;refine zc7 ?_;exact k.down) : G := f ⟨k⟩
theorem zgO {G K : Prop} (k : K) (f : PLift K → G := by
 intro k
 repeat (first | (refine zc (by exact z09) ?_) | (refine Trip.ret ?_; ((repeat (refine z0h ?_)); dsimp only)) | (refine OpsL.nil ?_; (change Trip _ _ _ _ _)))
 exact k.down) : G := f ⟨k⟩
theorem zgC {G K : Prop} (k : K) (f : PLift K → G := by
 intro k
 repeat (first | (refine zc (by first | exact omv | exact z1g) ?_) | (refine Trip.seq ?_) | (refine zd ?_))
 exact k.down) : G := f ⟨k⟩
theorem zei {G K : Prop} (k : K) (f : PLift K → G := by
 intro k;refine zef (by kernel_rfl) (zh rfl rfl ?_);exact k.down) : G := f ⟨k⟩
theorem zaD {G K : Prop} (k : K) (f : PLift K → G := by
 intro k;refine zbi ?_;refine zg7 ?_;exact k.down) : G := f ⟨k⟩
theorem zdq {G K : Prop} (k : K) (f : PLift K → G := by
 intro k
 repeat (first | (refine Trip.ret ?_; (dsimp only)))
 exact k.down) : G := f ⟨k⟩
theorem zfl {G K : Prop} (k : K) (f : PLift K → G := by
 intro k
 repeat (first | (refine zc (by exact omv) ?_) | (refine zd ?_))
 exact k.down) : G := f ⟨k⟩
theorem z8C {G K : Prop} (k : K) (f : PLift K → G := by
 intro k;refine zh rfl rfl ?_;exact k.down) : G := f ⟨k⟩
theorem zhv {G K : Prop} (k : K) (f : PLift K → G := by
 intro k;refine zg6 ?_;refine zg6 ?_;refine zg6 ?_;refine zg6 ?_;refine zg6 ?_;exact k.down) : G := f ⟨k⟩
theorem zhr {G K : Prop} (k : K) (f : PLift K → G := by
 intro k
 repeat (first | (refine zc (by first | exact omv | exact z09 | exact z0q (by (first | (simp only [ASt.ev, zb, ↓reduceIte, Nat.reduceEqDiff, *]; rfl))) | exact ofa | exact old | exact zc9) ?_) | (refine Trip.seq ?_) | (refine zd ?_) | (refine OpsL.nil ?_; (change Trip _ _ _ _ _)))
 exact k.down) : G := f ⟨k⟩
theorem zgB {G K : Prop} (k : K) (f : PLift K → G := by
 intro k;refine zaD ?_;refine zg7 ?_;refine zg1 ?_;refine zds ?_;refine zg1 ?_;refine zg4 ?_;exact k.down) : G := f ⟨k⟩
theorem z5t {G K : Prop} (k : K) (f : PLift K → G := by
 intro k;refine zg8 ?_;refine zhs ?_;exact k.down) : G := f ⟨k⟩
theorem zfW {G K : Prop} (k : K) (f : PLift K → G := by
 intro k;refine z9O ?_
 repeat (first | (refine zc (by first | exact omv | exact z09 | exact zfs | exact z1g | exact z1j | exact ofa | exact old) ?_) | (refine Trip.seq ?_) | (refine zd ?_) | (refine Trip.ret ?_; (dsimp only)) | (refine OpsL.nil ?_; (change Trip _ _ _ _ _)))
 exact k.down) : G := f ⟨k⟩
theorem zfV {G K : Prop} (k : K) (f : PLift K → G := by
 intro k;refine z2r ?_
 repeat (first | (refine zc (by first | exact omv | exact z09) ?_) | (refine Trip.seq ?_) | (refine zd ?_) | (refine Trip.skip ?_; (change Trip _ _ _ _ _)) | (refine Trip.ret ?_; (dsimp only)) | (refine OpsL.nil ?_; (change Trip _ _ _ _ _)))
 exact k.down) : G := f ⟨k⟩
theorem zeP {G K : Prop} (k : K) (f : PLift K → G := by
 intro k
 repeat (first | (refine zc (by exact z09) ?_) | (refine Trip.ret ?_; (dsimp only)) | (refine OpsL.nil ?_; (change Trip _ _ _ _ _)))
 exact k.down) : G := f ⟨k⟩
theorem z6v {G K : Prop} (k : K) (f : PLift K → G := by
 intro k;refine z0n ?_;refine OpsR.nil ?_;exact k.down) : G := f ⟨k⟩
theorem zcd {G K : Prop} (k : K) (f : PLift K → G := by
 intro k
 repeat (first | (refine zc (by exact omv) ?_) | (refine zB ?_))
 exact k.down) : G := f ⟨k⟩
theorem zdz {G K : Prop} (k : K) (f : PLift K → G := by
 intro k;refine zd ?_
 repeat (first | (refine zc (by first | exact ofa | exact old) ?_))
 exact k.down) : G := f ⟨k⟩
theorem zcc {G K : Prop} (k : K) (f : PLift K → G := by
 intro k
 repeat (first | (refine zc (by first | exact z1j | exact old) ?_))
 exact k.down) : G := f ⟨k⟩
theorem z6u {G K : Prop} (k : K) (f : PLift K → G := by
 intro k;refine zg1 ?_;refine zB ?_;exact k.down) : G := f ⟨k⟩
theorem zfU {G K : Prop} (k : K) (f : PLift K → G := by
 intro k
 repeat (first | (refine zc (by first | exact omv | exact z6e) ?_) | (refine zd ?_) | (refine Trip.exit ?_; ((repeat (first | refine zD ?_ | refine zH ?_)); change Trip _ _ _ _ _)) | (refine OpsL.nil ?_; (dsimp only)))
 exact k.down) : G := f ⟨k⟩
theorem zeO {G K : Prop} (k : K) (f : PLift K → G := by
 intro k;refine z2r ?_
 repeat (first | (refine Trip.seq ?_) | (refine zd ?_) | (refine Trip.skip ?_; (change Trip _ _ _ _ _)))
 exact k.down) : G := f ⟨k⟩
theorem zfT {G K : Prop} (k : K) (f : PLift K → G := by
 intro k;refine zg8 ?_;refine zek ?_;refine zg3 ?_;refine zbW ?_;refine z5s ?_;exact k.down) : G := f ⟨k⟩
theorem zdy {G K : Prop} (k : K) (f : PLift K → G := by
 intro k
 repeat (first | (refine zc (by exact z3O) ?_) | (refine OpsL.nil ?_; (dsimp only)))
 exact k.down) : G := f ⟨k⟩
theorem z9Z {G K : Prop} (k : K) (f : PLift K → G := by
 intro k;refine z4G ?_;refine zg9 ?_;refine zg2 ?_;exact k.down) : G := f ⟨k⟩
theorem z68 {G K : Prop} (k : K) (f : PLift K → G := by
 intro k;refine zep ?_;refine z2r ?_;exact k.down) : G := f ⟨k⟩
theorem z67 {G K : Prop} (k : K) (f : PLift K → G := by
 intro k;refine z5s ?_;refine z1K ?_;exact k.down) : G := f ⟨k⟩
theorem zfS {G K : Prop} (k : K) (f : PLift K → G := by
 intro k
 ((repeat (first | refine zD ?_ | refine zH ?_)); change Trip _ _ _ _ _)
 repeat (first | (refine zc (by first | exact omv | exact z6e | exact z09) ?_) | (refine zd ?_) | (refine OpsL.nil ?_; (dsimp only)))
 exact k.down) : G := f ⟨k⟩
theorem zeN {G K : Prop} (k : K) (f : PLift K → G := by
 intro k
 repeat (first | (refine zc (by first | exact omv | exact z3O | exact ofa | exact old) ?_) | (refine zB ?_))
 exact k.down) : G := f ⟨k⟩
theorem zdx {G K : Prop} (k : K) (f : PLift K → G := by
 intro k
 repeat (first | (refine zc (by exact z4W) ?_) | (refine OpsL.nil ?_; (skip)))
 exact k.down) : G := f ⟨k⟩
theorem zeM {G K : Prop} (k : K) (f : PLift K → G := by
 intro k;refine zfT ?_;refine zeF ?_;refine zg3 ?_;refine zbW ?_;refine zeF ?_;refine z5t ?_;exact k.down) : G := f ⟨k⟩
theorem zbl {G K : Prop} (k : K) (f : PLift K → G := by
 intro k
 repeat (first | (refine zc (by exact z1j) ?_))
 exact k.down) : G := f ⟨k⟩
theorem zfR {G K : Prop} (k : K) (f : PLift K → G := by
 intro k
 repeat (first | (refine zc (by exact z09) ?_) | (refine Trip.seq ?_) | (refine zd ?_) | (refine Trip.ret ?_; ((repeat (refine z0h ?_)))) | (refine OpsL.nil ?_; (change Trip _ _ _ _ _)))
 exact k.down) : G := f ⟨k⟩
theorem zeL {G K : Prop} (k : K) (f : PLift K → G := by
 intro k
 repeat (first | (refine zc (by first | exact omv | exact z1j | exact old) ?_) | (refine zd ?_))
 exact k.down) : G := f ⟨k⟩
theorem zfQ {G K : Prop} (k : K) (f : PLift K → G := by
 intro k
 repeat (first | (refine zc (by first | exact omv | exact z1j | exact old) ?_) | (refine Trip.seq ?_) | (refine zd ?_) | (refine Trip.block ?_) | (refine Trip.skip ?_; (change Trip _ _ _ _ _)))
 exact k.down) : G := f ⟨k⟩
theorem zfP {G K : Prop} (k : K) (f : PLift K → G := by
 intro k;refine zdp ?_;refine zdm ?_;refine zg1 ?_
 repeat (first | (refine zc (by exact z3u) ?_) | (refine OpsL.nil ?_; (skip)) | (refine zB ?_))
 refine z9W ?_;refine OpsR.nil ?_;exact k.down) : G := f ⟨k⟩
theorem zdw {G K : Prop} (k : K) (f : PLift K → G := by
 intro k
 repeat (first | (refine zc (by exact z4W) ?_) | (refine zB ?_))
 exact k.down) : G := f ⟨k⟩
theorem zfO {G K : Prop} (k : K) (f : PLift K → G := by
 intro k
 repeat (first | (refine zc (by first | exact omv | exact z09 | exact ofa | exact old | exact z1j) ?_) | (refine Trip.seq ?_) | (refine zd ?_) | (refine OpsL.nil ?_; (change Trip _ _ _ _ _)))
 exact k.down) : G := f ⟨k⟩
theorem z7e {G K : Prop} (k : K) (f : PLift K → G := by
 intro k;refine zeF ?_;refine zc2 ?_;exact k.down) : G := f ⟨k⟩
theorem zfN {G K : Prop} (k : K) (f : PLift K → G := by
 intro k
 repeat (first | (refine zc (by first | exact z09 | exact omv) ?_) | (refine zd ?_) | (refine OpsL.nil ?_; ((repeat (refine zH ?_)); change Trip _ _ _ _ _)))
 refine zfo ?_;exact k.down) : G := f ⟨k⟩
theorem z7d {G K : Prop} (k : K) (f : PLift K → G := by
 intro k;refine zg1 ?_;refine zc3 ?_;exact k.down) : G := f ⟨k⟩
theorem z7c {G K : Prop} (k : K) (f : PLift K → G := by
 intro k;refine zg1 ?_;refine zfI ?_;exact k.down) : G := f ⟨k⟩
theorem z7b {G K : Prop} (k : K) (f : PLift K → G := by
 intro k;refine zg8 ?_;refine zfI ?_;exact k.down) : G := f ⟨k⟩
theorem zfM {G K : Prop} (k : K) (f : PLift K → G := by
 intro k
 repeat (first | (refine zc (by first | exact omv | exact z09 | exact z3u) ?_) | (refine Trip.ret ?_; (dsimp only)) | (refine OpsL.nil ?_; (change Trip _ _ _ _ _)) | (refine z0e ?_))
 exact k.down) : G := f ⟨k⟩
end Go.Am
