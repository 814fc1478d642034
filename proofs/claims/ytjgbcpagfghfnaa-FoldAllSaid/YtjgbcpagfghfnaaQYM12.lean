import Derived.Test.YtjgbcpagfghfnaaQYM11
set_option linter.unusedVariables false
set_option linter.unusedSimpArgs false
set_option linter.unnecessarySimpa false
namespace Go.Am
open Go.RowKit
section
variable {P : Program} {W0 : World}
def OpsL (P : Program) (W0 : World) (ops : Array Oper) : List Oper → ASt → (ASt → Prop) → Prop
 | [], st, Q => Q st
 | o :: l, st, Q => z1B st o = true ∧ ((z18 ops st o = false ∧ OpsL P W0 ops l (st.put o.dst undef .none) Q) ∨ (z18 ops st o = true ∧
   ((∃ v e, aop P st.H st.nx st.ev o = some (v, e) ∧ OpsL P W0 ops l (st.put o.dst v e) Q) ∨
    (∃ f args R, z1z st o = some (f, args) ∧ z1G P f ∧ ACalls P W0 f args st.nx st.H R ∧ ∀ v nx' H', R v nx' H' → OpsL P W0 ops l ⟨zb st.tm o.dst v, st.n, H', nx'⟩ Q))))
theorem zbg {ops : Array Oper} {Q : ASt → Prop} : ∀ (l : List Oper) (k : Nat) (st : ASt), ops.toList.drop k = l → OpsL P W0 ops l st Q → Ops P W0 ops (List.range' k l.length) st Q := by
 intro l
 induction l with
 | nil => intro k st _ h; exact Ops.nil h
 | cons o l ih =>
  intro k st hk h
  have ho : ops[k]? = some o := by
   have : (ops.toList.drop k)[0]? = some o := by rw [hk]; rfl
   rw [List.getElem?_drop] at this;simpa using this
  have hk' : ops.toList.drop (k + 1) = l := by
   rw [← List.drop_drop, hk]; rfl
  obtain ⟨hd, h⟩ := h;rw [List.length_cons, List.range'_succ];rcases h with ⟨hw, h⟩ | ⟨hw, ⟨v, e, hop, h⟩ | ⟨f, args, R, hc, hf, hcall, h⟩⟩
  ·exact Ops.skip ho hw hd (ih _ _ hk' h)
  ·exact Ops.step ho hw hd hop (ih _ _ hk' h)
  ·exact Ops.call ho hw hd hc hf hcall fun v nx' H' hr => ih _ _ hk' (h v nx' H' hr)
theorem zd {id : Nat} {ops : Array Oper} {st : ASt} {Q : AExit → ASt → Prop} (h : OpsL P W0 ops ops.toList st (Q .normal)) : Trip P W0 (.region id ops false) st Q := by
 refine Trip.region ?_;have := zbg ops.toList 0 st rfl h
 rwa [Array.length_toList, ← List.range_eq_range'] at this
theorem zdg {ops : Array Oper} {o : Oper} {l : List Oper} {tm : Nat → Value} {n nx : Nat} {H : Heap} {v : Value} {Q : ASt → Prop} (hd : z1B ⟨tm, n, H, nx⟩ o = true) (hw : z18 ops ⟨tm, n, H, nx⟩ o = true)
  (hop : aop P H nx (ASt.ev ⟨tm, n, H, nx⟩) o = some (v, .none)) (h : OpsL P W0 ops l ⟨zb tm o.dst v, n, H, nx⟩ Q) : OpsL P W0 ops (o :: l) ⟨tm, n, H, nx⟩ Q :=
 ⟨hd, .inr ⟨hw, .inl ⟨v, .none, hop, h⟩⟩⟩
theorem zbh {ops : Array Oper} {o : Oper} {l : List Oper} {tm : Nat → Value} {n nx : Nat} {H : Heap} {v : Value} {e : Eff} {Q : ASt → Prop} (hd : z1B ⟨tm, n, H, nx⟩ o = true) (hw : z18 ops ⟨tm, n, H, nx⟩ o = true)
  (hop : aop P H nx (ASt.ev ⟨tm, n, H, nx⟩) o = some (v, e)) (h : OpsL P W0 ops l ⟨zb tm o.dst v, n, e.H nx H, e.nx nx⟩ Q) : OpsL P W0 ops (o :: l) ⟨tm, n, H, nx⟩ Q :=
 ⟨hd, .inr ⟨hw, .inl ⟨v, e, hop, h⟩⟩⟩
theorem OpsL.call {ops : Array Oper} {o : Oper} {l : List Oper} {tm : Nat → Value} {n nx : Nat} {H : Heap} {Q : ASt → Prop} {f : FuncId} {args : List Value} (R : Value → Nat → Heap → Prop) (hd : z1B ⟨tm, n, H, nx⟩ o = true) (hw : z18 ops ⟨tm, n, H, nx⟩ o = true)
  (hc : z1z ⟨tm, n, H, nx⟩ o = some (f, args)) (hf : z1G P f) (hcall : ACalls P W0 f args nx H R) (h : ∀ v nx' H', R v nx' H' → OpsL P W0 ops l ⟨zb tm o.dst v, n, H', nx'⟩ Q) : OpsL P W0 ops (o :: l) ⟨tm, n, H, nx⟩ Q :=
 ⟨hd, .inr ⟨hw, .inr ⟨f, args, R, hc, hf, hcall, h⟩⟩⟩
variable {ev : Operand → Option Value} {H : Heap} {nx : Nat} {dst : Option Tmp} {type : TypeId} {pos : String} {after : Array Edge} {guard : Option (Nat × Bool)}
theorem ze9 {x : Operand} {v : Value} (h : ev x = some v) : aop P H nx ev ⟨dst, .move x, type, pos, after, guard⟩ = some (v, .none) := by simp [aop, h]
theorem zbM {x : Operand} {v : Value} (h : ev x = some v) : aop P H nx ev ⟨dst, .assign x, type, pos, after, guard⟩ = some (v, .none) := by simp [aop, h]
theorem z7W {t u : TypeId} {x y : Operand} {a b : Int} (hx : ev x = some (.int .i64 a)) (hy : ev y = some (.int .i64 b)) (h : -9223372036854775808 ≤ a + b ∧ a + b ≤ 9223372036854775807) :
  aop P H nx ev ⟨dst, .binOp .add t x y u, type, pos, after, guard⟩ = some (.int .i64 (a + b), .none) := by simp [aop, hx, hy, z7a, z1h, IntWalk.i64_in _ h]
theorem zfh {t u : TypeId} {x y : Operand} {a b : Int} (hx : ev x = some (.int .i64 a)) (hy : ev y = some (.int .i64 b)) (h : -9223372036854775808 ≤ a - b ∧ a - b ≤ 9223372036854775807) :
  aop P H nx ev ⟨dst, .binOp .sub t x y u, type, pos, after, guard⟩ = some (.int .i64 (a - b), .none) := by simp [aop, hx, hy, z7a, z1h, IntWalk.i64_in _ h]
theorem zad {t u : TypeId} {k : IntKind} {x y : Operand} {a b : Int} (hx : ev x = some (.int k a)) (hy : ev y = some (.int k b)) :
  aop P H nx ev ⟨dst, .binOp .lss t x y u, type, pos, after, guard⟩ = some (.bool (decide (a < b)), .none) := by simp [aop, hx, hy, z7a, z1h]
theorem zfj {t u : TypeId} {k : IntKind} {x y : Operand} {a b : Int} (hx : ev x = some (.int k a)) (hy : ev y = some (.int k b)) :
  aop P H nx ev ⟨dst, .binOp .leq t x y u, type, pos, after, guard⟩ = some (.bool (decide (a ≤ b)), .none) := by simp [aop, hx, hy, z7a, z1h]
theorem zae {t u : TypeId} {k : IntKind} {x y : Operand} {a b : Int} (hx : ev x = some (.int k a)) (hy : ev y = some (.int k b)) :
  aop P H nx ev ⟨dst, .binOp .gtr t x y u, type, pos, after, guard⟩ = some (.bool (decide (b < a)), .none) := by simp [aop, hx, hy, z7a, z1h]
theorem zaf {t u : TypeId} {k : IntKind} {x y : Operand} {a b : Int} (hx : ev x = some (.int k a)) (hy : ev y = some (.int k b)) :
  aop P H nx ev ⟨dst, .binOp .geq t x y u, type, pos, after, guard⟩ = some (.bool (decide (b ≤ a)), .none) := by simp [aop, hx, hy, z7a, z1h]
theorem zag {t u : TypeId} {k : IntKind} {x y : Operand} {a b : Int} (hx : ev x = some (.int k a)) (hy : ev y = some (.int k b)) :
  aop P H nx ev ⟨dst, .binOp .eql t x y u, type, pos, after, guard⟩ = some (.bool (decide (a = b)), .none) := by
 have : (a == b) = decide (a = b) := by by_cases h : a = b <;> simp [h]
 simp [aop, hx, hy, z7a, z1h, this]
theorem zcH {t u : TypeId} {k : IntKind} {x y : Operand} {a b : Int} (hx : ev x = some (.int k a)) (hy : ev y = some (.int k b)) :
  aop P H nx ev ⟨dst, .binOp .neq t x y u, type, pos, after, guard⟩ = some (.bool (decide (a ≠ b)), .none) := by
 have : (a != b) = decide (a ≠ b) := by by_cases h : a = b <;> simp [h]
 simp [aop, hx, hy, z7a, z1h, this]
theorem zfi {t : TypeId} {x : Operand} {b : Bool} (hx : ev x = some (.bool b)) : aop P H nx ev ⟨dst, .unOp .not t x, type, pos, after, guard⟩ = some (.bool (!b), .none) := by simp [aop, hx, aUn]
theorem zcI {t e : TypeId} {x : Operand} {a : Option Addr} {n c : Nat} (hx : ev x = some (.slice a n c)) (hu : P.underlying t = some (.slice e)) :
  aop P H nx ev ⟨dst, .call ⟨.builtin .len, #[x], #[t]⟩, type, pos, after, guard⟩ = some (.int .i64 n, .none) := by simp [aop, hx, z1k, z1o, zfL, hu]
theorem z3M {t e : TypeId} {x i : Operand} {a : Addr} {n c sz : Nat} {k : IntKind} {j : Int} (hx : ev x = some (.slice (some a) n c)) (hi : ev i = some (.int k j)) (hu : P.underlying t = some (.slice e)) (hs : z1W P e = some sz) (h0 : 0 ≤ j) (h1 : j < n) :
  aop P H nx ev ⟨dst, .indexAddr t x i, type, pos, after, guard⟩ = some (.pointer (some ⟨a.block, a.off + j.toNat * sz, a.spot⟩), .none) := by simp [aop, hx, hi, z3q, hu, hs, h0, h1]
def zf (H : Heap) (a : Addr) (v : Value) : Prop := z1f H a 1 = some [v]
theorem z0a {t : TypeId} {x : Operand} {a : Addr} {d : TypeDesc} {v : Value} (hx : ev x = some (.pointer (some a))) (hu : P.underlying t = some d) (hd : z5O d = false) (hc : zf H a v) :
  aop P H nx ev ⟨dst, .load t x, type, pos, after, guard⟩ = some (v, .none) := by
 unfold zf at hc;simp [aop, hx, zbp, z3Q, hu, hd, hc]
def IntsAt (H : Heap) (v : Value) (xs : List Int) : Prop :=
 (∃ c, v = .slice none 0 c ∧ xs = []) ∨ ∃ a c, v = .slice (some a) xs.length c ∧ ∀ (i : Nat) (h : i < xs.length), zf H ⟨a.block, a.off + i, a.spot⟩ (.int .i64 xs[i])
theorem IntsAt.slice {v : Value} {xs : List Int} (h : IntsAt H v xs) : ∃ a c, v = .slice a xs.length c := by
 rcases h with ⟨c, rfl, rfl⟩ | ⟨a, c, rfl, _⟩
 ·exact ⟨none, c, rfl⟩
 ·exact ⟨some a, c, rfl⟩
theorem IntsAt.get {a : Option Addr} {c n : Nat} {xs : List Int} (h : IntsAt H (.slice a n c) xs) {i : Nat} (hi : i < xs.length) : ∃ p, a = some p ∧ zf H ⟨p.block, p.off + i, p.spot⟩ (.int .i64 xs[i]) := by
 rcases h with ⟨c, h, rfl⟩ | ⟨p, c, h, hv⟩
 ·simp at hi
 ·cases h;exact ⟨p, rfl, hv i hi⟩
end
section
variable {P : Program} {W0 : World}
theorem zg {f : FuncId} {fn : Func} {c : Code} {args : List Value} {nx : Nat} {H : Heap} {R : Value → Nat → Heap → Prop} (hf : P.funcs[f]? = some fn) (hb : fn.body = some c)
  (h : ∀ (tm : Nat → Value) (n : Nat), n = args.length + (fn.ntmps - args.length) → (∀ t, tm t = (args[t]?).getD undef) → Trip P W0 c ⟨tm, n, H, nx⟩ fun x s => (x = .normal ∨ x = .ret) ∧ ∃ v, z2K P s fn.results = some v ∧ R v s.nx s.H) : ACalls P W0 f args nx H R :=
 z7w hf hb (fun _ => rfl) (h _ _ rfl (fun _ => rfl))
theorem OpsL.nil {ops : Array Oper} {st : ASt} {Q : ASt → Prop} (h : Q st) : OpsL P W0 ops [] st Q := h
theorem zed {st : ASt} {Q : AExit → ASt → Prop} {c : Operand} {x y : Code} {p : Prop} [Decidable p] (hc : st.ev c = some (.bool (decide p))) (h1 : p → Trip P W0 x st Q) (h2 : ¬p → Trip P W0 y st Q) : Trip P W0 (.cond c x y) st Q := by
 refine Trip.cond hc ?_;by_cases h : p
 ·simpa [h] using h1 h
 ·simpa [h] using h2 h
theorem z9i {st : ASt} {Q : AExit → ASt → Prop} {c : Operand} {x y : Code} {b : Bool} (hc : st.ev c = some (.bool b)) (h1 : b = true → Trip P W0 x st Q) (h2 : b = false → Trip P W0 y st Q) : Trip P W0 (.cond c x y) st Q := by
 refine Trip.cond hc ?_;cases b
 ·simpa using h2 rfl
 ·simpa using h1 rfl
theorem zG {c : Code} {st : ASt} {Q : AExit → ASt → Prop} {α : Type} (I : α → ASt → Prop) (μ : α → Nat) (a0 : α) (h0 : I a0 st) (h : ∀ a s, I a s → Trip P W0 c s fun e s' => match e with | .normal => ∃ a', I a' s' ∧ μ a' < μ a | e => Q e s') : Trip P W0 (.loop c) st Q := by
 have key : ∀ n a s, I a s → μ a < n → Rnd P W0 c Q n s := by
  intro n
  induction n with
  | zero => intro a s _ hm; omega
  | succ n ih =>
   intro a s hi hm;refine Trip.mono (h a s hi) ?_;intro e s' hq;cases e with
   | normal => obtain ⟨a', hq1, hq2⟩ := hq; exact ih a' s' hq1 (by omega)
   | exit id => exact hq
   | goto l => exact hq
   | ret => exact hq
 exact Trip.loop (μ a0 + 1) (key _ a0 st h0 (by omega))
variable {Q : AExit → ASt → Prop} {st : ASt}
theorem zD {id : Nat} (h : Q .normal st) : zt id Q (.exit id) st := by simpa [zt] using h
theorem zH {id : Nat} (h : Q .normal st) : zt id Q .normal st := h
theorem z0h {id : Nat} (h : Q .ret st) : zt id Q .ret st := h
variable {ops : Array Oper} {dst : Option Tmp} {op : Op} {type : TypeId} {pos : String} {after : Array Edge} {guard : Option (Nat × Bool)} {l : List Oper} {tm : Nat → Value} {n nx : Nat} {H : Heap} {v : Value} {QQ : ASt → Prop}
theorem zw {d : Tmp} (hd : d < n) (hop : aop P H nx (ASt.ev ⟨tm, n, H, nx⟩) ⟨some d, op, type, pos, after, none⟩ = some (v, .none)) (h : OpsL P W0 ops l ⟨zb tm (some d) v, n, H, nx⟩ QQ) : OpsL P W0 ops (⟨some d, op, type, pos, after, none⟩ :: l) ⟨tm, n, H, nx⟩ QQ :=
 zdg (by simp [z1B, hd]) rfl hop h
theorem OpsL.e {e : Eff} {d : Tmp} (hd : d < n) (hop : aop P H nx (ASt.ev ⟨tm, n, H, nx⟩) ⟨some d, op, type, pos, after, none⟩ = some (v, e)) (h : OpsL P W0 ops l ⟨zb tm (some d) v, n, e.H nx H, e.nx nx⟩ QQ) : OpsL P W0 ops (⟨some d, op, type, pos, after, none⟩ :: l) ⟨tm, n, H, nx⟩ QQ :=
 zbh (by simp [z1B, hd]) rfl hop h
theorem zgy {e : Eff} (hop : aop P H nx (ASt.ev ⟨tm, n, H, nx⟩) ⟨none, op, type, pos, after, none⟩ = some (v, e)) (h : OpsL P W0 ops l ⟨tm, n, e.H nx H, e.nx nx⟩ QQ) : OpsL P W0 ops (⟨none, op, type, pos, after, none⟩ :: l) ⟨tm, n, H, nx⟩ QQ :=
 zbh rfl rfl hop h
variable {ev : Operand → Option Value}
theorem z1y {s : TypeId} {x : Operand} {f : Nat} {a : Addr} {v : Value}
  (hx : ev x = some (.pointer (some a))) (h : z3r P s (.pointer (some a)) f = some v) :
  aop P H nx ev ⟨dst, .fieldAddr s x f, type, pos, after, guard⟩ = some (v, .none) := by simp [aop, hx, h]
variable {f : FuncId} {R : Value → Nat → Heap → Prop} {d : Tmp} {ts : Array TypeId}
theorem zbU (hd : d < n) (hf : z1G P f) (hcall : ACalls P W0 f [] nx H R) (h : ∀ v nx' H', R v nx' H' → OpsL P W0 ops l ⟨zb tm (some d) v, n, H', nx'⟩ QQ) :
  OpsL P W0 ops (⟨some d, .call ⟨.value (.func f), #[], ts⟩, type, pos, after, none⟩ :: l) ⟨tm, n, H, nx⟩ QQ :=
 OpsL.call R (by simp [z1B, hd]) rfl (by simp [z1z, ASt.ev, z1k]) hf hcall h
theorem zbT {x : Operand} {a : Value} (hd : d < n) (hx : ASt.ev ⟨tm, n, H, nx⟩ x = some a) (hf : z1G P f) (hcall : ACalls P W0 f [a] nx H R) (h : ∀ v nx' H', R v nx' H' → OpsL P W0 ops l ⟨zb tm (some d) v, n, H', nx'⟩ QQ) :
  OpsL P W0 ops (⟨some d, .call ⟨.value (.func f), #[x], ts⟩, type, pos, after, none⟩ :: l) ⟨tm, n, H, nx⟩ QQ := by
 refine OpsL.call R (by simp [z1B, hd]) rfl ?_ hf hcall h;have hf' : ASt.ev ⟨tm, n, H, nx⟩ (.func f) = some (.func (.func f) #[] #[]) := rfl;simp [z1z, hf', z1k, hx]
theorem z7O {x y : Operand} {a b : Value} (hd : d < n) (hx : ASt.ev ⟨tm, n, H, nx⟩ x = some a) (hy : ASt.ev ⟨tm, n, H, nx⟩ y = some b) (hf : z1G P f) (hcall : ACalls P W0 f [a, b] nx H R) (h : ∀ v nx' H', R v nx' H' → OpsL P W0 ops l ⟨zb tm (some d) v, n, H', nx'⟩ QQ) :
  OpsL P W0 ops (⟨some d, .call ⟨.value (.func f), #[x, y], ts⟩, type, pos, after, none⟩ :: l) ⟨tm, n, H, nx⟩ QQ := by
 refine OpsL.call R (by simp [z1B, hd]) rfl ?_ hf hcall h;have hf' : ASt.ev ⟨tm, n, H, nx⟩ (.func f) = some (.func (.func f) #[] #[]) := rfl;simp [z1z, hf', z1k, hx, hy]
theorem zbS {x y z : Operand} {a b c : Value} (hd : d < n) (hx : ASt.ev ⟨tm, n, H, nx⟩ x = some a) (hy : ASt.ev ⟨tm, n, H, nx⟩ y = some b) (hz : ASt.ev ⟨tm, n, H, nx⟩ z = some c) (hf : z1G P f) (hcall : ACalls P W0 f [a, b, c] nx H R) (h : ∀ v nx' H', R v nx' H' → OpsL P W0 ops l ⟨zb tm (some d) v, n, H', nx'⟩ QQ) :
  OpsL P W0 ops (⟨some d, .call ⟨.value (.func f), #[x, y, z], ts⟩, type, pos, after, none⟩ :: l) ⟨tm, n, H, nx⟩ QQ := by
 refine OpsL.call R (by simp [z1B, hd]) rfl ?_ hf hcall h;have hf' : ASt.ev ⟨tm, n, H, nx⟩ (.func f) = some (.func (.func f) #[] #[]) := rfl;simp [z1z, hf', z1k, hx, hy, hz]
theorem z5Z {j : Nat} {want : Bool} {d' : Tmp} (hj : (ops[j]?).bind (·.dst) = some d') (hb : tm d' = .bool want) (h : OpsL P W0 ops (⟨dst, op, type, pos, after, none⟩ :: l) ⟨tm, n, H, nx⟩ QQ) :
  OpsL P W0 ops (⟨dst, op, type, pos, after, some (j, want)⟩ :: l) ⟨tm, n, H, nx⟩ QQ := by
 obtain ⟨hd, h⟩ := h;refine ⟨hd, ?_⟩;have hw : z18 ops ⟨tm, n, H, nx⟩ ⟨dst, op, type, pos, after, some (j, want)⟩ = true := by simp [z18, hj, hb]
 rcases h with ⟨hw', _⟩ | ⟨_, h⟩
 ·simp [z18] at hw'
 ·exact .inr ⟨hw, h⟩
theorem z60 {j : Nat} {want : Bool} {d' : Tmp} (hj : (ops[j]?).bind (·.dst) = some d') (hb : tm d' = .bool (!want)) (hd : d < n) (h : OpsL P W0 ops l ⟨zb tm (some d) undef, n, H, nx⟩ QQ) :
  OpsL P W0 ops (⟨some d, op, type, pos, after, some (j, want)⟩ :: l) ⟨tm, n, H, nx⟩ QQ := by
 refine ⟨by simp [z1B, hd], .inl ⟨?_, h⟩⟩;cases want <;> simp_all [z18]
theorem z61 {j : Nat} {want : Bool} {d' : Tmp} {p : Prop} [Decidable p] (hj : (ops[j]?).bind (·.dst) = some d') (hb : tm d' = .bool (decide p)) (hd : d < n)
  (h1 : decide p = want → OpsL P W0 ops (⟨some d, op, type, pos, after, none⟩ :: l) ⟨tm, n, H, nx⟩ QQ) (h2 : decide p = (!want) → OpsL P W0 ops l ⟨zb tm (some d) undef, n, H, nx⟩ QQ) :
  OpsL P W0 ops (⟨some d, op, type, pos, after, some (j, want)⟩ :: l) ⟨tm, n, H, nx⟩ QQ := by
 by_cases e : decide p = want
 ·exact z5Z hj (by rw [hb, e]) (h1 e)
 ·have e' : decide p = !want := by revert e; cases decide p <;> cases want <;> simp
  exact z60 hj (by rw [hb, e']) hd (h2 e')
theorem zaA {j : Nat} {d' : Tmp} {p : Prop} [Decidable p] (hj : (ops[j]?).bind (·.dst) = some d') (hb : tm d' = .bool (decide p)) (hd : d < n)
  (h1 : p → OpsL P W0 ops (⟨some d, op, type, pos, after, none⟩ :: l) ⟨tm, n, H, nx⟩ QQ) (h2 : ¬p → OpsL P W0 ops l ⟨zb tm (some d) undef, n, H, nx⟩ QQ) :
  OpsL P W0 ops (⟨some d, op, type, pos, after, some (j, true)⟩ :: l) ⟨tm, n, H, nx⟩ QQ :=
 z61 hj hb hd (fun e => h1 (by simpa using e)) (fun e => h2 (by simpa using e))
theorem zaB {j : Nat} {d' : Tmp} {p : Prop} [Decidable p] (hj : (ops[j]?).bind (·.dst) = some d') (hb : tm d' = .bool (decide p)) (hd : d < n)
  (h1 : ¬p → OpsL P W0 ops (⟨some d, op, type, pos, after, none⟩ :: l) ⟨tm, n, H, nx⟩ QQ) (h2 : p → OpsL P W0 ops l ⟨zb tm (some d) undef, n, H, nx⟩ QQ) :
  OpsL P W0 ops (⟨some d, op, type, pos, after, some (j, false)⟩ :: l) ⟨tm, n, H, nx⟩ QQ :=
 z61 hj hb hd (fun e => h1 (by simpa using e)) (fun e => h2 (by simpa using e))
theorem zd5 {x y z : Operand} {v : Value} (hx : ev x = some (.bool true)) (hv : ev y = some v) : aop P H nx ev ⟨dst, .pick x y z, type, pos, after, guard⟩ = some (v, .none) := by simp [aop, hx, hv]
theorem zd6 {x y z : Operand} {v : Value} (hx : ev x = some (.bool false)) (hv : ev z = some v) : aop P H nx ev ⟨dst, .pick x y z, type, pos, after, guard⟩ = some (v, .none) := by simp [aop, hx, hv]
theorem zV {t : TypeId} {l : List Value} (hz : z0Y P t = some l) : aop P H nx ev ⟨dst, .alloc t, type, pos, after, guard⟩ = some (.pointer (some ⟨nx, 0, none⟩), .new (.cells l 0 none false (some t))) := by simp [aop, zaM, hz]
theorem zy {t : TypeId} {x : Operand} {a : Addr} {dd : TypeDesc} {k : Nat} {vs : List Value} (hx : ev x = some (.pointer (some a))) (hu : P.underlying t = some dd) (hd : z5O dd = true) (hz : z1W P t = some k) (hc : z1f H a k = some vs) :
  aop P H nx ev ⟨dst, .load t x, type, pos, after, guard⟩ = some (.agg vs.toArray, .none) := by simp [aop, hx, zbp, z3Q, hu, hd, hz, hc]
theorem z2C {t : TypeId} {x y : Operand} {a : Addr} {u : Value} {k : Nat} {o : AObj} (hx : ev x = some (.pointer (some a))) (hy : ev y = some u) (hz : z1W P t = some k) (hk : u.cells.size = k) (hc : zbX H a u.cells.toList = some o) :
  aop P H nx ev ⟨dst, .store t x y, type, pos, after, guard⟩ = some (undef, .upd a.block o) := by simp [aop, hx, hy, z8P, za4, hz, hk, hc]
theorem OpsL.new {o : AObj} (hd : d < n) (hop : aop P H nx (ASt.ev ⟨tm, n, H, nx⟩) ⟨some d, op, type, pos, after, none⟩ = some (v, .new o)) (h : OpsL P W0 ops l ⟨zb tm (some d) v, n, H.put nx o, nx + 1⟩ QQ) : OpsL P W0 ops (⟨some d, op, type, pos, after, none⟩ :: l) ⟨tm, n, H, nx⟩ QQ :=
 OpsL.e hd hop h
theorem OpsL.upd {o : AObj} {k : Nat} (hop : aop P H nx (ASt.ev ⟨tm, n, H, nx⟩) ⟨none, op, type, pos, after, none⟩ = some (v, .upd k o)) (h : OpsL P W0 ops l ⟨tm, n, H.put k o, nx⟩ QQ) : OpsL P W0 ops (⟨none, op, type, pos, after, none⟩ :: l) ⟨tm, n, H, nx⟩ QQ :=
 zgy hop h
theorem Trip.ok {c : Code} (h : (∀ id o, st.H id = some o → id < st.nx) → Trip P W0 c st Q) : Trip P W0 c st Q := fun ρ C a w hr hs => h (fun id o ho => (hs.rel.lt id o ho).1) ρ C a w hr hs
theorem z5c {a : Addr} {m : Nat} {vs : List Value} (h : z1f H a m = some vs) : ∃ o, H a.block = some o := by
 obtain ⟨o, ho, _⟩ := z49 h; exact ⟨o, ho⟩
theorem zu {k : Nat} {o : AObj} : H.put k o k = some o := by simp [Heap.put]
theorem zj {i k : Nat} {o : AObj} (h : i ≠ k) : H.put k o i = H i := by simp [Heap.put, h]
theorem z2n {t : TypeId} {a : Addr} {dd : TypeDesc} {k : Nat} {vs : List Value} (hu : P.underlying t = some dd) (hd : z5O dd = true) (hz : z1W P t = some k) (hc : z1f H a k = some vs) : z3Q P H t a = some (.agg vs.toArray) := by simp [z3Q, hu, hd, hz, hc]
theorem zn {t : Tmp} : z2K P st #[.tmp t] = some (st.tm t) := rfl
theorem z50 {t : Tmp} {ty : TypeId} {a : Addr} {v : Value} (ht : st.tm t = .pointer (some a)) (hr : z3Q P st.H ty a = some v) : z2K P st #[.cell t ty] = some v := by simp [z2K, z3B, z5D, ht, hr]
theorem ze2 {k : Nat} {c : List Value} {e : Nat} {tg : Option Nat} {ro : Bool} {q : Option TypeId} {off m : Nat} (h : off + m ≤ c.length) : z1f (H.put k (.cells c e tg ro q)) ⟨k, off, tg⟩ m = some ((c.drop off).take m) := by simp [z1f, Heap.put, h]
end
end Go.Am
namespace Go.Am
open Go.RowKit
section
variable {P : Program} {W0 : World} {ops : Array Oper} {H : Heap} {nx n : Nat}
def zhp (P : Program) (ops : Array Oper) (H : Heap) (nx n : Nat) (o : Oper) (tm : Nat → Value) (v : Value) : Prop :=
 (∀ d, o.dst = some d → d < n) ∧ ((z2m ops tm o = false ∧ v = undef) ∨ (z2m ops tm o = true ∧ aop P H nx (evR (z3V o) tm) o = some (v, .none)))
def z1X (P : Program) (ops : Array Oper) (H : Heap) (nx n : Nat) : List Oper → (Nat → Value) → ((Nat → Value) → Prop) → Prop
 | [], tm, Q => Q tm
 | o :: l, tm, Q => ∃ v, zhp P ops H nx n o tm v ∧ z1X P ops H nx n l (zb tm o.dst v) Q
variable {d : Tmp} {op : Op} {type : TypeId} {pos : String} {after : Array Edge} {l : List Oper} {tm : Nat → Value} {v : Value} {QQ : (Nat → Value) → Prop}
end
end Go.Am
namespace Go.Am
open Go.RowKit
section
variable {P : Program} {W0 : World} {H : Heap} {nx n : Nat}
def OwnRow (H : Heap) (ob : Option (Nat × Nat)) (el : TypeId) (sz : Nat) (v : Value) (cs : List Value) (k : Nat) : Prop :=
 match ob with
 | none => v = .slice none 0 0 ∧ cs = [] ∧ k = 0
 | some (b, t) => v = .slice (some ⟨b, 0, some t⟩) k k ∧ cs.length = k * sz ∧ ∃ rest, H b = some (.cells (cs ++ rest) sz (some t) false (some el))
def z4P (nx : Nat) : Option (Nat × Nat) → Nat
 | none => nx
 | some (b, _) => b
variable {ev : Operand → Option Value} {dst : Option Tmp} {type : TypeId} {pos : String} {after : Array Edge} {guard : Option (Nat × Bool)}
theorem z7m {ob : Option (Nat × Nat)} {el : TypeId} {sz bytes k m : Nat} {v u : Value} {cs xs z : List Value} {x y : Operand} {st xt : TypeId} {xd : TypeDesc} (hx : ev x = some v) (hy : ev y = some u) (hv : OwnRow H ob el sz v cs k)
  (hs : z2V H sz u none = some (m, xs)) (h1 : xs.all (·.oneCell') = true) (hm : m ≠ 0) (hst : P.underlying st = some (.slice el)) (hxt : P.underlying xt = some xd) (hxd : z2J xd = true)
  (hsz : z1W P el = some sz) (hby : z0u P el = some bytes) (hz : z0Y P el = some z) (hzl : z.length = sz) (hle : k + m ≤ 1099511627776) (hle2 : (2 * (k + m) + 192) * bytes ≤ 281474976710656) :
  ∃ e, aop P H nx ev ⟨dst, .call ⟨.builtin .append, #[x, y], #[st, xt]⟩, type, pos, after, guard⟩ = some (.slice (some ⟨z4P nx ob, 0, some nx⟩) (k + m) (k + m), e) ∧
   e.H nx H = H.put (z4P nx ob) (.cells (cs ++ xs) sz (some nx) false (some el)) ∧ e.nx nx = nx + 1 := by
 cases ob with
 | none =>
  obtain ⟨rfl, rfl, rfl⟩ := hv;refine ⟨.new (.cells xs sz (some nx) false (some el)), ?_, by simp [Eff.H, z4P], rfl⟩;simp only [Nat.zero_add] at hle hle2;simp [aop, hx, hy, z1k, z1o, z3h, hst, hxt, hsz, hby, hz, hxd, hzl, hs, hm, hle, hle2, z4P];rw [if_pos (by simpa using h1)]
 | some bt =>
  obtain ⟨b, t⟩ := bt;obtain ⟨rfl, hc, rest, ho⟩ := hv;refine ⟨.bump b (.cells (cs ++ xs) sz (some nx) false (some el)), ?_, by simp [Eff.H, z4P], rfl⟩
  have hg : z1f H ⟨b, 0, some t⟩ (k * sz) = some cs := by
   unfold z1f;simp only [ho];rw [if_pos ⟨trivial, by simp; omega⟩];simp [← hc]
  simp [aop, hx, hy, z1k, z1o, z3h, hst, hxt, hsz, hby, hz, hxd, hzl, hs, hm, ho, hle, hle2, hg, z4P];rw [if_pos (by simpa using h1)]
variable {ops : Array Oper} {l : List Oper} {tm : Nat → Value} {QQ : ASt → Prop} {d : Tmp}
theorem OpsL.append {ob : Option (Nat × Nat)} {el : TypeId} {sz bytes k m : Nat} {v u : Value} {cs xs z : List Value} {x y : Operand} {st xt : TypeId} {xd : TypeDesc} (hd : d < n) (hx : ASt.ev ⟨tm, n, H, nx⟩ x = some v) (hy : ASt.ev ⟨tm, n, H, nx⟩ y = some u) (hv : OwnRow H ob el sz v cs k)
  (hs : z2V H sz u none = some (m, xs)) (h1 : xs.all (·.oneCell') = true) (hm : m ≠ 0) (hst : P.underlying st = some (.slice el)) (hxt : P.underlying xt = some xd) (hxd : z2J xd = true)
  (hsz : z1W P el = some sz) (hby : z0u P el = some bytes) (hz : z0Y P el = some z) (hzl : z.length = sz) (hle : k + m ≤ 1099511627776) (hle2 : (2 * (k + m) + 192) * bytes ≤ 281474976710656)
  (h : OpsL P W0 ops l ⟨zb tm (some d) (.slice (some ⟨z4P nx ob, 0, some nx⟩) (k + m) (k + m)), n, H.put (z4P nx ob) (.cells (cs ++ xs) sz (some nx) false (some el)), nx + 1⟩ QQ) :
  OpsL P W0 ops (⟨some d, .call ⟨.builtin .append, #[x, y], #[st, xt]⟩, type, pos, after, none⟩ :: l) ⟨tm, n, H, nx⟩ QQ := by
 obtain ⟨e, he, h1', h2'⟩ := z7m (P := P) (nx := nx) (dst := some d) (type := type) (pos := pos) (after := after) (guard := none) hx hy hv hs h1 hm hst hxt hxd hsz hby hz hzl hle hle2;refine OpsL.e hd he ?_;rw [h1', h2'];exact h
def OwnInts (H : Heap) (ob : Option (Nat × Nat)) (el : TypeId) (v : Value) (xs : List Int) : Prop := OwnRow H ob el 1 v (xs.map (.int .i64 ·)) xs.length
theorem z4p {t el : TypeId} {x : Operand} {k : IntKind} {a b : Int} (hx : ev x = some (.int k a)) (hu : P.underlying t = some (.slice el)) (hs : z1W P el = some 1) (hz : z0Y P el = some [.int k b]) :
  aop P H nx ev ⟨dst, .buildSlice t 1 #[(0, x)], type, pos, after, guard⟩ = some (.slice (some ⟨nx, 0, none⟩) 1 1, .new (.cells [.int k a] 1 none false (some el))) := by
 simp [aop, hx, zQ, z2q, hu, hs, hz, z8H, rep, Value.cells, Value.oneCell', z6x]
theorem z5G {k m c : Nat} {cs : List Value} {e : Nat} {tg : Option Nat} {ro : Bool} {q : Option TypeId} {sz : Nat} (hH : H k = some (.cells cs e tg ro q)) (hm : m * sz = cs.length) (h0 : m * sz ≠ 0) :
  z2V H sz (.slice (some ⟨k, 0, tg⟩) m c) none = some (m, cs) := by
 simp [z2V, cut, h0, z1f, hH, hm]
end
section
variable {P : Program} {W0 : World} {H : Heap} {nx n : Nat} {ev : Operand → Option Value} {dst : Option Tmp} {type : TypeId} {pos : String} {after : Array Edge} {guard : Option (Nat × Bool)}
theorem z89 {s t : TypeId} {d : TypeDesc} {k k' : IntKind} {x : Operand} {a : Int} (hx : ev x = some (.int k a)) (hs : P.underlying s = some d) (ht : P.underlying t = some (.int k')) :
  aop P H nx ev ⟨dst, .convert s t x, type, pos, after, guard⟩ = some (.int k' (k'.wrap a), .none) := by
 have : z56 P nx H s t (.int k a) = some (.int k' (k'.wrap a), .none) := by
  unfold z56;rw [hs, ht]
 simp [aop, hx, this]
theorem z0V {x : Operand} {i : Nat} {a : Array Value} {v : Value} (hx : ev x = some (.tuple a)) (hv : a[i]? = some v) : aop P H nx ev ⟨dst, .extract x i, type, pos, after, guard⟩ = some (v, .none) := by
 simp [aop, hx, z6r, hv]
theorem z39 {t u : TypeId} {k : IntKind} {x y : Operand} {a b : Int} (hx : ev x = some (.int k a)) (hy : ev y = some (.int k b)) (h : a = b) :
  aop P H nx ev ⟨dst, .binOp .eql t x y u, type, pos, after, guard⟩ = some (.bool true, .none) := by
 rw [zag hx hy]; simp [h]
theorem zaO (a : Int) : IntKind.i64.wrap a = (a + 9223372036854775808) % 18446744073709551616 - 9223372036854775808 := by
 simp only [IntKind.wrap, IntKind.bits, IntKind.signed, Bool.true_and, decide_eq_true_eq, Nat.reduceSub, Int.reducePow, ge_iff_le];split <;> omega
end
end Go.Am
