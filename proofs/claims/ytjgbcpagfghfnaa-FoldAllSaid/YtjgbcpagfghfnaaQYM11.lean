import Derived.Test.YtjgbcpagfghfnaaQYM10
import Derived.Orders
import Derived.Lib.Bytealg
set_option linter.unusedVariables false
set_option linter.unusedSimpArgs false
set_option linter.unnecessarySimpa false
namespace Go.Am
open Go.RowKit
def z3V (o : Oper) : List Tmp := o.op.operands.toList.filterMap fun | .tmp t => some t | _ => none
def evR (ts : List Tmp) (tm : Nat → Value) : Operand → Option Value
 | .tmp t => if ts.contains t then some (tm t) else none
 | .const v => if z7z v then some v else none
 | .func f => some (.func (.func f) #[] #[])
 | .global g => cond (Nat.blt g NG) (some (.pointer (some ⟨g, 0, none⟩))) none
def z8D (ops : Array Oper) (o : Oper) : Option Tmp :=
 match o.guard with
 | none => none
 | some (j, _) => (ops[j]?).bind (·.dst)
def z2m (ops : Array Oper) (tm : Nat → Value) (o : Oper) : Bool :=
 match o.guard with
 | none => true
 | some (_, want) =>
  match z8D ops o with
  | some d => match tm d with
   | .bool b => b == want
   | _ => false
  | none => false
def z44 (ev : Operand → Option Value) (o : Oper) : Option (FuncId × List Value) :=
 match o.op with
 | .call c =>
  match c.callee with
  | .value x =>
   match ev x, z1k ev c.args.toList with
   | some (.func (.func f) first captured), some l => some (f, (first.toList ++ l) ++ captured.toList)
   | _, _ => none
  | _ => none
 | _ => none
theorem z1d {ts : List Tmp} {tm tm' : Nat → Value} (h : ∀ t ∈ ts, tm t = tm' t) : evR ts tm = evR ts tm' := by
 funext x;cases x with
 | tmp t =>
  simp only [evR];split
  ·rename_i hc; rw [h t (List.contains_iff_mem.1 hc)]
  ·rfl
 | _ => rfl
def dep (o : Oper) (j : Nat) : Prop := ∃ e ∈ o.after, Region.binds .any e = true ∧ e.on = j
def zaH (ev : Operand → Option Value) (o : Oper) : Option (Nat × List Value) :=
 match o.op with
 | .call c =>
  match c.callee with
  | .value x =>
   match ev x, z1k ev c.args.toList with
   | some (.chan (some l)), some args => some (l, args)
   | _, _ => none
  | _ => none
 | _ => none
def zfk (P : Program) (W0 : World) (l : Nat) (args : List Value) (nx : Nat) (H : Heap) (Q : Value → Nat → Heap → Prop) : Prop :=
 ∀ C w args', Rel W0 C nx H w → VRs nx H C args args' → ∃ fn tmps asg body, (Instr.yield (C.loc l).1 args'.toArray).run P w = .ok (.round (C.loc l).1 fn tmps asg body) w ∧
  RoundIn Fence.wide 0 P (C.loc l).1 fn tmps asg body w fun e w' => ∃ v v' C' nx' H', e = .returned v' ∧ Q v nx' H' ∧ Rel W0 C' nx' H' w' ∧ VR nx' H' C' v v' ∧ Stp nx H C nx' H' C'
def YB : Nat := 2000000000
def XB : Nat := 1500000000
def z7V (ev : Operand → Option Value) (o : Oper) : Option (FuncId × List Value) :=
 match o.op with
 | .call c =>
  match c.callee with
  | .value x =>
   match ev x, z1k ev c.args.toList with
   | some (.func (.func f) first captured), some l => cond (Nat.blt f XB) (some (f, (first.toList ++ l) ++ captured.toList)) none
   | some (.chan (some l)), some args => some (YB + l, args)
   | _, _ => none
  | _ => none
 | _ => none
def GCalls (P : Program) (W0 : World) (f : FuncId) (args : List Value) (nx : Nat) (H : Heap) (Q : Value → Nat → Heap → Prop) : Prop :=
 (f < YB ∧ z1G P f ∧ ACalls P W0 f args nx H Q) ∨ (∃ l, f = YB + l ∧ z6y (H l) = true ∧ zfk P W0 l args nx H Q)
theorem z8q {ev : Operand → Option Value} {o : Oper} {f : FuncId} {args : List Value} (h : z7V ev o = some (f, args)) : (f < XB ∧ z44 ev o = some (f, args)) ∨ ∃ l, f = YB + l ∧ zaH ev o = some (l, args) := by
 unfold z7V at h;cases ho : o.op with
 | call c =>
  simp only [ho] at h;cases hc : c.callee with
  | value x =>
   simp only [hc] at h;split at h
   ·rename_i g a b l h1 h2;cases hb : Nat.blt g XB with
    | false => rw [hb] at h; cases h
    | true =>
     rw [hb] at h;simp only [cond_true, Option.some.injEq, Prod.mk.injEq] at h;obtain ⟨rfl, rfl⟩ := h;left;refine ⟨by rw [Nat.blt_eq] at hb; exact hb, ?_⟩;unfold z44;simp only [ho, hc, h1, h2]
   ·rename_i l aas h1 h2;right;simp only [Option.some.injEq, Prod.mk.injEq] at h;obtain ⟨rfl, rfl⟩ := h;refine ⟨l, rfl, ?_⟩;unfold zaH;simp only [ho, hc, h1, h2]
   ·cases h
  | _ => simp only [hc] at h; cases h
 | _ => simp only [ho] at h; cases h
theorem ze5 {st : ASt} {ev : Operand → Option Value} (hev : ∀ x v, ev x = some v → st.ev x = some v) : ∀ (l : List Operand) (r : List Value), z1k ev l = some r → z1k st.ev l = some r := by
 intro l
 induction l with
 | nil => intro r h; exact h
 | cons x l ih =>
  intro r h;simp only [z1k] at h ⊢;split at h
  ·rename_i v l' hv hl;rw [hev x v hv, ih l' hl];exact h
  ·cases h
theorem zcL {P : Program} {W0 : World} {C : Corr} {st : ASt} {a : Act} {w : World} (hs : SRel W0 C st a w) {ev : Operand → Option Value} (hev : ∀ x v, ev x = some v → st.ev x = some v) {o : Oper} {l : Nat} {args : List Value} (h : zaH ev o = some (l, args)) (hl : z6y (st.H l) = true) :
  ∃ args' : List Value, VRs st.nx st.H C args args' ∧ ∀ ro, (o.semAt ro a.eval).run P w = (Instr.yield (C.loc l).1 args'.toArray).run P w := by
 unfold zaH at h;split at h
 ·rename_i c hc;split at h
  ·rename_i x hx;split at h
   ·rename_i l' aas h1 h2;simp only [Option.some.injEq, Prod.mk.injEq] at h;obtain ⟨rfl, rfl⟩ := h;have ha := z34 hs.ev _ _ (ze5 hev _ _ h2);have hv := hs.ev x _ (hev _ _ h1)
    obtain ⟨ob, hob, hot⟩ : ∃ ob, st.H l' = some ob ∧ ob.tag = none := by
     cases hq : st.H l' with
     | none => rw [hq] at hl; cases hl
     | some ob => cases ob <;> first | exact ⟨_, rfl, rfl⟩ | (rw [hq] at hl; cases hl)
    generalize hu : a.eval x = u at hv;cases hv with
    | yld _ b' q1 q2 =>
     refine ⟨c.args.toList.map a.eval, ha, fun ro => ?_⟩;rw [Oper.semAt_eq ro a.eval o (fun d hd => by rw [hc] at hd; cases hd)];have e : (c.args.toList.map a.eval).toArray = c.args.map a.eval := by apply Array.ext'; simp
     rw [e, ← q2 ob hob hot];simp only [execOp, hc, resolve, hx, Deferred.ofValue, hu, Sem.run_bind, Sem.run_pure, Result.andThen_ok, invoke, Array.empty_append]
   ·cases h
  ·cases h
 ·cases h
def DStep (P : Program) (W0 : World) (ops : Array Oper) (tm : Nat → Value) (n : Nat) (H : Heap) (nx : Nat) (o : Oper) (v : Value) (H' : Heap) (nx' : Nat) : Prop :=
 (∀ d, o.dst = some d → d < n) ∧
 ((z2m ops tm o = false ∧ v = undef ∧ H' = H ∧ nx' = nx) ∨
  (z2m ops tm o = true ∧ ((∃ e, aop P H nx (evR (z3V o) tm) o = some (v, e) ∧ H' = e.H nx H ∧ nx' = e.nx nx) ∨
   (∃ f args, z44 (evR (z3V o) tm) o = some (f, args) ∧ z1G P f ∧ ACalls P W0 f args nx H fun v1 n1 H1 => v1 = v ∧ n1 = nx' ∧ H1 = H') ∨
   (∃ f args, z7V (evR (z3V o) tm) o = some (f, args) ∧ GCalls P W0 f args nx H fun v1 n1 H1 => v1 = v ∧ n1 = nx' ∧ H1 = H'))))
section
variable {P : Program} {W0 : World} {ops : Array Oper}
theorem z0D {tm tm' : Nat → Value} {o : Oper} (h : ∀ d, z8D ops o = some d → tm d = tm' d) : z2m ops tm o = z2m ops tm' o := by
 unfold z2m;cases hg : o.guard with
 | none => rfl
 | some g =>
  simp only;cases hd : z8D ops o with
  | none => rfl
  | some d => simp only [h d hd]
theorem z0Q (st : ASt) (o : Oper) : z2m ops st.tm o = z18 ops st o := by
 unfold z2m z18 z8D;cases o.guard with
 | none => rfl
 | some g => rfl
theorem z9a {C : Corr} {st : ASt} {a : Act} {w : World} (hs : SRel W0 C st a w) (ts : List Tmp) : ∀ x v, evR ts st.tm x = some v → VR st.nx st.H C v (a.eval x) := by
 intro x v hv;apply hs.ev x v;cases x with
 | tmp t =>
  simp only [evR] at hv;split at hv
  ·exact hv
  ·cases hv
 | _ => exact hv
theorem z3L {C : Corr} {st : ASt} {a : Act} {w : World} (hs : SRel W0 C st a w) {ev : Operand → Option Value} (hev : ∀ x v, ev x = some v → st.ev x = some v) {o : Oper} {f : FuncId} {args : List Value} (h : z44 ev o = some (f, args)) : z1z st o = some (f, args) := by
 have hall : ∀ (l : List Operand) (r : List Value), z1k ev l = some r → z1k st.ev l = some r := by
  intro l
  induction l with
  | nil => intro r h; exact h
  | cons x l ih =>
   intro r h;simp only [z1k] at h ⊢;split at h
   ·rename_i v l' hv hl;rw [hev x v hv, ih l' hl];exact h
   ·cases h
 unfold z44 at h;unfold z1z;cases ho : o.op <;> simp only [ho] at h ⊢ <;> try (cases h; done)
 rename_i c;cases hc : c.callee <;> simp only [hc] at h ⊢ <;> try (cases h; done)
 rename_i x;split at h
 ·rename_i f' first captured l hx hl
  rw [hev x _ hx, hall _ _ hl];exact h
 ·cases h
theorem zcm (st : ASt) (ts : List Tmp) : ∀ x v, evR ts st.tm x = some v → st.ev x = some v := by
 intro x v hv;cases x with
 | tmp t =>
  simp only [evR] at hv;split at hv
  ·exact hv
  ·cases hv
 | _ => exact hv
theorem GCalls.wp {ρ : Option Nat} {C : Corr} {st : ASt} {a : Act} {w : World} {ev : Operand → Option Value} {o : Oper} {f : FuncId} {args : List Value} {R : Value → Nat → Heap → Prop} {next : Act → World → Prop} {Q : Exit → Act → World → Prop}
  (hs : SRel W0 C st a w) (hev : ∀ x v, ev x = some v → st.ev x = some v) (hd : ∀ d, o.dst = some d → d < st.n) (hc : z7V ev o = some (f, args)) (hg : GCalls P W0 f args st.nx st.H R)
  (hk : ∀ v v' C' nx' H' w', R v nx' H' → SRel W0 C' ⟨zb st.tm o.dst v, st.n, H', nx'⟩ (a.put o.dst v') w' → Stp st.nx st.H C nx' H' C' → next (a.put o.dst v') w') : o.wpIn (rf ρ) 0 P a w next Q := by
 refine ⟨fun _ _ => trivial, ?_⟩;rcases z8q hc with ⟨hfl, hE⟩ | ⟨l, rfl, hY⟩
 ·rcases hg with ⟨_, hf, hcall⟩ | ⟨l, rfl, hl, _⟩
  ·have hE' := z3L hs hev hE;obtain ⟨args', hrun, hargs⟩ := z3c hs hE' hf;rw [show (rf ρ).round = ρ from rfl, z3d hE', hrun];refine ⟨fun h => (by cases h), z4E ((hcall C w args' hs.rel hargs).mono ?_)⟩;rintro e w'' ⟨v0, v', C', nx1, H1, rfl, hr, hR, hv, hS⟩;exact hk v0 v' C' nx1 H1 w'' hr (hs.put hd hR hS hv) hS
  ·exact absurd (Nat.lt_trans hfl (by decide : XB < YB)) (Nat.not_lt.2 (Nat.le_add_right YB l))
 ·rcases hg with ⟨hlt, _, _⟩ | ⟨l', e, hl, hy⟩
  ·exact absurd hlt (Nat.not_lt.2 (Nat.le_add_right YB l))
  ·obtain rfl : l = l' := Nat.add_left_cancel e;obtain ⟨args', ha, hrun⟩ := zcL (P := P) hs hev hY hl;rw [hrun];obtain ⟨fn, tmps, asg, body, h1, h2⟩ := hy C w args' hs.rel ha;rw [h1];have h3 : RoundIn (rf ρ) (0 - 1) P (C.loc l).1 fn tmps asg body w fun e w' => ∃ v v' C' nx' H', e = .returned v' ∧ R v nx' H' ∧ Rel W0 C' nx' H' w' ∧ VR nx' H' C' v v' ∧ Stp st.nx st.H C nx' H' C' := h2;refine ⟨fun h => (by cases h), h3.mono ?_⟩;rintro e w'' ⟨v0, v', C', nx1, H1, rfl, hr, hR, hv, hS⟩;exact hk v0 v' C' nx1 H1 w'' hr (hs.put hd hR hS hv) hS
theorem DStep.wp {ρ : Option Nat} {C : Corr} {tm : Nat → Value} {n : Nat} {H : Heap} {nx : Nat} {o : Oper} {v : Value} {H' : Heap} {nx' : Nat} {a : Act} {w : World} {i : Nat} {K : Act → World → Prop} {Q : Exit → Act → World → Prop} (hs : SRel W0 C ⟨tm, n, H, nx⟩ a w)
  (h : DStep P W0 ops tm n H nx o v H' nx') (ho : ops[i]? = some o)
  (hk : ∀ C' v' w', SRel W0 C' ⟨zb tm o.dst v, n, H', nx'⟩ (a.put o.dst v') w' → Stp nx H C nx' H' C' → K (a.put o.dst v') w') : wpOpIn (rf ρ) 0 P ops Q i K a w := by
 obtain ⟨hd, h⟩ := h;have hww := z1S hs ops o;rw [← z0Q] at hww;unfold wpOpIn;rw [ho];simp only [hww];rcases h with ⟨hw, rfl, rfl, rfl⟩ | ⟨hw, h⟩
 ·simp only [hw, Bool.false_eq_true, if_false];exact ⟨fun _ _ => trivial, hk C undef w (hs.put hd hs.rel (Stp.refl _ _ _) z3z) (Stp.refl _ _ _)⟩
 ·simp only [hw, if_true];rcases h with ⟨e, hop, rfl, rfl⟩ | ⟨f, args, hc, hf, hcall⟩ | ⟨f, args, hc, hg⟩
  ·refine ⟨fun _ _ => trivial, ?_⟩;obtain ⟨nn, v', w', C', hrun, hn, hR, hS, hv⟩ := z9g hs.rel (z9a hs _) hop;rw [z9h hop, hrun];have := hk C' v' w' (hs.put hd hR hS hv) hS;rcases hn with rfl | ⟨rfl, rfl⟩
   ·exact this
   ·exact this
  ·refine ⟨fun _ _ => trivial, ?_⟩;have hE' := z3L hs (zcm _ _) hc;obtain ⟨args', hrun, hargs⟩ := z3c hs hE' hf;rw [z3d hE', hrun];refine ⟨fun h => (by cases h), z4E ((hcall C w args' hs.rel hargs).mono ?_)⟩;rintro e w'' ⟨v0, v', C', nx1, H1, rfl, ⟨rfl, rfl, rfl⟩, hR, hv, hS⟩;exact hk C' v' w'' (hs.put hd hR hS hv) hS
  ·exact hg.wp hs (zcm _ _) hd hc (fun v1 v' C' nx1 H1 w' hr hs' hS => by obtain ⟨rfl, rfl, rfl⟩ := hr; exact hk C' v' w' hs' hS)
def zgM (ops : Array Oper) : Nat → Oper → Nat → Prop
 | 0, o, i => dep o i
 | n + 1, o, i => dep o i ∨ ∃ m om, ops[m]? = some om ∧ dep o m ∧ zgM ops n om i
structure Drawn (P : Program) (W0 : World) (ops : Array Oper) (st : ASt) (tms : Nat → Nat → Value) (vs : Nat → Value) (Hs : Nat → Heap) (ns : Nat → Nat) (isE : Nat → Bool) : Prop where
 t0 : tms 0 = st.tm
 h0 : Hs 0 = st.H
 n0 : ns 0 = st.nx
 tstep : ∀ (i : Nat) (o : Oper), ops[i]? = some o → tms (i + 1) = zb (tms i) o.dst (vs i)
 step : ∀ (i : Nat) (o : Oper), ops[i]? = some o → DStep P W0 ops (tms i) st.n (Hs i) (ns i) o (vs i) (Hs (i + 1)) (ns (i + 1))
 still : ∀ i, isE i = false → Hs (i + 1) = Hs i ∧ ns (i + 1) = ns i
 lex : ∀ (i : Nat) (o : Oper), ops[i]? = some o → ∀ j, dep o j → j < i
 one : ∀ (i j : Nat) (oi oj : Oper) (d : Tmp), ops[i]? = some oi → ops[j]? = some oj → oi.dst = some d → oj.dst = some d → i = j
 read : ∀ (i j : Nat) (oi oj : Oper) (t : Tmp), ops[i]? = some oi → ops[j]? = some oj → (t ∈ z3V oi ∨ z8D ops oi = some t) → oj.dst = some t → (j < i → dep oi j) ∧ (i < j → dep oj i)
 chain : ∀ (i j : Nat) (oj : Oper), isE i = true → isE j = true → ops[j]? = some oj → i < j → (∀ k, i < k → k < j → isE k = false) → ∃ n, zgM ops n oj i
 stable : ∀ (i : Nat) (oi : Oper) (p : Nat), ops[i]? = some oi → isE i = false → z2m ops (tms i) oi = true → (p = 0 ∨ ∃ e, p = e + 1 ∧ isE e = true) → p ≤ ops.size → (∀ j, isE j = true → dep oi j → j < p) →
  (∀ (e : Nat) (oe : Oper), isE e = true → e < p → ops[e]? = some oe → ¬ dep oe i) → aop P (Hs p) (ns p) (evR (z3V oi) (tms i)) oi = some (vs i, .none)
 inE : ∀ i, isE i = true → i < ops.size
variable {st : ASt} {tms : Nat → Nat → Value} {vs : Nat → Value} {Hs : Nat → Heap} {ns : Nat → Nat} {isE : Nat → Bool}
structure DInv (ops : Array Oper) (st : ASt) (vs : Nat → Value) (isE : Nat → Bool) (listed : Array Bool) (tm : Nat → Value) (p : Nat) : Prop where
 size : listed.size = ops.size
 down : ∀ (i : Nat) (o : Oper), ops[i]? = some o → listed.getD i false = true → ∀ j, dep o j → listed.getD j false = true
 pin : p = 0 ∨ ∃ e, p = e + 1 ∧ isE e = true
 ple : p ≤ ops.size
 pE : ∀ e, isE e = true → (listed.getD e false = true ↔ e < p)
 put : ∀ (i : Nat) (o : Oper) (d : Tmp), ops[i]? = some o → o.dst = some d → listed.getD i false = true → tm d = vs i
 old : ∀ t, (∀ (i : Nat) (o : Oper), ops[i]? = some o → o.dst = some t → listed.getD i false = false) → tm t = st.tm t
theorem z0T {listed : Array Bool} {i : Nat} (h : i < listed.size) (d : Bool) : (listed.setIfInBounds i true).getD i d = true := by
 rw [Array.getD_eq_getD_getElem?, Array.getElem?_setIfInBounds_self_of_lt h]; rfl
theorem z5B {listed : Array Bool} {i : Nat} (h : i < listed.size) (d e : Bool) : listed.getD i d = listed.getD i e := by
 rw [Array.getD_eq_getD_getElem?, Array.getD_eq_getD_getElem?, Array.getElem?_eq_getElem h]; rfl
end
end Go.Am
namespace Go.Am
open Go.RowKit
noncomputable section
structure CSt where
 tt : Tree Value
 n : Nat
 ht : Tree AObj
 nx : Nat
 asm : List (FuncId × List Value × Value)
def CSt.put (s : CSt) (dst : Option Tmp) (v : Value) (ht : Tree AObj) (nx : Nat) (asm : List (FuncId × List Value × Value)) : CSt :=
 match s with
 | ⟨tt, n, _, _, _⟩ => ⟨match dst with | some d => tt.set d v | none => tt, n, ht, nx, asm⟩
inductive Job where
 | code (c : Code)
 | loop (c : Code)
 | scope (b c : Code)
 | ops (ops : Array Oper) (l : List Oper)
 | dops (ops : Array Oper) (l : List Oper)
 | call (f : FuncId) (args : List Value)
structure DTr where
 s : CSt
 v : Value
 e : Bool
structure Out where
 x : AExit
 v : Value
 s : CSt
 tr : List DTr
def z5D (P : Program) (st : ASt) : ResultVar → Option Value
 | .tmp t => some (st.tm t)
 | .cell a t =>
  match st.tm a with
  | .pointer (some a) => z3Q P st.H t a
  | _ => none
def z3B (P : Program) (st : ASt) : List ResultVar → Option (List Value)
 | [] => some []
 | r :: l =>
  match z5D P st r, z3B P st l with
  | some v, some vs => some (v :: vs)
  | _, _ => none
def z2K (P : Program) (st : ASt) (rs : Array ResultVar) : Option Value :=
 match z3B P st rs.toList with
 | some [v] => some v
 | some l => some (.tuple l.toArray)
 | none => none
def z41 {α : Type} (f : Nat → α → Bool) : Nat → List α → Bool
 | _, [] => true
 | i, x :: l => f i x && z41 f (i + 1) l
theorem z1T {α : Type} {f : Nat → α → Bool} : ∀ (l : List α) (k : Nat), z41 f k l = true → ∀ i x, l[i]? = some x → f (k + i) x = true := by
 intro l
 induction l with
 | nil => intro k _ i x h; simp at h
 | cons y l ih =>
  intro k h i x hx;simp only [z41, Bool.and_eq_true] at h;cases i with
  | zero => simp only [List.getElem?_cons_zero, Option.some.injEq] at hx; subst hx; exact h.1
  | succ i =>
   have := ih (k + 1) h.2 i x (by simpa using hx)
   rwa [show k + 1 + i = k + (i + 1) by omega] at this
def zca (o : Oper) (j : Nat) : Bool := o.after.toList.any fun e => Region.binds .any e && e.on == j
theorem z2w {o : Oper} {j : Nat} : zca o j = true ↔ dep o j := by
 unfold zca dep;rw [List.any_eq_true];constructor
 ·rintro ⟨e, he, h⟩;simp only [Bool.and_eq_true, beq_iff_eq] at h;exact ⟨e, by simpa using he, h.1, h.2⟩
 ·rintro ⟨e, he, h1, h2⟩;exact ⟨e, by simpa using he, by simp [h1, h2]⟩
def zaI (ops : Array Oper) : Bool :=
 z41 (fun i o => o.after.toList.all fun e => !Region.binds .any e || decide (e.on < i)) 0 ops.toList &&
 z41 (fun i oi => z41 (fun j oj => i == j || (match oi.dst, oj.dst with | some d, some d' => d != d' | _, _ => true)) 0 ops.toList) 0 ops.toList &&
 z41 (fun i oi => z41 (fun j oj => i == j || (match oj.dst with
  | some t => if (z3V oi).contains t || z8D ops oi == some t then (if j < i then zca oi j else zca oj i) else true
  | none => true)) 0 ops.toList) 0 ops.toList
end
end Go.Am
namespace Go.Am
open Go.RowKit
noncomputable section
def zhq (P : Program) (f : FuncId) : Prop := ∀ (x : Value) (w : World), (callFunc f #[x]).run P w = .ok (.value x) w
section
variable {P : Program} {W0 : World} {st : ASt}
def zgz (P : Program) (f : FuncId) : Prop := ∀ (s : ByteArray) (c : Int) (w : World), (callFunc f #[.string s, .int .u8 c]).run P w = .ok (.value (.int .i64 (Lib.indexByte s.data.toList c.toNat.toUInt8))) w
def z8K (tmps : Array Value) (r : ResultVar) : Sem Value :=
 match r with
 | .tmp t => pure (tmps.getD t undef)
 | .cell a t => do loadVar t (← asAddr (tmps.getD a undef))
theorem zbt (fn : Func) (tmps : Array Value) : results fn tmps = (do
  let vs ← fn.results.mapM (z8K tmps)
  pure (if h : vs.size = 1 then vs[0] else .tuple vs)) := rfl
theorem z8s {C : Corr} {a : Act} {w : World} (hs : SRel W0 C st a w) {r : ResultVar} {v : Value} (h : z5D P st r = some v) :
  ∃ v', (z8K a.tmps r).run P w = .ok v' w ∧ VR st.nx st.H C v v' := by
 cases r with
 | tmp t =>
  simp only [z5D, Option.some.injEq] at h;subst h;exact ⟨_, rfl, hs.tm t⟩
 | cell x t =>
  simp only [z5D] at h;split at h
  ·rename_i p hp;have := hs.tm x;rw [hp] at this;unfold z8K;simp only;generalize a.tmps.getD x undef = y at this ⊢;cases this with
   | ptr _ b k1 k2 =>
   obtain rfl := k2 (z6W h);obtain ⟨v', e, hv⟩ := z5U (P := P) hs.rel h;exact ⟨v', by simpa [asAddr] using e, hv⟩
  ·cases h
theorem z4O {C : Corr} {a : Act} {w : World} (hs : SRel W0 C st a w) : ∀ (l : List ResultVar) (vs : List Value), z3B P st l = some vs → ∃ vs', (l.mapM (z8K a.tmps)).run P w = .ok vs' w ∧ VRs st.nx st.H C vs vs' := by
 intro l
 induction l with
 | nil => intro vs h; simp only [z3B, Option.some.injEq] at h; subst h; exact ⟨[], by simp, VRs.nil⟩
 | cons r l ih =>
  intro vs h;simp only [z3B] at h;split at h
  ·rename_i u us hu hus;simp only [Option.some.injEq] at h;subst h;obtain ⟨u', e1, e2⟩ := z8s hs hu;obtain ⟨us', f1, f2⟩ := ih us hus;refine ⟨u' :: us', ?_, VRs.cons e2 f2⟩;simp only [List.mapM_cons, Sem.run_bind, e1, Result.andThen_ok, f1, Sem.run_pure]
  ·cases h
theorem z7n {C : Corr} {a : Act} {w : World} (hs : SRel W0 C st a w) {fn : Func} {v : Value} (h : z2K P st fn.results = some v) :
  ∃ v', (results fn a.tmps).run P w = .ok v' w ∧ VR st.nx st.H C v v' := by
 unfold z2K at h
 have hres : ∀ vs', (fn.results.toList.mapM (z8K a.tmps)).run P w = .ok vs' w →
   (results fn a.tmps).run P w = .ok (if h : vs'.toArray.size = 1 then vs'.toArray[0] else .tuple vs'.toArray) w := by
  intro vs' hvs;rw [zbt, Array.mapM_eq_mapM_toList];simp only [Sem.run_bind, Sem.run_map, hvs, Result.andThen_ok, Sem.run_pure]
 split at h
 ·rename_i u hu;simp only [Option.some.injEq] at h;subst h;obtain ⟨vs', e1, e2⟩ := z4O hs _ _ hu;obtain ⟨u', r, rfl, hx, hr⟩ := e2.uncons;have : r = [] := by rw [← List.length_eq_zero_iff, ← hr.1]; rfl
  subst this;exact ⟨u', by rw [hres _ e1]; rfl, hx⟩
 ·rename_i l hne hl;simp only [Option.some.injEq] at h;subst h;obtain ⟨vs', e1, e2⟩ := z4O hs _ _ hl;refine ⟨.tuple vs'.toArray, ?_, e2.tuple⟩;rw [hres _ e1, dif_neg];intro hsz;have : l.length = 1 := by rw [e2.1]; simpa using hsz
  obtain ⟨u, rfl⟩ := List.length_eq_one_iff.1 this;exact hne u rfl
 ·cases h
theorem zal {fn : Func} {tmps : Array Value} {R : Ending → World → Prop} {nx : Nat} {H : Heap} {p0 : Nat → Option Obj} : ∀ (ds : List Nat) (C : Corr) (w : World), ds.Nodup → (∀ D ∈ ds, p0 D = none ∧ C.pin D = some (.deferred (some []))) →
  (∀ k o, p0 k = some o → C.pin k = some o) → Rel W0 C nx H w → (∀ w', Rel W0 (C.re p0) nx H w' → LeavesIn Fence.wide 0 P fn tmps R [] .returning w') → LeavesInM Fence.wide 0 P fn tmps R (ds.map zh0) .returning w := by
 intro ds
 induction ds with
 | nil => intro C w _ _ hp hR hfin; exact hfin w (hR.pinLess hp)
 | cons D ds ih =>
  intro C w hnd hD hp hR hfin;obtain ⟨h1, h2⟩ := hD D (List.mem_cons_self ..);obtain ⟨h3, h4⟩ := hR.pin D _ h2;have hlt : D < w.heap.size := (Array.getElem?_eq_some_iff.1 h4).1;have hne : ∀ k, k ≠ D → (w.heap.setIfInBounds D (.deferred none))[k]? = w.heap[k]? := fun k hk => Array.getElem?_setIfInBounds_ne (Ne.symm hk);refine ⟨by simp, .inl ⟨D, { w with heap := w.heap.setIfInBounds D (.deferred none) }, rfl, ?_, ?_⟩⟩
  ·simp [Instr.takeDeferred, Sem.run_bind, getObj, setObj, Sem.run, h4, Result.andThen]
  ·have hR' : Rel W0 (C.re fun k => if k = D then none else C.pin k) nx H { w with heap := w.heap.setIfInBounds D (.deferred none) } := by
    refine hR.unpin h2 (fun id o ho e => ?_) (hR.below.trans ⟨rfl, rfl, rfl, by simp, fun k hk => hne k (by omega), Nat.le_refl _⟩) hne;have hob := hR.obj id o ho;cases o with
    | cells c e2 t ro q => obtain ⟨_, _, _, hh, _⟩ := hob; rw [e, h4] at hh; cases hh
    | map es bs ck => obtain ⟨_, hh, _⟩ := hob; rw [e, h4] at hh; cases hh
    | miter m a b c => obtain ⟨_, hh, _⟩ := hob; rw [e, h4] at hh; cases hh
    | loop a b c d e2 f g => obtain ⟨_, hh, _⟩ := hob; rw [e, h4] at hh; cases hh
    | siter s p => have hh := hob.1; rw [e, h4] at hh; cases hh
   rw [List.nodup_cons] at hnd;refine ih _ _ hnd.2 (fun D' hD' => ?_) (fun k o hk => ?_) hR' hfin
   ·have hx := hD D' (List.mem_cons_of_mem _ hD');have : D' ≠ D := fun e => hnd.1 (e ▸ hD');exact ⟨hx.1, by simp only [Corr.re, this, if_false]; exact hx.2⟩
   ·have : k ≠ D := fun e => by rw [e, h1] at hk; cases hk
    simp only [Corr.re, this, if_false];exact hp k o hk
theorem z7w {f : FuncId} {fn : Func} {c : Code} {args : List Value} {nx : Nat} {H : Heap} {R : Value → Nat → Heap → Prop} (hf : P.funcs[f]? = some fn) (hb : fn.body = some c) {tm : Nat → Value} (htm : ∀ t, tm t = (args[t]?).getD undef)
  (h : Trip P W0 c ⟨tm, args.length + (fn.ntmps - args.length), H, nx⟩ fun x s => (x = .normal ∨ x = .ret) ∧ ∃ v, z2K P s fn.results = some v ∧ R v s.nx s.H) : ACalls P W0 f args nx H R := by
 intro C w args' hR ha;refine callsIn_wide.1 (callsIn_of_wp_marks (n := 0) hf hb trivial ?_ rfl)
 have hs : SRel W0 C ⟨tm, args.length + (fn.ntmps - args.length), H, nx⟩ { tmps := args'.toArray ++ Array.replicate (fn.ntmps - args'.toArray.size) undef, defers := [] } w := by
  refine ⟨fun t => ?_, by simp [ha.1], hR⟩;show VR nx H C (tm t) _;rw [htm, Array.getD_eq_getD_getElem?];by_cases h1 : t < args.length
  ·have h2 : t < args'.length := by rw [← ha.1]; exact h1
   rw [Array.getElem?_append_left (by simpa using h2)];simp only [List.getElem?_toArray, List.getElem?_eq_getElem h1, List.getElem?_eq_getElem h2, Option.getD_some];exact ha.2 t h1 h2
  ·rw [List.getElem?_eq_none (by omega), Array.getElem?_append_right (by simp; rw [← ha.1]; omega)];simp only [Option.getD_none];rw [Array.getElem?_replicate];split <;> exact z3z
 have hw : c.wpIn Fence.wide 0 P _ _ w := h none C _ w (fun c hc => by cases hc) hs;refine wpIn_mono hw ?_;rintro e a' w' ⟨x, s, C', rfl, ⟨hx, v, hv, hr⟩, hs', hS, hn, ds, hds, hnd, hD⟩;have hS' : Stp nx H C s.nx s.H (C'.re C.pin) := ⟨⟨hS.le, hS.keep⟩, fun _ _ x => x, hS.fix⟩
 have hpost : LeavesInM Fence.wide 0 P fn a'.tmps (fun e w' => ∃ v v' C' nx' H', e = .returned v' ∧ R v nx' H' ∧ Rel W0 C' nx' H' w' ∧ VR nx' H' C' v v' ∧ Stp nx H C nx' H' C') a'.defers .returning w' := by
  have hds' : a'.defers = ds.map zh0 := by rw [hds]; simp
  rw [hds'];refine zal ds C' w' hnd hD hS.pin hs'.rel fun w2 hR2 => ?_;have hs2 : SRel W0 (C'.re C.pin) s a' w2 := ⟨fun t => (hs'.tm t).mono0 (Stp0.re _ _ _ _), hs'.sz, hR2⟩;obtain ⟨v', e1, e2⟩ := z7n hs2 hv;exact ⟨v', e1, v, v', _, s.nx, s.H, rfl, hr, hR2, e2, hS'⟩
 rcases hx with rfl | rfl
 ·exact hpost
 ·exact hpost
end
section
variable {P : Program} {W0 : World} {ops : Array Oper}
theorem z6S (h : zaI ops = true) :
  (∀ (i : Nat) (o : Oper), ops[i]? = some o → ∀ j, dep o j → j < i) ∧
  (∀ (i j : Nat) (oi oj : Oper) (d : Tmp), ops[i]? = some oi → ops[j]? = some oj → oi.dst = some d → oj.dst = some d → i = j) ∧
  (∀ (i j : Nat) (oi oj : Oper) (t : Tmp), ops[i]? = some oi → ops[j]? = some oj → (t ∈ z3V oi ∨ z8D ops oi = some t) → oj.dst = some t → (j < i → dep oi j) ∧ (i < j → dep oj i)) := by
 unfold zaI at h;simp only [Bool.and_eq_true] at h;obtain ⟨⟨h1, h2⟩, h3⟩ := h;have toL : ∀ (i : Nat) (o : Oper), ops[i]? = some o → ops.toList[i]? = some o := fun i o ho => by simpa using ho
 refine ⟨?_, ?_, ?_⟩
 ·rintro i o ho j ⟨e, he, hb, rfl⟩;have := z1T _ 0 h1 i o (toL i o ho);rw [List.all_eq_true] at this;have := this e (by simpa using he);simp only [hb, Bool.not_true, Bool.false_or, decide_eq_true_eq] at this;omega
 ·intro i j oi oj d hi hj hdi hdj;have := z1T _ 0 h2 i oi (toL i oi hi);have := z1T _ 0 this j oj (toL j oj hj);simp only [hdi, hdj, Bool.or_eq_true, beq_iff_eq, bne_self_eq_false, Bool.false_eq_true, or_false] at this;omega
 ·intro i j oi oj t hi hj ht hd;have := z1T _ 0 h3 i oi (toL i oi hi);have := z1T _ 0 this j oj (toL j oj hj);simp only [hd, Bool.or_eq_true, beq_iff_eq] at this
  have hc : ((z3V oi).contains t = true ∨ z8D ops oi = some t) := by
   rcases ht with ht | ht
   ·exact .inl (List.contains_iff_mem.2 ht)
   ·exact .inr ht
  rw [if_pos hc] at this;refine ⟨fun hlt => ?_, fun hlt => ?_⟩
  ·rcases this with e | e
   ·omega
   ·rw [if_pos (by omega)] at e;rw [← z2w]; simpa using e
  ·rcases this with e | e
   ·omega
   ·rw [if_neg (by omega)] at e;rw [← z2w]; simpa using e
end
section
variable {P : Program} {W0 : World} {xs : List Nat}
variable {ov : FuncId → List Value → Option Value}
end
end
end Go.Am
namespace Go.Am
open Go.RowKit
noncomputable section
section
variable {P : Program} {W0 : World}
abbrev z8Q := List (Nat × List Value)
noncomputable def z6B (T : z8Q) : Tree AObj := T.foldr (fun x t => t.set x.1 (.cells x.2 1 none true none)) .leaf
def Tabs (T : z8Q) (w : World) : Prop := ∀ x ∈ T, x.1 < NG ∧ x.2.all zK = true ∧ ∃ Cc el fr, w.heap[x.1]? = some (.cells Cc el fr) ∧ x.2.length ≤ Cc.size ∧ ∀ i, i < x.2.length → Cc[i]? = x.2[i]?
theorem Tabs.nil {w : World} : Tabs [] w := fun _ h => by cases h
theorem z2p {T : z8Q} {g : Nat} {o : AObj} (h : (z6B T).get g = some o) : ∃ c, (g, c) ∈ T ∧ o = .cells c 1 none true none := by
 induction T with
 | nil => simp [z6B, z8x] at h
 | cons x T ih =>
  simp only [z6B, List.foldr_cons, z9N] at h;split at h
  ·rename_i e;cases h;subst e;exact ⟨x.2, List.mem_cons_self .., rfl⟩
  ·obtain ⟨c, h1, h2⟩ := ih h;exact ⟨c, List.mem_cons_of_mem _ h1, h2⟩
def Corr.tab (w : World) : Corr := ⟨fun i => (i, 0), fun i => match w.heap[i]? with | some (.cells Cc _ _) => Cc.size | _ => 0, fun _ => none⟩
theorem zee {T : z8Q} {w : World} (hT : Tabs T w) (hb : BelD W0.heap.size W0 w) : Rel W0 (Corr.tab w) NG (z6B T).get w := by
 refine ⟨hb, fun g o h => ?_, fun g o h => ?_, fun g o h hro => ?_, fun i j oi oj hi hj _ hro => ?_, fun _ _ h => (by cases h), Nat.le_refl _, fun g o _ h => ?_, fun _ _ _ => rfl⟩
 ·obtain ⟨c, hm, rfl⟩ := z2p h;exact ⟨(hT _ hm).1, fun t ht => by cases ht⟩
 ·obtain ⟨c, hm, rfl⟩ := z2p h;obtain ⟨h1, h2, Cc, el, fr, h3, h4, h5⟩ := hT _ hm;refine ⟨Cc, el, fr, h3, by simp [Corr.tab, h3], by simpa [Corr.tab] using h4, fun i hi hi' => ?_, fun x => (by cases x), fun t x => (by cases x), fun x => (by cases x), fun x => (by cases x)⟩;have hq := h5 i hi;simp only [Corr.tab, Nat.zero_add] at hi' ⊢;rw [Array.getElem?_eq_getElem hi', List.getElem?_eq_getElem hi, Option.some.injEq] at hq;rw [hq];exact z3j (List.all_eq_true.1 h2 _ (List.getElem_mem hi))
 ·obtain ⟨c, _, rfl⟩ := z2p h; cases hro
 ·obtain ⟨c, _, rfl⟩ := z2p hi; cases hro
 ·obtain ⟨c, _, rfl⟩ := z2p h; exact ⟨rfl, rfl⟩
variable {xs : List Nat} {ov : FuncId → List Value → Option Value}
structure Fit (P : Program) (xs : List Nat) : Prop where
 names : ∀ (f : FuncId) (fn : Func), P.funcs[f]? = some fn → (fn.name == "runtime.NumGoroutine") = false
 exts : ∀ f, f < XB → xs.contains f = true → zhq P f
 idxs : ∀ f, f < XB → xs.contains (XB + f) = true → zgz P f
 mixed : P.follows .mixedOrders = true
 small : P.funcs.size ≤ YB
 extsLt : ∀ f, xs.contains f = true → f < YB
end
end
end Go.Am
