import Derived.Orders
import Derived.Lib.Bytealg
import Derived.Test.YteplpegfcpmflaaGreatQOM3
set_option linter.unusedSimpArgs false
set_option linter.unusedVariables false
set_option maxRecDepth 100000
set_option maxHeartbeats 64000000
namespace Go.Am
open Go.RowKit
def z4d (o : Oper) : List Tmp := o.op.operands.toList.filterMap fun | .tmp t => some t | _ => none
def evR (ts : List Tmp) (tm : Nat → Value) : Operand → Option Value
 | .tmp t => if ts.contains t then some (tm t) else none
 | .const v => if z8p v then some v else none
 | .func f => some (.func (.func f) #[] #[])
 | .global g => cond (Nat.blt g NG) (some (.pointer (some ⟨g, 0, none⟩))) none
def z9u (ops : Array Oper) (o : Oper) : Option Tmp :=
 match o.guard with
 | none => none
 | some (j, _) => (ops[j]?).bind (·.dst)
def z25 (ops : Array Oper) (tm : Nat → Value) (o : Oper) : Bool :=
 match o.guard with
 | none => true
 | some (_, want) =>
  match z9u ops o with
  | some d => match tm d with
   | .bool b => b == want
   | _ => false
  | none => false
def z3F (ev : Operand → Option Value) (o : Oper) : Option (FuncId × List Value) :=
 match o.op with
 | .call c =>
  match c.callee with
  | .value x =>
   match ev x, z0B ev c.args.toList with
   | some (.func (.func f) first captured), some l => some (f, (first.toList ++ l) ++ captured.toList)
   | _, _ => none
  | _ => none
 | _ => none
theorem z28 {ts : List Tmp} {tm tm' : Nat → Value} (h : ∀ t ∈ ts, tm t = tm' t) : evR ts tm = evR ts tm' := by
 funext x;cases x with
 | tmp t =>
  simp only [evR];split
  ·rename_i hc; rw [h t (List.contains_iff_mem.1 hc)]
  ·rfl
 | _ => rfl
def dep (o : Oper) (j : Nat) : Prop := ∃ e ∈ o.after, Region.binds .any e = true ∧ e.on = j
def zaM (ev : Operand → Option Value) (o : Oper) : Option (Nat × List Value) :=
 match o.op with
 | .call c =>
  match c.callee with
  | .value x =>
   match ev x, z0B ev c.args.toList with
   | some (.chan (some l)), some args => some (l, args)
   | _, _ => none
  | _ => none
 | _ => none
def zgk (P : Program) (W0 : World) (l : Nat) (args : List Value) (nx : Nat) (H : Heap) (Q : Value → Nat → Heap → Prop) : Prop :=
 ∀ C w args', Rel W0 C nx H w → VRs nx H C args args' → ∃ fn tmps asg body, (Instr.yield (C.loc l).1 args'.toArray).run P w = .ok (.round (C.loc l).1 fn tmps asg body) w ∧
  RoundIn Fence.wide 0 P (C.loc l).1 fn tmps asg body w fun e w' => ∃ v v' C' nx' H', e = .returned v' ∧ Q v nx' H' ∧ Rel W0 C' nx' H' w' ∧ VR nx' H' C' v v' ∧ Stp nx H C nx' H' C'
def YB : Nat := 2000000000
def XB : Nat := 1500000000
def z7l (ev : Operand → Option Value) (o : Oper) : Option (FuncId × List Value) :=
 match o.op with
 | .call c =>
  match c.callee with
  | .value x =>
   match ev x, z0B ev c.args.toList with
   | some (.func (.func f) first captured), some l => cond (Nat.blt f XB) (some (f, (first.toList ++ l) ++ captured.toList)) none
   | some (.chan (some l)), some args => some (YB + l, args)
   | _, _ => none
  | _ => none
 | _ => none
def GCalls (P : Program) (W0 : World) (f : FuncId) (args : List Value) (nx : Nat) (H : Heap) (Q : Value → Nat → Heap → Prop) : Prop :=
 (f < YB ∧ z0O P f ∧ ACalls P W0 f args nx H Q) ∨ (∃ l, f = YB + l ∧ z5W (H l) = true ∧ zgk P W0 l args nx H Q)
theorem z7P {ev : Operand → Option Value} {o : Oper} {f : FuncId} {args : List Value} (h : z7l ev o = some (f, args)) : (f < XB ∧ z3F ev o = some (f, args)) ∨ ∃ l, f = YB + l ∧ zaM ev o = some (l, args) := by
 unfold z7l at h;cases ho : o.op with
 | call c =>
  simp only [ho] at h;cases hc : c.callee with
  | value x =>
   simp only [hc] at h;split at h
   ·rename_i g a b l h1 h2;cases hb : Nat.blt g XB with
    | false => rw [hb] at h; cases h
    | true =>
     rw [hb] at h;simp only [cond_true, Option.some.injEq, Prod.mk.injEq] at h;obtain ⟨rfl, rfl⟩ := h;left;refine ⟨by rw [Nat.blt_eq] at hb; exact hb, ?_⟩;unfold z3F;simp only [ho, hc, h1, h2]
   ·rename_i l aas h1 h2;right;simp only [Option.some.injEq, Prod.mk.injEq] at h;obtain ⟨rfl, rfl⟩ := h;refine ⟨l, rfl, ?_⟩;unfold zaM;simp only [ho, hc, h1, h2]
   ·cases h
  | _ => simp only [hc] at h; cases h
 | _ => simp only [ho] at h; cases h
theorem zeB {st : ASt} {ev : Operand → Option Value} (hev : ∀ x v, ev x = some v → st.ev x = some v) : ∀ (l : List Operand) (r : List Value), z0B ev l = some r → z0B st.ev l = some r := by
 intro l
 induction l with
 | nil => intro r h; exact h
 | cons x l ih =>
  intro r h;simp only [z0B] at h ⊢;split at h
  ·rename_i v l' hv hl;rw [hev x v hv, ih l' hl];exact h
  ·cases h
theorem zdb {P : Program} {W0 : World} {C : Corr} {st : ASt} {a : Act} {w : World} (hs : SRel W0 C st a w) {ev : Operand → Option Value} (hev : ∀ x v, ev x = some v → st.ev x = some v) {o : Oper} {l : Nat} {args : List Value} (h : zaM ev o = some (l, args)) (hl : z5W (st.H l) = true) :
  ∃ args' : List Value, VRs st.nx st.H C args args' ∧ ∀ ro, (o.semAt ro a.eval).run P w = (Instr.yield (C.loc l).1 args'.toArray).run P w := by
 unfold zaM at h;split at h
 ·rename_i c hc;split at h
  ·rename_i x hx;split at h
   ·rename_i l' aas h1 h2;simp only [Option.some.injEq, Prod.mk.injEq] at h;obtain ⟨rfl, rfl⟩ := h;have ha := z2B hs.ev _ _ (zeB hev _ _ h2);have hv := hs.ev x _ (hev _ _ h1)
    obtain ⟨ob, hob, hot⟩ : ∃ ob, st.H l' = some ob ∧ ob.tag = none := by
     cases hq : st.H l' with
     | none => rw [hq] at hl; cases hl
     | some ob => cases ob <;> first | exact ⟨_, rfl, rfl⟩ | (rw [hq] at hl; cases hl)
    generalize hu : a.eval x = u at hv;cases hv with
    | yld _ b' q1 q2 =>
     refine ⟨c.args.toList.map a.eval, ha, fun ro => ?_⟩;rw [Oper.semAt_eq ro a.eval o (fun d hd => by rw [hc] at hd; cases hd)];have e : (c.args.toList.map a.eval).toArray = c.args.map a.eval := by apply Array.ext'; simp
     rw [e, ← q2 ob hob hot];simp only [execOp, hc, resolve, hx, Deferred.ofValue, hu, Sem.run_bind, Sem.run_pure, Result.andThen_ok, invoke, Array.empty_append]
   ·cases h
  ·cases h
 ·cases h
def DStep (P : Program) (W0 : World) (ops : Array Oper) (tm : Nat → Value) (n : Nat) (H : Heap) (nx : Nat) (o : Oper) (v : Value) (H' : Heap) (nx' : Nat) : Prop :=
 (∀ d, o.dst = some d → d < n) ∧
 ((z25 ops tm o = false ∧ v = undef ∧ H' = H ∧ nx' = nx) ∨
  (z25 ops tm o = true ∧ ((∃ e, aop P H nx (evR (z4d o) tm) o = some (v, e) ∧ H' = e.H nx H ∧ nx' = e.nx nx) ∨
   (∃ f args, z3F (evR (z4d o) tm) o = some (f, args) ∧ z0O P f ∧ ACalls P W0 f args nx H fun v1 n1 H1 => v1 = v ∧ n1 = nx' ∧ H1 = H') ∨
   (∃ f args, z7l (evR (z4d o) tm) o = some (f, args) ∧ GCalls P W0 f args nx H fun v1 n1 H1 => v1 = v ∧ n1 = nx' ∧ H1 = H'))))
section
variable {P : Program} {W0 : World} {ops : Array Oper}
theorem z1c {tm tm' : Nat → Value} {o : Oper} (h : ∀ d, z9u ops o = some d → tm d = tm' d) : z25 ops tm o = z25 ops tm' o := by
 unfold z25;cases hg : o.guard with
 | none => rfl
 | some g =>
  simp only;cases hd : z9u ops o with
  | none => rfl
  | some d => simp only [h d hd]
theorem DStep.congr {tm tm' : Nat → Value} {n : Nat} {H : Heap} {nx : Nat} {o : Oper} {v : Value} {H' : Heap} {nx' : Nat} (h : DStep P W0 ops tm n H nx o v H' nx') (h1 : ∀ t ∈ z4d o, tm t = tm' t) (h2 : ∀ d, z9u ops o = some d → tm d = tm' d) :
  DStep P W0 ops tm' n H nx o v H' nx' := by
 unfold DStep at *;rw [← z1c h2, ← z28 h1];exact h
theorem z0I (st : ASt) (o : Oper) : z25 ops st.tm o = z15 ops st o := by
 unfold z25 z15 z9u;cases o.guard with
 | none => rfl
 | some g => rfl
theorem zds {C : Corr} {st : ASt} {a : Act} {w : World} (hs : SRel W0 C st a w) (ts : List Tmp) : ∀ x v, evR ts st.tm x = some v → VR st.nx st.H C v (a.eval x) := by
 intro x v hv;apply hs.ev x v;cases x with
 | tmp t =>
  simp only [evR] at hv;split at hv
  ·exact hv
  ·cases hv
 | _ => exact hv
theorem z3w {C : Corr} {st : ASt} {a : Act} {w : World} (hs : SRel W0 C st a w) {ev : Operand → Option Value} (hev : ∀ x v, ev x = some v → st.ev x = some v) {o : Oper} {f : FuncId} {args : List Value} (h : z3F ev o = some (f, args)) : z0R st o = some (f, args) := by
 have hall : ∀ (l : List Operand) (r : List Value), z0B ev l = some r → z0B st.ev l = some r := by
  intro l
  induction l with
  | nil => intro r h; exact h
  | cons x l ih =>
   intro r h;simp only [z0B] at h ⊢;split at h
   ·rename_i v l' hv hl;rw [hev x v hv, ih l' hl];exact h
   ·cases h
 unfold z3F at h;unfold z0R;cases ho : o.op <;> simp only [ho] at h ⊢ <;> try (cases h; done)
 rename_i c;cases hc : c.callee <;> simp only [hc] at h ⊢ <;> try (cases h; done)
 rename_i x;split at h
 ·rename_i f' first captured l hx hl
  rw [hev x _ hx, hall _ _ hl];exact h
 ·cases h
theorem zcE (st : ASt) (ts : List Tmp) : ∀ x v, evR ts st.tm x = some v → st.ev x = some v := by
 intro x v hv;cases x with
 | tmp t =>
  simp only [evR] at hv;split at hv
  ·exact hv
  ·cases hv
 | _ => exact hv
theorem GCalls.wp {ρ : Option Nat} {C : Corr} {st : ASt} {a : Act} {w : World} {ev : Operand → Option Value} {o : Oper} {f : FuncId} {args : List Value} {R : Value → Nat → Heap → Prop} {next : Act → World → Prop} {Q : Exit → Act → World → Prop}
  (hs : SRel W0 C st a w) (hev : ∀ x v, ev x = some v → st.ev x = some v) (hd : ∀ d, o.dst = some d → d < st.n) (hc : z7l ev o = some (f, args)) (hg : GCalls P W0 f args st.nx st.H R)
  (hk : ∀ v v' C' nx' H' w', R v nx' H' → SRel W0 C' ⟨zl st.tm o.dst v, st.n, H', nx'⟩ (a.put o.dst v') w' → Stp st.nx st.H C nx' H' C' → next (a.put o.dst v') w') : o.wpIn (rf ρ) 0 P a w next Q := by
 refine ⟨fun _ _ => trivial, ?_⟩;rcases z7P hc with ⟨hfl, hE⟩ | ⟨l, rfl, hY⟩
 ·rcases hg with ⟨_, hf, hcall⟩ | ⟨l, rfl, hl, _⟩
  ·have hE' := z3w hs hev hE;obtain ⟨args', hrun, hargs⟩ := z2N hs hE' hf;rw [show (rf ρ).round = ρ from rfl, z2O hE', hrun];refine ⟨fun h => (by cases h), z40 ((hcall C w args' hs.rel hargs).mono ?_)⟩;rintro e w'' ⟨v0, v', C', nx1, H1, rfl, hr, hR, hv, hS⟩;exact hk v0 v' C' nx1 H1 w'' hr (hs.put hd hR hS hv) hS
  ·exact absurd (Nat.lt_trans hfl (by decide : XB < YB)) (Nat.not_lt.2 (Nat.le_add_right YB l))
 ·rcases hg with ⟨hlt, _, _⟩ | ⟨l', e, hl, hy⟩
  ·exact absurd hlt (Nat.not_lt.2 (Nat.le_add_right YB l))
  ·obtain rfl : l = l' := Nat.add_left_cancel e;obtain ⟨args', ha, hrun⟩ := zdb (P := P) hs hev hY hl;rw [hrun];obtain ⟨fn, tmps, asg, body, h1, h2⟩ := hy C w args' hs.rel ha;rw [h1];have h3 : RoundIn (rf ρ) (0 - 1) P (C.loc l).1 fn tmps asg body w fun e w' => ∃ v v' C' nx' H', e = .returned v' ∧ R v nx' H' ∧ Rel W0 C' nx' H' w' ∧ VR nx' H' C' v v' ∧ Stp st.nx st.H C nx' H' C' := h2;refine ⟨fun h => (by cases h), h3.mono ?_⟩;rintro e w'' ⟨v0, v', C', nx1, H1, rfl, hr, hR, hv, hS⟩;exact hk v0 v' C' nx1 H1 w'' hr (hs.put hd hR hS hv) hS
theorem DStep.wp {ρ : Option Nat} {C : Corr} {tm : Nat → Value} {n : Nat} {H : Heap} {nx : Nat} {o : Oper} {v : Value} {H' : Heap} {nx' : Nat} {a : Act} {w : World} {i : Nat} {K : Act → World → Prop} {Q : Exit → Act → World → Prop} (hs : SRel W0 C ⟨tm, n, H, nx⟩ a w)
  (h : DStep P W0 ops tm n H nx o v H' nx') (ho : ops[i]? = some o)
  (hk : ∀ C' v' w', SRel W0 C' ⟨zl tm o.dst v, n, H', nx'⟩ (a.put o.dst v') w' → Stp nx H C nx' H' C' → K (a.put o.dst v') w') : wpOpIn (rf ρ) 0 P ops Q i K a w := by
 obtain ⟨hd, h⟩ := h;have hww := z1X hs ops o;rw [← z0I] at hww;unfold wpOpIn;rw [ho];simp only [hww];rcases h with ⟨hw, rfl, rfl, rfl⟩ | ⟨hw, h⟩
 ·simp only [hw, Bool.false_eq_true, if_false];exact ⟨fun _ _ => trivial, hk C undef w (hs.put hd hs.rel (Stp.refl _ _ _) z3m) (Stp.refl _ _ _)⟩
 ·simp only [hw, if_true];rcases h with ⟨e, hop, rfl, rfl⟩ | ⟨f, args, hc, hf, hcall⟩ | ⟨f, args, hc, hg⟩
  ·refine ⟨fun _ _ => trivial, ?_⟩;obtain ⟨nn, v', w', C', hrun, hn, hR, hS, hv⟩ := z8O hs.rel (zds hs _) hop;rw [z8P hop, hrun];have := hk C' v' w' (hs.put hd hR hS hv) hS;rcases hn with rfl | ⟨rfl, rfl⟩
   ·exact this
   ·exact this
  ·refine ⟨fun _ _ => trivial, ?_⟩;have hE' := z3w hs (zcE _ _) hc;obtain ⟨args', hrun, hargs⟩ := z2N hs hE' hf;rw [z2O hE', hrun];refine ⟨fun h => (by cases h), z40 ((hcall C w args' hs.rel hargs).mono ?_)⟩;rintro e w'' ⟨v0, v', C', nx1, H1, rfl, ⟨rfl, rfl, rfl⟩, hR, hv, hS⟩;exact hk C' v' w'' (hs.put hd hR hS hv) hS
  ·exact hg.wp hs (zcE _ _) hd hc (fun v1 v' C' nx1 H1 w' hr hs' hS => by obtain ⟨rfl, rfl, rfl⟩ := hr; exact hk C' v' w' hs' hS)
def zgC (ops : Array Oper) : Nat → Oper → Nat → Prop
 | 0, o, i => dep o i
 | n + 1, o, i => dep o i ∨ ∃ m om, ops[m]? = some om ∧ dep o m ∧ zgC ops n om i
structure Drawn (P : Program) (W0 : World) (ops : Array Oper) (st : ASt) (tms : Nat → Nat → Value) (vs : Nat → Value) (Hs : Nat → Heap) (ns : Nat → Nat) (isE : Nat → Bool) : Prop where
 t0 : tms 0 = st.tm
 h0 : Hs 0 = st.H
 n0 : ns 0 = st.nx
 tstep : ∀ (i : Nat) (o : Oper), ops[i]? = some o → tms (i + 1) = zl (tms i) o.dst (vs i)
 step : ∀ (i : Nat) (o : Oper), ops[i]? = some o → DStep P W0 ops (tms i) st.n (Hs i) (ns i) o (vs i) (Hs (i + 1)) (ns (i + 1))
 still : ∀ i, isE i = false → Hs (i + 1) = Hs i ∧ ns (i + 1) = ns i
 lex : ∀ (i : Nat) (o : Oper), ops[i]? = some o → ∀ j, dep o j → j < i
 one : ∀ (i j : Nat) (oi oj : Oper) (d : Tmp), ops[i]? = some oi → ops[j]? = some oj → oi.dst = some d → oj.dst = some d → i = j
 read : ∀ (i j : Nat) (oi oj : Oper) (t : Tmp), ops[i]? = some oi → ops[j]? = some oj → (t ∈ z4d oi ∨ z9u ops oi = some t) → oj.dst = some t → (j < i → dep oi j) ∧ (i < j → dep oj i)
 chain : ∀ (i j : Nat) (oj : Oper), isE i = true → isE j = true → ops[j]? = some oj → i < j → (∀ k, i < k → k < j → isE k = false) → ∃ n, zgC ops n oj i
 stable : ∀ (i : Nat) (oi : Oper) (p : Nat), ops[i]? = some oi → isE i = false → z25 ops (tms i) oi = true → (p = 0 ∨ ∃ e, p = e + 1 ∧ isE e = true) → p ≤ ops.size → (∀ j, isE j = true → dep oi j → j < p) →
  (∀ (e : Nat) (oe : Oper), isE e = true → e < p → ops[e]? = some oe → ¬ dep oe i) → aop P (Hs p) (ns p) (evR (z4d oi) (tms i)) oi = some (vs i, .none)
 inE : ∀ i, isE i = true → i < ops.size
variable {st : ASt} {tms : Nat → Nat → Value} {vs : Nat → Value} {Hs : Nat → Heap} {ns : Nat → Nat} {isE : Nat → Bool}
structure DInv (ops : Array Oper) (st : ASt) (vs : Nat → Value) (isE : Nat → Bool) (listed : Array Bool) (tm : Nat → Value) (p : Nat) : Prop where
 size : listed.size = ops.size
 down : ∀ (i : Nat) (o : Oper), ops[i]? = some o → listed.getD i false = true → ∀ j, dep o j → listed.getD j false = true
 pin : p = 0 ∨ ∃ e, p = e + 1 ∧ isE e = true
 ple : p ≤ ops.size
 pE : ∀ e, isE e = true → (listed.getD e false = true ↔ e < p)
 put : ∀ (i : Nat) (o : Oper) (d : Tmp), ops[i]? = some o → o.dst = some d → listed.getD i false = true → tm d = vs i
 old : ∀ t, (∀ (i : Nat) (o : Oper), ops[i]? = some o → o.dst = some t → listed.getD i false = false) → tm t = st.tm t
theorem Drawn.tms_put (h : Drawn P W0 ops st tms vs Hs ns isE) : ∀ i, i ≤ ops.size → (∀ (j : Nat) (o : Oper) (d : Tmp), j < i → ops[j]? = some o → o.dst = some d → tms i d = vs j) ∧ (∀ t, (∀ (j : Nat) (o : Oper), j < i → ops[j]? = some o → o.dst ≠ some t) → tms i t = st.tm t) := by
 intro i
 induction i with
 | zero => exact fun _ => ⟨fun j o d hj => by omega, fun t _ => by rw [h.t0]⟩
 | succ i ih =>
  intro hi;obtain ⟨h1, h2⟩ := ih zom;have ho : ops[i]? = some ops[i] := by simp
  have ht := h.tstep i _ ho;refine ⟨fun j o d hj hoj hd => ?_, fun t hn => ?_⟩
  ·rw [ht];by_cases e : j = i
   ·subst e;rw [ho] at hoj;cases hoj;simp [zl, hd]
   ·have hne : ops[i].dst ≠ some d := fun x => e (h.one _ _ _ _ d hoj ho hd x);have := h1 j o d zom hoj hd;cases hdi : ops[i].dst with
    | none => simpa [zl] using this
    | some d' =>
     have : d ≠ d' := fun x => hne (by rw [hdi, x]);simp only [zl, this, if_false];exact h1 j o d zom hoj hd
  ·rw [ht];have hne := hn i _ zom ho;have := h2 t (fun j o hj hoj => hn j o zom hoj);cases hdi : ops[i].dst with
   | none => simpa [zl] using this
   | some d' =>
    have hx : t ≠ d' := fun x => hne (by rw [hdi, x]);simp only [zl, hx, if_false];exact this
theorem Drawn.reads (h : Drawn P W0 ops st tms vs Hs ns isE) {listed : Array Bool} {tm : Nat → Value} {p : Nat} (hi : DInv ops st vs isE listed tm p) {i : Nat} {o : Oper} (ho : ops[i]? = some o) (hun : listed.getD i false = false)
  (hall : ∀ j, dep o j → listed.getD j false = true) {t : Nat} (ht : t ∈ z4d o ∨ z9u ops o = some t) : tms i t = tm t := by
 have hlt : i < ops.size := (Array.getElem?_eq_some_iff.1 ho).1;obtain ⟨h1, h2⟩ := h.tms_put i zom;by_cases hw : ∃ (j : Nat) (oj : Oper), ops[j]? = some oj ∧ oj.dst = some t
 ·obtain ⟨j, oj, hj, hd⟩ := hw;obtain ⟨r1, r2⟩ := h.read i j o oj t ho hj ht hd;by_cases hji : j < i
  ·rw [h1 j oj t hji hj hd, hi.put j oj t hj hd (hall j (r1 hji))]
  ·have hnl : listed.getD j false = false := by
    by_cases e : j = i
    ·subst e; exact hun
    ·have hdep := r2 zom;cases hl : listed.getD j false with
     | false => rfl
     | true => have := hi.down j oj hj hl i hdep; rw [hun] at this; cases this
   rw [h2 t (fun k ok hk hok hdk => by have := h.one k j ok oj t hok hj hdk hd; omega)];exact (hi.old t (fun k ok hok hdk => by rw [h.one k j ok oj t hok hj hdk hd]; exact hnl)).symm
 ·rw [h2 t (fun j oj hj hoj hd => hw ⟨j, oj, hoj, hd⟩), hi.old t (fun j oj hj hd => absurd ⟨j, oj, hj, hd⟩ hw)]
theorem z6a (h : Drawn P W0 ops st tms vs Hs ns isE) : ∀ (k p : Nat), (∀ j, p ≤ j → j < p + k → isE j = false) → Hs (p + k) = Hs p ∧ ns (p + k) = ns p := by
 intro k
 induction k with
 | zero => intro p _; exact ⟨rfl, rfl⟩
 | succ k ih =>
  intro p hp;obtain ⟨a, b⟩ := ih p (fun j h1 h2 => hp j h1 zom);obtain ⟨c, d⟩ := h.still (p + k) (hp (p + k) zom zom);exact ⟨by rw [← Nat.add_assoc, c, a], by rw [← Nat.add_assoc, d, b]⟩
theorem z1j {listed : Array Bool} {i : Nat} (h : i < listed.size) (d : Bool) : (listed.setIfInBounds i true).getD i d = true := by
 rw [Array.getD_eq_getD_getElem?, Array.getElem?_setIfInBounds_self_of_lt h]; rfl
theorem z52 {listed : Array Bool} {i : Nat} (h : i < listed.size) (d e : Bool) : listed.getD i d = listed.getD i e := by
 rw [Array.getD_eq_getD_getElem?, Array.getD_eq_getD_getElem?, Array.getElem?_eq_getElem h]; rfl
theorem ziN {A : Prop} (h : A := by
 have key : ∀ (l : List Nat), l.Nodup → i ∈ l → ((l.filter fun j => !(listed.setIfInBounds i true).getD j false).length + 1 = (l.filter fun j => !listed.getD j false).length) := by
  intro l
  induction l with
  | nil => intro _ hm; cases hm
  | cons x l ihl =>
   intro hnd hm;rw [List.nodup_cons] at hnd;by_cases e : x = i
   ·subst e
    have hsame : (l.filter fun j => !(listed.setIfInBounds x true).getD j false) = (l.filter fun j => !listed.getD j false) := by
     apply List.filter_congr;intro y hy;rw [getD_set_ne false (fun z : x = y => hnd.1 (by rw [z]; exact hy))]
    rw [List.filter_cons, List.filter_cons];simp only [z1j hlts, hun, Bool.not_true, Bool.not_false, Bool.false_eq_true, if_false, if_true, List.length_cons, hsame]
   ·have hm' : i ∈ l := by
     cases hm with
     | head => exact absurd rfl e
     | tail _ hm => exact hm
    have := ihl hnd.2 hm';rw [List.filter_cons, List.filter_cons, getD_set_ne false (Ne.symm e)];split
    ·simp only [List.length_cons]; omega
    ·exact this
 have := key (List.range ops.size) List.nodup_range (List.mem_range.2 hlt);omega) : A := h
theorem ziJ {A : Prop} (h : A := by
 have : ∃ i, i < ops.size ∧ listed.getD i false = false := by
  cases hl : (List.range ops.size).filter fun i => !listed.getD i false with
  | nil => rw [hl] at hf; simp at hf
  | cons i r =>
   have : i ∈ (List.range ops.size).filter fun i => !listed.getD i false := by rw [hl]; exact List.mem_cons_self ..
   obtain ⟨h1, h2⟩ := List.mem_filter.1 this;exact ⟨i, List.mem_range.1 h1, by simpa using h2⟩
 obtain ⟨i, h1, h2⟩ := this
 induction i using Nat.strongRecOn with
 | _ i ihh =>
  by_cases hm : ∃ j, j < i ∧ listed.getD j false = false
  ·obtain ⟨j, hj1, hj2⟩ := hm;exact ihh j hj1 zom hj2
  ·refine ⟨i, h1, h2, fun j hj => ?_⟩;cases hl : listed.getD j false with
   | true => rfl
   | false => exact absurd ⟨j, hj, hl⟩ hm) : A := h
theorem zdt (h : Drawn P W0 ops st tms vs Hs ns isE) {ρ : Option Nat} {C0 : Corr} {df : List Deferred} {Q : Exit → Act → World → Prop}
  (hq : ∀ C a w, SRel W0 C ⟨tms ops.size, st.n, Hs ops.size, ns ops.size⟩ a w → Stp st.nx st.H C0 (ns ops.size) (Hs ops.size) C → a.defers = df → Q .normal a w) :
  ∀ (fuel : Nat) (listed : Array Bool) (tm : Nat → Value) (p : Nat) (C : Corr) (a : Act) (w : World), DInv ops st vs isE listed tm p → ((List.range ops.size).filter fun i => !listed.getD i false).length = fuel →
   SRel W0 C ⟨tm, st.n, Hs p, ns p⟩ a w → Stp st.nx st.H C0 (ns p) (Hs p) C → a.defers = df → wpAnyIn (rf ρ) 0 P .any ops Q fuel listed a w := by
 intro fuel
 induction fuel with
 | zero =>
  intro listed tm p C a w hi hf hs hS hdf
  have hall : ∀ i, i < ops.size → listed.getD i false = true := by
   intro i hlt;cases hl : listed.getD i false with
   | true => rfl
   | false =>
    have : i ∈ (List.range ops.size).filter fun i => !listed.getD i false := List.mem_filter.2 ⟨List.mem_range.2 hlt, by rw [hl]; rfl⟩;rw [List.length_eq_zero_iff.1 hf] at this;cases this
  refine ⟨?_, ?_⟩
  ·cases hr : Region.ready .any ops listed with
   | nil => rfl
   | cons j r =>
    have hj : j ∈ Region.ready .any ops listed := by rw [hr]; exact List.mem_cons_self ..
    obtain ⟨h0, o, ho, _⟩ := mem_ready.1 hj;have hlt : j < ops.size := (Array.getElem?_eq_some_iff.1 ho).1;have := hall j hlt;rw [z52 (by rw [hi.size]; exact hlt) false true, h0] at this;cases this
  ·have hp : ∀ e, isE e = true → e < p := fun e he => (hi.pE e he).1 (hall e (h.inE e he));have hple := hi.ple;obtain ⟨k, hk⟩ : ∃ k, ops.size = p + k := ⟨ops.size - p, zom⟩
   obtain ⟨e1, e2⟩ := z6a h k p (fun j h1 h2 => by
    cases hj : isE j with
    | false => rfl
    | true => have := hp j hj; omega)
   rw [← hk] at e1 e2
   have htm : tm = tms ops.size := by
    funext t;obtain ⟨q1, q2⟩ := h.tms_put ops.size (Nat.le_refl _);by_cases hw : ∃ (j : Nat) (oj : Oper), ops[j]? = some oj ∧ oj.dst = some t
    ·obtain ⟨j, oj, hj, hd⟩ := hw;have hlt : j < ops.size := (Array.getElem?_eq_some_iff.1 hj).1;rw [q1 j oj t hlt hj hd, hi.put j oj t hj hd (hall j hlt)]
    ·rw [q2 t (fun j oj _ hoj hd => hw ⟨j, oj, hoj, hd⟩), hi.old t (fun j oj hj hd => absurd ⟨j, oj, hj, hd⟩ hw)]
   refine hq C a w ?_ ?_ hdf
   ·rw [e1, e2, ← htm]; exact hs
   ·rw [e1, e2]; exact hS
 | succ fuel ih =>
  intro listed tm p C a w hi hf hs hS hdf;refine ⟨?_, ?_⟩
  ·-- one is ready
   intro hr;exfalso
   -- the least that has not come up
   have hex : ∃ i, i < ops.size ∧ listed.getD i false = false ∧ ∀ j, j < i → listed.getD j false = true := by
    exact ziJ
   obtain ⟨i, hlt, hun, hmin⟩ := hex;have ho : ops[i]? = some ops[i] := by simp
   have : i ∈ Region.ready .any ops listed := mem_ready.2 ⟨by rw [z52 (by rw [hi.size]; exact hlt) true false]; exact hun, _, ho, fun e he hb => hmin _ (h.lex i _ ho e.on ⟨e, he, hb, rfl⟩)⟩;rw [hr] at this;cases this
  ·intro i hir;obtain ⟨h0, o, ho, hall0⟩ := mem_ready.1 hir;have hlt : i < ops.size := (Array.getElem?_eq_some_iff.1 ho).1;have hlts : i < listed.size := by rw [hi.size]; exact hlt
   have hun : listed.getD i false = false := by rw [z52 hlts false true]; exact h0
   have hall : ∀ j, dep o j → listed.getD j false = true := fun j ⟨e, he, hb, hj⟩ => hj ▸ hall0 e he hb;have hrd := fun t ht => h.reads hi ho hun hall (t := t) ht
   have hcount : ((List.range ops.size).filter fun j => !(listed.setIfInBounds i true).getD j false).length = fuel := by
    exact ziN
   have hdown' : ∀ (k : Nat) (ok : Oper), ops[k]? = some ok → (listed.setIfInBounds i true).getD k false = true → ∀ j, dep ok j → (listed.setIfInBounds i true).getD j false = true := by
    intro k ok hok hk j hj;apply getD_set_true;by_cases e : i = k
    ·subst e;rw [ho] at hok;cases hok;exact hall j hj
    ·rw [getD_set_ne false e] at hk;exact hi.down k ok hok hk j hj
   have hput' : ∀ (k : Nat) (ok : Oper) (d : Tmp), ops[k]? = some ok → ok.dst = some d → (listed.setIfInBounds i true).getD k false = true → zl tm o.dst (vs i) d = vs k := by
    intro k ok d hok hd hk;by_cases e : i = k
    ·subst e;rw [ho] at hok;cases hok;simp [zl, hd]
    ·rw [getD_set_ne false e] at hk;have := hi.put k ok d hok hd hk;cases hdo : o.dst with
     | none => simpa [zl] using this
     | some d' =>
      have hne : d ≠ d' := fun x => e (h.one i k o ok d ho hok (by rw [hdo, x]) hd);simp only [zl, hne, if_false];exact this
   have hold' : ∀ t, (∀ (k : Nat) (ok : Oper), ops[k]? = some ok → ok.dst = some t → (listed.setIfInBounds i true).getD k false = false) → zl tm o.dst (vs i) t = st.tm t := by
    intro t ht
    have hne : o.dst ≠ some t := fun x => by
     have := ht i o ho x;rw [z1j hlts] at this;cases this
    have := hi.old t (fun k ok hok hd => by
     have := ht k ok hok hd;by_cases e : i = k
     ·subst e; exact hun
     ·rwa [getD_set_ne false e] at this)
    cases hdo : o.dst with
    | none => simpa [zl] using this
    | some d' =>
     have hx : t ≠ d' := fun x => hne (by rw [hdo, x]);simp only [zl, hx, if_false];exact this
   cases hE : isE i with
   | false =>
    have hds : DStep P W0 ops tm st.n (Hs p) (ns p) o (vs i) (Hs p) (ns p) := by
     have hc := h.step i o ho;have hw : z25 ops (tms i) o = z25 ops tm o := z1c (fun d hd => hrd d (.inr hd));refine ⟨hc.1, ?_⟩;cases hwt : z25 ops tm o with
     | false =>
      rcases hc.2 with ⟨_, x, _⟩ | ⟨x, _⟩
      ·exact .inl ⟨rfl, x, rfl, rfl⟩
      ·rw [hw, hwt] at x; cases x
     | true =>
      refine .inr ⟨rfl, .inl ⟨.none, ?_, rfl, rfl⟩⟩;rw [← z28 (fun t ht => hrd t (.inl ht))];refine h.stable i o p ho hE (by rw [hw, hwt]) hi.pin hi.ple (fun j hj hd => (hi.pE j hj).1 (hall j hd)) ?_;intro e oe he hep hoe hd;have := hi.down e oe hoe ((hi.pE e he).2 hep) i hd;rw [hun] at this;cases this
    refine hds.wp hs ho ?_;intro C' v' w' hs' hS';refine ih (listed.setIfInBounds i true) (zl tm o.dst (vs i)) p C' _ w' ⟨by simp [hi.size], hdown', hi.pin, hi.ple, ?_, hput', hold'⟩ hcount hs' (hS.trans hS') ((z1x _ _ _).trans hdf);intro e he;have hne : i ≠ e := fun x => by rw [x, he] at hE; cases hE
    rw [getD_set_ne false hne];exact hi.pE e he
   | true =>
    -- all that act ahead of it have come up, none behind it
    have hip : ¬ i < p := fun x => by
     have := (hi.pE i hE).2 x;rw [hun] at this;cases this
    have hbetween : ∀ j, p ≤ j → j < i → isE j = false := by
     intro j hpj hji;cases hj : isE j with
     | false => rfl
     | true =>
      exfalso
      -- the last that acts ahead of i has come up
      have hlast : ∃ k, isE k = true ∧ j ≤ k ∧ k < i ∧ ∀ m, k < m → m < i → isE m = false := by
       have : ∀ d k, isE k = true → j ≤ k → k < i → i - k ≤ d → ∃ k, isE k = true ∧ j ≤ k ∧ k < i ∧ ∀ m, k < m → m < i → isE m = false := by
        intro d
        induction d with
        | zero => intro k _ _ hk hd; omega
        | succ d ihd =>
         intro k hk1 hk2 hk3 hd;by_cases hm : ∃ m, k < m ∧ m < i ∧ isE m = true
         ·obtain ⟨m, m1, m2, m3⟩ := hm;exact ihd m m3 zom m2 zom
         ·refine ⟨k, hk1, hk2, hk3, fun m m1 m2 => ?_⟩;cases hm3 : isE m with
          | false => rfl
          | true => exact absurd ⟨m, m1, m2, hm3⟩ hm
       exact this (i - j) j hj (Nat.le_refl _) hji (Nat.le_refl _)
      obtain ⟨k, k1, k2, k3, k4⟩ := hlast;obtain ⟨dn, hd⟩ := h.chain k i o k1 hE ho k3 k4
      have reach : ∀ (n : Nat) (o : Oper) (i : Nat), (∀ j, dep o j → listed.getD j false = true) → zgC ops n o i → listed.getD i false = true := by
       intro n
       induction n with
       | zero => intro o i ha hd; exact ha i hd
       | succ n ihn =>
        intro o i ha hd;rcases hd with hd | ⟨m, om, hom, hdm, hd⟩
        ·exact ha i hd
        ·exact ihn om i (fun j hj => hi.down m om hom (ha m hdm) j hj) hd
      have := (hi.pE k k1).1 (reach dn o k hall hd);omega
    obtain ⟨m, hm⟩ : ∃ m, i = p + m := ⟨i - p, zom⟩;obtain ⟨e1, e2⟩ := z6a h m p (fun j h1 h2 => hbetween j h1 zom);rw [← hm] at e1 e2
    have hds : DStep P W0 ops tm st.n (Hs p) (ns p) o (vs i) (Hs (i + 1)) (ns (i + 1)) := by
     rw [← e1, ← e2];exact (h.step i o ho).congr (fun t ht => hrd t (.inl ht)) (fun d hd => hrd d (.inr hd))
    refine hds.wp hs ho ?_;intro C' v' w' hs' hS';refine ih (listed.setIfInBounds i true) (zl tm o.dst (vs i)) (i + 1) C' _ w' ⟨by simp [hi.size], hdown', .inr ⟨i, rfl, hE⟩, zom, ?_, hput', hold'⟩ hcount hs' (hS.trans hS') ((z1x _ _ _).trans hdf);intro e he;by_cases x : i = e
    ·subst x;rw [z1j hlts];simp
    ·rw [getD_set_ne false x];constructor
     ·intro hl; have := (hi.pE e he).1 hl; omega
     ·intro hl;by_cases hep : e < p
      ·exact (hi.pE e he).2 hep
      ·have := hbetween e zom zom;rw [he] at this;cases this
theorem Trip.drawn {id : Nat} {Q : AExit → ASt → Prop} (hm : P.follows .mixedOrders = true) (h : Drawn P W0 ops st tms vs Hs ns isE) (hq : Q .normal ⟨tms ops.size, st.n, Hs ops.size, ns ops.size⟩) : Trip P W0 (.region id ops true) st Q := by
 intro ρ C a w hr hs;have hs' : SRel W0 C st a w.drew := ⟨hs.tm, hs.sz, hs.rel.drew⟩;refine wpIn_region_any hm (zdt h (C0 := C) (df := a.defers) (fun C' a' w' hs' hS hdf => ⟨.normal, _, C', rfl, hq, hs', hS, rfl, .of_eq hdf⟩) ops.size (Array.replicate ops.size false) st.tm 0 C a _ ?_ ?_ ?_ ?_ rfl)
 ·have hfalse : ∀ i, (Array.replicate ops.size false).getD i false = false := fun i => by
   rw [Array.getD_eq_getD_getElem?, Array.getElem?_replicate]; split <;> rfl
  exact ⟨by simp, fun i o _ hl => (by rw [hfalse] at hl; cases hl), .inl rfl, zom, fun e _ => (by rw [hfalse]; simp), fun i o d _ _ hl => (by rw [hfalse] at hl; cases hl), fun t _ => rfl⟩
 ·have hfalse : ∀ i, (Array.replicate ops.size false).getD i false = false := fun i => by
   rw [Array.getD_eq_getD_getElem?, Array.getElem?_replicate]; split <;> rfl
  have : ((List.range ops.size).filter fun i => !(Array.replicate ops.size false).getD i false) = List.range ops.size := by
   rw [List.filter_eq_self];intro i _;rw [hfalse]; rfl
  rw [this, List.length_range]
 ·rw [h.h0, h.n0]; exact hs'
 ·rw [h.h0, h.n0]; exact Stp.refl _ _ _
end
end Go.Am
namespace Go.Am
open Go.RowKit
noncomputable section
structure CSt where
 tt : Tree Value
 n : Nat
 ht : Tree AObj
 nx : Nat
 asm : List (FuncId × List Value × Value)
def CSt.put (s : CSt) (dst : Option Tmp) (v : Value) (ht : Tree AObj) (nx : Nat) (asm : List (FuncId × List Value × Value)) : CSt :=
 match s with
 | ⟨tt, n, _, _, _⟩ => ⟨match dst with | some d => tt.set d v | none => tt, n, ht, nx, asm⟩
inductive Job where
 | code (c : Code)
 | loop (c : Code)
 | scope (b c : Code)
 | ops (ops : Array Oper) (l : List Oper)
 | dops (ops : Array Oper) (l : List Oper)
 | call (f : FuncId) (args : List Value)
structure DTr where
 s : CSt
 v : Value
 e : Bool
structure Out where
 x : AExit
 v : Value
 s : CSt
 tr : List DTr
def z63 (P : Program) (st : ASt) : ResultVar → Option Value
 | .tmp t => some (st.tm t)
 | .cell a t =>
  match st.tm a with
  | .pointer (some a) => z1N P st.H t a
  | _ => none
def z3T (P : Program) (st : ASt) : List ResultVar → Option (List Value)
 | [] => some []
 | r :: l =>
  match z63 P st r, z3T P st l with
  | some v, some vs => some (v :: vs)
  | _, _ => none
def z2K (P : Program) (st : ASt) (rs : Array ResultVar) : Option Value :=
 match z3T P st rs.toList with
 | some [v] => some v
 | some l => some (.tuple l.toArray)
 | none => none
def z26 {α : Type} (f : Nat → α → Bool) : Nat → List α → Bool
 | _, [] => true
 | i, x :: l => f i x && z26 f (i + 1) l
theorem z0n {α : Type} {f : Nat → α → Bool} : ∀ (l : List α) (k : Nat), z26 f k l = true → ∀ i x, l[i]? = some x → f (k + i) x = true := by
 intro l
 induction l with
 | nil => intro k _ i x h; simp at h
 | cons y l ih =>
  intro k h i x hx;simp only [z26, Bool.and_eq_true] at h;cases i with
  | zero => simp only [List.getElem?_cons_zero, Option.some.injEq] at hx; subst hx; exact h.1
  | succ i =>
   have := ih (k + 1) h.2 i x (by simpa using hx)
   rwa [show k + 1 + i = k + (i + 1) by omega] at this
def zaI (o : Oper) (j : Nat) : Bool := o.after.toList.any fun e => Region.binds .any e && e.on == j
theorem z1G {o : Oper} {j : Nat} : zaI o j = true ↔ dep o j := by
 unfold zaI dep;rw [List.any_eq_true];constructor
 ·rintro ⟨e, he, h⟩;simp only [Bool.and_eq_true, beq_iff_eq] at h;exact ⟨e, by simpa using he, h.1, h.2⟩
 ·rintro ⟨e, he, h1, h2⟩;exact ⟨e, by simpa using he, by simp [h1, h2]⟩
def z8l (ops : Array Oper) : Bool :=
 z26 (fun i o => o.after.toList.all fun e => !Region.binds .any e || decide (e.on < i)) 0 ops.toList &&
 z26 (fun i oi => z26 (fun j oj => i == j || (match oi.dst, oj.dst with | some d, some d' => d != d' | _, _ => true)) 0 ops.toList) 0 ops.toList &&
 z26 (fun i oi => z26 (fun j oj => i == j || (match oj.dst with
  | some t => if (z4d oi).contains t || z9u ops oi == some t then (if j < i then zaI oi j else zaI oj i) else true
  | none => true)) 0 ops.toList) 0 ops.toList
end
end Go.Am
namespace Go.Am
open Go.RowKit
noncomputable section
def ziE (P : Program) (f : FuncId) : Prop := ∀ (x : Value) (w : World), (callFunc f #[x]).run P w = .ok (.value x) w
section
variable {P : Program} {W0 : World} {st : ASt}
def zhG (P : Program) (f : FuncId) : Prop := ∀ (s : ByteArray) (c : Int) (w : World), (callFunc f #[.string s, .int .u8 c]).run P w = .ok (.value (.int .i64 (Lib.indexByte s.data.toList c.toNat.toUInt8))) w
def z8o (tmps : Array Value) (r : ResultVar) : Sem Value :=
 match r with
 | .tmp t => pure (tmps.getD t undef)
 | .cell a t => do loadVar t (← asAddr (tmps.getD a undef))
theorem zbE (fn : Func) (tmps : Array Value) : results fn tmps = (do
  let vs ← fn.results.mapM (z8o tmps)
  pure (if h : vs.size = 1 then vs[0] else .tuple vs)) := rfl
theorem z7X {C : Corr} {a : Act} {w : World} (hs : SRel W0 C st a w) {r : ResultVar} {v : Value} (h : z63 P st r = some v) :
  ∃ v', (z8o a.tmps r).run P w = .ok v' w ∧ VR st.nx st.H C v v' := by
 cases r with
 | tmp t =>
  simp only [z63, Option.some.injEq] at h;subst h;exact ⟨_, rfl, hs.tm t⟩
 | cell x t =>
  simp only [z63] at h;split at h
  ·rename_i p hp;have := hs.tm x;rw [hp] at this;unfold z8o;simp only;generalize a.tmps.getD x undef = y at this ⊢;cases this with
   | ptr _ b k1 k2 =>
   obtain rfl := k2 (z6c h);obtain ⟨v', e, hv⟩ := z5q (P := P) hs.rel h;exact ⟨v', by simpa [asAddr] using e, hv⟩
  ·cases h
theorem z4c {C : Corr} {a : Act} {w : World} (hs : SRel W0 C st a w) : ∀ (l : List ResultVar) (vs : List Value), z3T P st l = some vs → ∃ vs', (l.mapM (z8o a.tmps)).run P w = .ok vs' w ∧ VRs st.nx st.H C vs vs' := by
 intro l
 induction l with
 | nil => intro vs h; simp only [z3T, Option.some.injEq] at h; subst h; exact ⟨[], by simp, VRs.nil⟩
 | cons r l ih =>
  intro vs h;simp only [z3T] at h;split at h
  ·rename_i u us hu hus;simp only [Option.some.injEq] at h;subst h;obtain ⟨u', e1, e2⟩ := z7X hs hu;obtain ⟨us', f1, f2⟩ := ih us hus;refine ⟨u' :: us', ?_, VRs.cons e2 f2⟩;simp only [List.mapM_cons, Sem.run_bind, e1, Result.andThen_ok, f1, Sem.run_pure]
  ·cases h
theorem z6F {C : Corr} {a : Act} {w : World} (hs : SRel W0 C st a w) {fn : Func} {v : Value} (h : z2K P st fn.results = some v) :
  ∃ v', (results fn a.tmps).run P w = .ok v' w ∧ VR st.nx st.H C v v' := by
 unfold z2K at h
 have hres : ∀ vs', (fn.results.toList.mapM (z8o a.tmps)).run P w = .ok vs' w →
   (results fn a.tmps).run P w = .ok (if h : vs'.toArray.size = 1 then vs'.toArray[0] else .tuple vs'.toArray) w := by
  intro vs' hvs;rw [zbE, Array.mapM_eq_mapM_toList];simp only [Sem.run_bind, Sem.run_map, hvs, Result.andThen_ok, Sem.run_pure]
 split at h
 ·rename_i u hu;simp only [Option.some.injEq] at h;subst h;obtain ⟨vs', e1, e2⟩ := z4c hs _ _ hu;obtain ⟨u', r, rfl, hx, hr⟩ := e2.uncons;have : r = [] := by rw [← List.length_eq_zero_iff, ← hr.1]; rfl
  subst this;exact ⟨u', by rw [hres _ e1]; rfl, hx⟩
 ·rename_i l hne hl;simp only [Option.some.injEq] at h;subst h;obtain ⟨vs', e1, e2⟩ := z4c hs _ _ hl;refine ⟨.tuple vs'.toArray, ?_, e2.tuple⟩;rw [hres _ e1, dif_neg];intro hsz;have : l.length = 1 := by rw [e2.1]; simpa using hsz
  obtain ⟨u, rfl⟩ := List.length_eq_one_iff.1 this;exact hne u rfl
 ·cases h
theorem z9W {fn : Func} {tmps : Array Value} {R : Ending → World → Prop} {nx : Nat} {H : Heap} {p0 : Nat → Option Obj} : ∀ (ds : List Nat) (C : Corr) (w : World), ds.Nodup → (∀ D ∈ ds, p0 D = none ∧ C.pin D = some (.deferred (some []))) →
  (∀ k o, p0 k = some o → C.pin k = some o) → Rel W0 C nx H w → (∀ w', Rel W0 (C.re p0) nx H w' → LeavesIn Fence.wide 0 P fn tmps R [] .returning w') → LeavesInM Fence.wide 0 P fn tmps R (ds.map zic) .returning w := by
 intro ds
 induction ds with
 | nil => intro C w _ _ hp hR hfin; exact hfin w (hR.pinLess hp)
 | cons D ds ih =>
  intro C w hnd hD hp hR hfin;obtain ⟨h1, h2⟩ := hD D (List.mem_cons_self ..);obtain ⟨h3, h4⟩ := hR.pin D _ h2;have hlt : D < w.heap.size := (Array.getElem?_eq_some_iff.1 h4).1;have hne : ∀ k, k ≠ D → (w.heap.setIfInBounds D (.deferred none))[k]? = w.heap[k]? := fun k hk => Array.getElem?_setIfInBounds_ne (Ne.symm hk);refine ⟨by simp, .inl ⟨D, { w with heap := w.heap.setIfInBounds D (.deferred none) }, rfl, ?_, ?_⟩⟩
  ·simp [Instr.takeDeferred, Sem.run_bind, getObj, setObj, Sem.run, h4, Result.andThen]
  ·have hR' : Rel W0 (C.re fun k => if k = D then none else C.pin k) nx H { w with heap := w.heap.setIfInBounds D (.deferred none) } := by
    refine hR.unpin h2 (fun id o ho e => ?_) (hR.below.trans ⟨rfl, rfl, rfl, by simp, fun k hk => hne k zom, Nat.le_refl _⟩) hne;have hob := hR.obj id o ho;cases o with
    | cells c e2 t ro q => obtain ⟨_, _, _, hh, _⟩ := hob; rw [e, h4] at hh; cases hh
    | map es bs ck => obtain ⟨_, hh, _⟩ := hob; rw [e, h4] at hh; cases hh
    | miter m a b c => obtain ⟨_, hh, _⟩ := hob; rw [e, h4] at hh; cases hh
    | loop a b c d e2 f g => obtain ⟨_, hh, _⟩ := hob; rw [e, h4] at hh; cases hh
    | siter s p => have hh := hob.1; rw [e, h4] at hh; cases hh
   rw [List.nodup_cons] at hnd;refine ih _ _ hnd.2 (fun D' hD' => ?_) (fun k o hk => ?_) hR' hfin
   ·have hx := hD D' (List.mem_cons_of_mem _ hD');have : D' ≠ D := fun e => hnd.1 (e ▸ hD');exact ⟨hx.1, by simp only [Corr.re, this, if_false]; exact hx.2⟩
   ·have : k ≠ D := fun e => by rw [e, h1] at hk; cases hk
    simp only [Corr.re, this, if_false];exact hp k o hk
theorem z6N {f : FuncId} {fn : Func} {c : Code} {args : List Value} {nx : Nat} {H : Heap} {R : Value → Nat → Heap → Prop} (hf : P.funcs[f]? = some fn) (hb : fn.body = some c) {tm : Nat → Value} (htm : ∀ t, tm t = (args[t]?).getD undef)
  (h : Trip P W0 c ⟨tm, args.length + (fn.ntmps - args.length), H, nx⟩ fun x s => (x = .normal ∨ x = .ret) ∧ ∃ v, z2K P s fn.results = some v ∧ R v s.nx s.H) : ACalls P W0 f args nx H R := by
 intro C w args' hR ha;refine callsIn_wide.1 (callsIn_of_wp_marks (n := 0) hf hb trivial ?_ rfl)
 have hs : SRel W0 C ⟨tm, args.length + (fn.ntmps - args.length), H, nx⟩ { tmps := args'.toArray ++ Array.replicate (fn.ntmps - args'.toArray.size) undef, defers := [] } w := by
  refine ⟨fun t => ?_, by simp [ha.1], hR⟩;show VR nx H C (tm t) _;rw [htm, Array.getD_eq_getD_getElem?];by_cases h1 : t < args.length
  ·have h2 : t < args'.length := by rw [← ha.1]; exact h1
   rw [Array.getElem?_append_left (by simpa using h2)];simp only [List.getElem?_toArray, List.getElem?_eq_getElem h1, List.getElem?_eq_getElem h2, Option.getD_some];exact ha.2 t h1 h2
  ·rw [List.getElem?_eq_none zom, Array.getElem?_append_right (by simp; rw [← ha.1]; omega)];simp only [Option.getD_none];rw [Array.getElem?_replicate];split <;> exact z3m
 have hw : c.wpIn Fence.wide 0 P _ _ w := h none C _ w (fun c hc => by cases hc) hs;refine wpIn_mono hw ?_;rintro e a' w' ⟨x, s, C', rfl, ⟨hx, v, hv, hr⟩, hs', hS, hn, ds, hds, hnd, hD⟩;have hS' : Stp nx H C s.nx s.H (C'.re C.pin) := ⟨⟨hS.le, hS.keep⟩, fun _ _ x => x, hS.fix⟩
 have hpost : LeavesInM Fence.wide 0 P fn a'.tmps (fun e w' => ∃ v v' C' nx' H', e = .returned v' ∧ R v nx' H' ∧ Rel W0 C' nx' H' w' ∧ VR nx' H' C' v v' ∧ Stp nx H C nx' H' C') a'.defers .returning w' := by
  have hds' : a'.defers = ds.map zic := by rw [hds]; simp
  rw [hds'];refine z9W ds C' w' hnd hD hS.pin hs'.rel fun w2 hR2 => ?_;have hs2 : SRel W0 (C'.re C.pin) s a' w2 := ⟨fun t => (hs'.tm t).mono0 (Stp0.re _ _ _ _), hs'.sz, hR2⟩;obtain ⟨v', e1, e2⟩ := z6F hs2 hv;exact ⟨v', e1, v, v', _, s.nx, s.H, rfl, hr, hR2, e2, hS'⟩
 rcases hx with rfl | rfl
 ·exact hpost
 ·exact hpost
end
section
variable {P : Program} {W0 : World} {ops : Array Oper}
theorem z4j (h : z8l ops = true) :
  (∀ (i : Nat) (o : Oper), ops[i]? = some o → ∀ j, dep o j → j < i) ∧
  (∀ (i j : Nat) (oi oj : Oper) (d : Tmp), ops[i]? = some oi → ops[j]? = some oj → oi.dst = some d → oj.dst = some d → i = j) ∧
  (∀ (i j : Nat) (oi oj : Oper) (t : Tmp), ops[i]? = some oi → ops[j]? = some oj → (t ∈ z4d oi ∨ z9u ops oi = some t) → oj.dst = some t → (j < i → dep oi j) ∧ (i < j → dep oj i)) := by
 unfold z8l at h;simp only [Bool.and_eq_true] at h;obtain ⟨⟨h1, h2⟩, h3⟩ := h;have toL : ∀ (i : Nat) (o : Oper), ops[i]? = some o → ops.toList[i]? = some o := fun i o ho => by simpa using ho
 refine ⟨?_, ?_, ?_⟩
 ·rintro i o ho j ⟨e, he, hb, rfl⟩;have := z0n _ 0 h1 i o (toL i o ho);rw [List.all_eq_true] at this;have := this e (by simpa using he);simp only [hb, Bool.not_true, Bool.false_or, decide_eq_true_eq] at this;omega
 ·intro i j oi oj d hi hj hdi hdj;have := z0n _ 0 h2 i oi (toL i oi hi);have := z0n _ 0 this j oj (toL j oj hj);simp only [hdi, hdj, Bool.or_eq_true, beq_iff_eq, bne_self_eq_false, Bool.false_eq_true, or_false] at this;omega
 ·intro i j oi oj t hi hj ht hd;have := z0n _ 0 h3 i oi (toL i oi hi);have := z0n _ 0 this j oj (toL j oj hj);simp only [hd, Bool.or_eq_true, beq_iff_eq] at this
  have hc : ((z4d oi).contains t = true ∨ z9u ops oi = some t) := by
   rcases ht with ht | ht
   ·exact .inl (List.contains_iff_mem.2 ht)
   ·exact .inr ht
  rw [if_pos hc] at this;refine ⟨fun hlt => ?_, fun hlt => ?_⟩
  ·rcases this with e | e
   ·omega
   ·rw [if_pos zom] at e;rw [← z1G]; simpa using e
  ·rcases this with e | e
   ·omega
   ·rw [if_neg zom] at e;rw [← z1G]; simpa using e
end
section
variable {P : Program} {W0 : World} {xs : List Nat}
def zaV (P : Program) (W0 : World) (x : FuncId × List Value × Value) : Prop :=
 z0O P x.1 ∧ ∀ nx H, ACalls P W0 x.1 x.2.1 nx H fun v nx' H' => v = x.2.2 ∧ nx' = nx ∧ H' = H
variable {ov : FuncId → List Value → Option Value}
end
end
end Go.Am
namespace Go.Am
open Go.RowKit
noncomputable section
def zhe : Heap := fun _ => none
section
variable {P : Program} {W0 : World}
abbrev z6R := List (Nat × List Value)
noncomputable def z2u (T : z6R) : Tree AObj := T.foldr (fun x t => t.set x.1 (.cells x.2 1 none true none)) .leaf
def Tabs (T : z6R) (w : World) : Prop := ∀ x ∈ T, x.1 < NG ∧ x.2.all zL = true ∧ ∃ Cc el fr, w.heap[x.1]? = some (.cells Cc el fr) ∧ x.2.length ≤ Cc.size ∧ ∀ i, i < x.2.length → Cc[i]? = x.2[i]?
theorem Tabs.nil {w : World} : Tabs [] w := fun _ h => by cases h
theorem z1Y {T : z6R} {g : Nat} {o : AObj} (h : (z2u T).get g = some o) : ∃ c, (g, c) ∈ T ∧ o = .cells c 1 none true none := by
 induction T with
 | nil => simp [z2u, z81] at h
 | cons x T ih =>
  simp only [z2u, List.foldr_cons, z9k] at h;split at h
  ·rename_i e;cases h;subst e;exact ⟨x.2, List.mem_cons_self .., rfl⟩
  ·obtain ⟨c, h1, h2⟩ := ih h;exact ⟨c, List.mem_cons_of_mem _ h1, h2⟩
def z3p (w : World) : Corr := ⟨fun i => (i, 0), fun i => match w.heap[i]? with | some (.cells Cc _ _) => Cc.size | _ => 0, fun _ => none⟩
theorem z7I {T : z6R} {w : World} (hT : Tabs T w) (hb : BelD W0.heap.size W0 w) : Rel W0 (z3p w) NG (z2u T).get w := by
 refine ⟨hb, fun g o h => ?_, fun g o h => ?_, fun g o h hro => ?_, fun i j oi oj hi hj _ hro => ?_, fun _ _ h => (by cases h), Nat.le_refl _, fun g o _ h => ?_, fun _ _ _ => rfl⟩
 ·obtain ⟨c, hm, rfl⟩ := z1Y h;exact ⟨(hT _ hm).1, fun t ht => by cases ht⟩
 ·obtain ⟨c, hm, rfl⟩ := z1Y h;obtain ⟨h1, h2, Cc, el, fr, h3, h4, h5⟩ := hT _ hm;refine ⟨Cc, el, fr, h3, by simp [z3p, h3], by simpa [z3p] using h4, fun i hi hi' => ?_, fun x => (by cases x), fun t x => (by cases x), fun x => (by cases x), fun x => (by cases x)⟩;have hq := h5 i hi;simp only [z3p, Nat.zero_add] at hi' ⊢;rw [Array.getElem?_eq_getElem hi', List.getElem?_eq_getElem hi, Option.some.injEq] at hq;rw [hq];exact z1I (List.all_eq_true.1 h2 _ (List.getElem_mem hi))
 ·obtain ⟨c, _, rfl⟩ := z1Y h; cases hro
 ·obtain ⟨c, _, rfl⟩ := z1Y hi; cases hro
 ·obtain ⟨c, _, rfl⟩ := z1Y h; exact ⟨rfl, rfl⟩
theorem z6B {f : FuncId} {args : List Value} {r : Value} (hf : z0O P f) (ha : args.all zL = true) (hr : zL r = true)
  (h : ∀ w, BelD W0.heap.size W0 w → Calls P f args.toArray w fun e w' => e = .returned r ∧ BelD w.heap.size w w') : zaV P W0 (f, args, r) := by
 refine ⟨hf, fun nx H C w args' hR hargs => ?_⟩
 have hargs' : args' = args := by
  apply List.ext_getElem hargs.1.symm;intro i p q;have hv := hargs.2 i q p;have hp := List.all_eq_true.1 ha args[i] (List.getElem_mem q);generalize args[i] = x at hv hp;generalize args'[i] = y at hv;cases hv <;> first | rfl | (simp [zL] at hp)
 subst hargs';refine (h w hR.below).mono ?_;rintro e w' ⟨rfl, hb⟩;refine ⟨r, r, C, nx, H, rfl, ⟨rfl, rfl, rfl⟩, ?_, z1I hr, Stp.refl _ _ _⟩;exact hR.world (hR.below.trans (hb.mono hR.below.size)) (fun k hk => hb.block k hk)
theorem z3u {f : FuncId} {args : List Value} {r : Value} (hf : z0O P f) (ha : args.all zL = true) (hr : zL r = true)
  (h : ∀ w, Calls P f args.toArray w fun e w' => e = .returned r ∧ BelD w.heap.size w w') : zaV P W0 (f, args, r) := z6B hf ha hr fun w _ => h w
variable {xs : List Nat} {ov : FuncId → List Value → Option Value}
structure Fit (P : Program) (xs : List Nat) : Prop where
 names : ∀ (f : FuncId) (fn : Func), P.funcs[f]? = some fn → (fn.name == "runtime.NumGoroutine") = false
 exts : ∀ f, f < XB → xs.contains f = true → ziE P f
 idxs : ∀ f, f < XB → xs.contains (XB + f) = true → zhG P f
 mixed : P.follows .mixedOrders = true
 small : P.funcs.size ≤ YB
 extsLt : ∀ f, xs.contains f = true → f < YB
end
end
end Go.Am
namespace Go.Am
open Go.RowKit
section
variable {P : Program} {W0 : World}
def OpsL (P : Program) (W0 : World) (ops : Array Oper) : List Oper → ASt → (ASt → Prop) → Prop
 | [], st, Q => Q st
 | o :: l, st, Q => z16 st o = true ∧ ((z15 ops st o = false ∧ OpsL P W0 ops l (st.put o.dst undef .none) Q) ∨ (z15 ops st o = true ∧
   ((∃ v e, aop P st.H st.nx st.ev o = some (v, e) ∧ OpsL P W0 ops l (st.put o.dst v e) Q) ∨
    (∃ f args R, z0R st o = some (f, args) ∧ z0O P f ∧ ACalls P W0 f args st.nx st.H R ∧ ∀ v nx' H', R v nx' H' → OpsL P W0 ops l ⟨zl st.tm o.dst v, st.n, H', nx'⟩ Q))))
theorem zbj {ops : Array Oper} {Q : ASt → Prop} : ∀ (l : List Oper) (k : Nat) (st : ASt), ops.toList.drop k = l → OpsL P W0 ops l st Q → Ops P W0 ops (List.range' k l.length) st Q := by
 intro l
 induction l with
 | nil => intro k st _ h; exact Ops.nil h
 | cons o l ih =>
  intro k st hk h
  have ho : ops[k]? = some o := by
   have : (ops.toList.drop k)[0]? = some o := by rw [hk]; rfl
   rw [List.getElem?_drop] at this;simpa using this
  have hk' : ops.toList.drop (k + 1) = l := by
   rw [← List.drop_drop, hk]; rfl
  obtain ⟨hd, h⟩ := h;rw [List.length_cons, List.range'_succ];rcases h with ⟨hw, h⟩ | ⟨hw, ⟨v, e, hop, h⟩ | ⟨f, args, R, hc, hf, hcall, h⟩⟩
  ·exact Ops.skip ho hw hd (ih _ _ hk' h)
  ·exact Ops.step ho hw hd hop (ih _ _ hk' h)
  ·exact Ops.call ho hw hd hc hf hcall fun v nx' H' hr => ih _ _ hk' (h v nx' H' hr)
theorem zk {id : Nat} {ops : Array Oper} {st : ASt} {Q : AExit → ASt → Prop} (h : OpsL P W0 ops ops.toList st (Q .normal)) : Trip P W0 (.region id ops false) st Q := by
 refine Trip.region ?_;have := zbj ops.toList 0 st rfl h
 rwa [Array.length_toList, ← List.range_eq_range'] at this
theorem zdI {ops : Array Oper} {o : Oper} {l : List Oper} {tm : Nat → Value} {n nx : Nat} {H : Heap} {v : Value} {Q : ASt → Prop} (hd : z16 ⟨tm, n, H, nx⟩ o = true) (hw : z15 ops ⟨tm, n, H, nx⟩ o = true)
  (hop : aop P H nx (ASt.ev ⟨tm, n, H, nx⟩) o = some (v, .none)) (h : OpsL P W0 ops l ⟨zl tm o.dst v, n, H, nx⟩ Q) : OpsL P W0 ops (o :: l) ⟨tm, n, H, nx⟩ Q :=
 ⟨hd, .inr ⟨hw, .inl ⟨v, .none, hop, h⟩⟩⟩
theorem zbk {ops : Array Oper} {o : Oper} {l : List Oper} {tm : Nat → Value} {n nx : Nat} {H : Heap} {v : Value} {e : Eff} {Q : ASt → Prop} (hd : z16 ⟨tm, n, H, nx⟩ o = true) (hw : z15 ops ⟨tm, n, H, nx⟩ o = true)
  (hop : aop P H nx (ASt.ev ⟨tm, n, H, nx⟩) o = some (v, e)) (h : OpsL P W0 ops l ⟨zl tm o.dst v, n, e.H nx H, e.nx nx⟩ Q) : OpsL P W0 ops (o :: l) ⟨tm, n, H, nx⟩ Q :=
 ⟨hd, .inr ⟨hw, .inl ⟨v, e, hop, h⟩⟩⟩
theorem OpsL.call {ops : Array Oper} {o : Oper} {l : List Oper} {tm : Nat → Value} {n nx : Nat} {H : Heap} {Q : ASt → Prop} {f : FuncId} {args : List Value} (R : Value → Nat → Heap → Prop) (hd : z16 ⟨tm, n, H, nx⟩ o = true) (hw : z15 ops ⟨tm, n, H, nx⟩ o = true)
  (hc : z0R ⟨tm, n, H, nx⟩ o = some (f, args)) (hf : z0O P f) (hcall : ACalls P W0 f args nx H R) (h : ∀ v nx' H', R v nx' H' → OpsL P W0 ops l ⟨zl tm o.dst v, n, H', nx'⟩ Q) : OpsL P W0 ops (o :: l) ⟨tm, n, H, nx⟩ Q :=
 ⟨hd, .inr ⟨hw, .inr ⟨f, args, R, hc, hf, hcall, h⟩⟩⟩
variable {ev : Operand → Option Value} {H : Heap} {nx : Nat} {dst : Option Tmp} {type : TypeId} {pos : String} {after : Array Edge} {guard : Option (Nat × Bool)}
theorem zeL {x : Operand} {v : Value} (h : ev x = some v) : aop P H nx ev ⟨dst, .move x, type, pos, after, guard⟩ = some (v, .none) := by simp [aop, h]
theorem zc7 {x : Operand} {v : Value} (h : ev x = some v) : aop P H nx ev ⟨dst, .assign x, type, pos, after, guard⟩ = some (v, .none) := by simp [aop, h]
theorem zgh {t u : TypeId} {x y : Operand} {a b : Int} (hx : ev x = some (.int .i64 a)) (hy : ev y = some (.int .i64 b)) (h : -9223372036854775808 ≤ a + b ∧ a + b ≤ 9223372036854775807) :
  aop P H nx ev ⟨dst, .binOp .add t x y u, type, pos, after, guard⟩ = some (.int .i64 (a + b), .none) := by simp [aop, hx, hy, z6x, z0U, IntWalk.i64_in _ h]
theorem zgd {t u : TypeId} {x y : Operand} {a b : Int} (hx : ev x = some (.int .i64 a)) (hy : ev y = some (.int .i64 b)) (h : -9223372036854775808 ≤ a - b ∧ a - b ≤ 9223372036854775807) :
  aop P H nx ev ⟨dst, .binOp .sub t x y u, type, pos, after, guard⟩ = some (.int .i64 (a - b), .none) := by simp [aop, hx, hy, z6x, z0U, IntWalk.i64_in _ h]
theorem z7m {t u : TypeId} {x y : Operand} {a b : Int} (hx : ev x = some (.int .i64 a)) (hy : ev y = some (.int .i64 b)) (h : -9223372036854775808 ≤ a * b ∧ a * b ≤ 9223372036854775807) :
  aop P H nx ev ⟨dst, .binOp .mul t x y u, type, pos, after, guard⟩ = some (.int .i64 (a * b), .none) := by simp [aop, hx, hy, z6x, z0U, IntWalk.i64_in _ h]
theorem z9L {t u : TypeId} {k : IntKind} {x y : Operand} {a b : Int} (hx : ev x = some (.int k a)) (hy : ev y = some (.int k b)) :
  aop P H nx ev ⟨dst, .binOp .lss t x y u, type, pos, after, guard⟩ = some (.bool (decide (a < b)), .none) := by simp [aop, hx, hy, z6x, z0U]
theorem zgf {t u : TypeId} {k : IntKind} {x y : Operand} {a b : Int} (hx : ev x = some (.int k a)) (hy : ev y = some (.int k b)) :
  aop P H nx ev ⟨dst, .binOp .leq t x y u, type, pos, after, guard⟩ = some (.bool (decide (a ≤ b)), .none) := by simp [aop, hx, hy, z6x, z0U]
theorem z9M {t u : TypeId} {k : IntKind} {x y : Operand} {a b : Int} (hx : ev x = some (.int k a)) (hy : ev y = some (.int k b)) :
  aop P H nx ev ⟨dst, .binOp .gtr t x y u, type, pos, after, guard⟩ = some (.bool (decide (b < a)), .none) := by simp [aop, hx, hy, z6x, z0U]
theorem zcY {t u : TypeId} {k : IntKind} {x y : Operand} {a b : Int} (hx : ev x = some (.int k a)) (hy : ev y = some (.int k b)) :
  aop P H nx ev ⟨dst, .binOp .geq t x y u, type, pos, after, guard⟩ = some (.bool (decide (b ≤ a)), .none) := by simp [aop, hx, hy, z6x, z0U]
theorem z9N {t u : TypeId} {k : IntKind} {x y : Operand} {a b : Int} (hx : ev x = some (.int k a)) (hy : ev y = some (.int k b)) :
  aop P H nx ev ⟨dst, .binOp .eql t x y u, type, pos, after, guard⟩ = some (.bool (decide (a = b)), .none) := by
 have : (a == b) = decide (a = b) := by by_cases h : a = b <;> simp [h]
 simp [aop, hx, hy, z6x, z0U, this]
theorem z9K {t u : TypeId} {k : IntKind} {x y : Operand} {a b : Int} (hx : ev x = some (.int k a)) (hy : ev y = some (.int k b)) :
  aop P H nx ev ⟨dst, .binOp .neq t x y u, type, pos, after, guard⟩ = some (.bool (decide (a ≠ b)), .none) := by
 have : (a != b) = decide (a ≠ b) := by by_cases h : a = b <;> simp [h]
 simp [aop, hx, hy, z6x, z0U, this]
theorem zge {t : TypeId} {x : Operand} {b : Bool} (hx : ev x = some (.bool b)) : aop P H nx ev ⟨dst, .unOp .not t x, type, pos, after, guard⟩ = some (.bool (!b), .none) := by simp [aop, hx, aUn]
theorem zgg {t e : TypeId} {x : Operand} {a : Option Addr} {n c : Nat} (hx : ev x = some (.slice a n c)) (hu : P.underlying t = some (.slice e)) :
  aop P H nx ev ⟨dst, .call ⟨.builtin .len, #[x], #[t]⟩, type, pos, after, guard⟩ = some (.int .i64 n, .none) := by simp [aop, hx, z0B, z0F, zgt, hu]
theorem z7T {t e : TypeId} {x i : Operand} {a : Addr} {n c sz : Nat} {k : IntKind} {j : Int} (hx : ev x = some (.slice (some a) n c)) (hi : ev i = some (.int k j)) (hu : P.underlying t = some (.slice e)) (hs : z1w P e = some sz) (h0 : 0 ≤ j) (h1 : j < n) :
  aop P H nx ev ⟨dst, .indexAddr t x i, type, pos, after, guard⟩ = some (.pointer (some ⟨a.block, a.off + j.toNat * sz, a.spot⟩), .none) := by simp [aop, hx, hi, z3g, hu, hs, h0, h1]
def zh (H : Heap) (a : Addr) (v : Value) : Prop := z0A H a 1 = some [v]
theorem zp {t : TypeId} {x : Operand} {a : Addr} {d : TypeDesc} {v : Value} (hx : ev x = some (.pointer (some a))) (hu : P.underlying t = some d) (hd : z2t d = false) (hc : zh H a v) :
  aop P H nx ev ⟨dst, .load t x, type, pos, after, guard⟩ = some (v, .none) := by
 unfold zh at hc;simp [aop, hx, zbx, z1N, hu, hd, hc]
theorem zdz {t : TypeId} {x : Operand} {f : Nat} {cs : List Value} {fs : Array Field} {fd : Field} {d : TypeDesc} {v : Value} (hx : ev x = some (.agg cs.toArray)) (hu : P.underlying t = some (.struct fs)) (hf : fs[f]? = some fd) (hud : P.underlying fd.type = some d) (hd : z2t d = false) (hv : cs[fd.offset]? = some v) :
  aop P H nx ev ⟨dst, .field t x f, type, pos, after, guard⟩ = some (v, .none) := by
 simp [aop, hx, zaR, hu, hf, z0C, hud, hd, hv]
def IntsAt (H : Heap) (v : Value) (xs : List Int) : Prop :=
 (∃ c, v = .slice none 0 c ∧ xs = []) ∨ ∃ a c, v = .slice (some a) xs.length c ∧ ∀ (i : Nat) (h : i < xs.length), zh H ⟨a.block, a.off + i, a.spot⟩ (.int .i64 xs[i])
theorem IntsAt.slice {v : Value} {xs : List Int} (h : IntsAt H v xs) : ∃ a c, v = .slice a xs.length c := by
 rcases h with ⟨c, rfl, rfl⟩ | ⟨a, c, rfl, _⟩
 ·exact ⟨none, c, rfl⟩
 ·exact ⟨some a, c, rfl⟩
theorem IntsAt.get {a : Option Addr} {c n : Nat} {xs : List Int} (h : IntsAt H (.slice a n c) xs) {i : Nat} (hi : i < xs.length) : ∃ p, a = some p ∧ zh H ⟨p.block, p.off + i, p.spot⟩ (.int .i64 xs[i]) := by
 rcases h with ⟨c, h, rfl⟩ | ⟨p, c, h, hv⟩
 ·simp at hi
 ·cases h;exact ⟨p, rfl, hv i hi⟩
end
section
variable {P : Program} {W0 : World}
theorem zm {f : FuncId} {fn : Func} {c : Code} {args : List Value} {nx : Nat} {H : Heap} {R : Value → Nat → Heap → Prop} (hf : P.funcs[f]? = some fn) (hb : fn.body = some c)
  (h : ∀ (tm : Nat → Value) (n : Nat), n = args.length + (fn.ntmps - args.length) → (∀ t, tm t = (args[t]?).getD undef) → Trip P W0 c ⟨tm, n, H, nx⟩ fun x s => (x = .normal ∨ x = .ret) ∧ ∃ v, z2K P s fn.results = some v ∧ R v s.nx s.H) : ACalls P W0 f args nx H R :=
 z6N hf hb (fun _ => rfl) (h _ _ rfl (fun _ => rfl))
theorem OpsL.nil {ops : Array Oper} {st : ASt} {Q : ASt → Prop} (h : Q st) : OpsL P W0 ops [] st Q := h
theorem zeV {st : ASt} {Q : AExit → ASt → Prop} {c : Operand} {x y : Code} {p : Prop} [Decidable p] (hc : st.ev c = some (.bool (decide p))) (h1 : p → Trip P W0 x st Q) (h2 : ¬p → Trip P W0 y st Q) : Trip P W0 (.cond c x y) st Q := by
 refine Trip.cond hc ?_;by_cases h : p
 ·simpa [h] using h1 h
 ·simpa [h] using h2 h
theorem z8Q {st : ASt} {Q : AExit → ASt → Prop} {c : Operand} {x y : Code} {b : Bool} (hc : st.ev c = some (.bool b)) (h1 : b = true → Trip P W0 x st Q) (h2 : b = false → Trip P W0 y st Q) : Trip P W0 (.cond c x y) st Q := by
 refine Trip.cond hc ?_;cases b
 ·simpa using h2 rfl
 ·simpa using h1 rfl
theorem zu {c : Code} {st : ASt} {Q : AExit → ASt → Prop} {α : Type} (I : α → ASt → Prop) (μ : α → Nat) (a0 : α) (h0 : I a0 st) (h : ∀ a s, I a s → Trip P W0 c s fun e s' => match e with | .normal => ∃ a', I a' s' ∧ μ a' < μ a | e => Q e s') : Trip P W0 (.loop c) st Q := by
 have key : ∀ n a s, I a s → μ a < n → Rnd P W0 c Q n s := by
  intro n
  induction n with
  | zero => intro a s _ hm; omega
  | succ n ih =>
   intro a s hi hm;refine Trip.mono (h a s hi) ?_;intro e s' hq;cases e with
   | normal => obtain ⟨a', hq1, hq2⟩ := hq; exact ih a' s' hq1 zom
   | exit id => exact hq
   | goto l => exact hq
   | ret => exact hq
 exact Trip.loop (μ a0 + 1) (key _ a0 st h0 zom)
variable {Q : AExit → ASt → Prop} {st : ASt}
theorem zY {id : Nat} (h : Q .normal st) : zI id Q (.exit id) st := by simpa [zI] using h
theorem zQ {id : Nat} (h : Q .normal st) : zI id Q .normal st := h
theorem z0W {id : Nat} (h : Q .ret st) : zI id Q .ret st := h
variable {ops : Array Oper} {dst : Option Tmp} {op : Op} {type : TypeId} {pos : String} {after : Array Edge} {guard : Option (Nat × Bool)} {l : List Oper} {tm : Nat → Value} {n nx : Nat} {H : Heap} {v : Value} {QQ : ASt → Prop}
theorem z1R {d : Tmp} (hd : d < n) (hop : aop P H nx (ASt.ev ⟨tm, n, H, nx⟩) ⟨some d, op, type, pos, after, none⟩ = some (v, .none)) (h : OpsL P W0 ops l ⟨zl tm (some d) v, n, H, nx⟩ QQ) : OpsL P W0 ops (⟨some d, op, type, pos, after, none⟩ :: l) ⟨tm, n, H, nx⟩ QQ :=
 zdI (by simp [z16, hd]) rfl hop h
theorem zcK {e : Eff} {d : Tmp} (hd : d < n) (hop : aop P H nx (ASt.ev ⟨tm, n, H, nx⟩) ⟨some d, op, type, pos, after, none⟩ = some (v, e)) (h : OpsL P W0 ops l ⟨zl tm (some d) v, n, e.H nx H, e.nx nx⟩ QQ) : OpsL P W0 ops (⟨some d, op, type, pos, after, none⟩ :: l) ⟨tm, n, H, nx⟩ QQ :=
 zbk (by simp [z16, hd]) rfl hop h
theorem zhF {e : Eff} (hop : aop P H nx (ASt.ev ⟨tm, n, H, nx⟩) ⟨none, op, type, pos, after, none⟩ = some (v, e)) (h : OpsL P W0 ops l ⟨tm, n, e.H nx H, e.nx nx⟩ QQ) : OpsL P W0 ops (⟨none, op, type, pos, after, none⟩ :: l) ⟨tm, n, H, nx⟩ QQ :=
 zbk rfl rfl hop h
variable {ev : Operand → Option Value}
theorem z7U {s : TypeId} {x : Operand} {f : Nat} {a : Addr} {v : Value}
  (hx : ev x = some (.pointer (some a))) (h : z3h P s (.pointer (some a)) f = some v) :
  aop P H nx ev ⟨dst, .fieldAddr s x f, type, pos, after, guard⟩ = some (v, .none) := by simp [aop, hx, h]
variable {f : FuncId} {R : Value → Nat → Heap → Prop} {d : Tmp} {ts : Array TypeId}
theorem zcg (hd : d < n) (hf : z0O P f) (hcall : ACalls P W0 f [] nx H R) (h : ∀ v nx' H', R v nx' H' → OpsL P W0 ops l ⟨zl tm (some d) v, n, H', nx'⟩ QQ) :
  OpsL P W0 ops (⟨some d, .call ⟨.value (.func f), #[], ts⟩, type, pos, after, none⟩ :: l) ⟨tm, n, H, nx⟩ QQ :=
 OpsL.call R (by simp [z16, hd]) rfl (by simp [z0R, ASt.ev, z0B]) hf hcall h
theorem zcf {x : Operand} {a : Value} (hd : d < n) (hx : ASt.ev ⟨tm, n, H, nx⟩ x = some a) (hf : z0O P f) (hcall : ACalls P W0 f [a] nx H R) (h : ∀ v nx' H', R v nx' H' → OpsL P W0 ops l ⟨zl tm (some d) v, n, H', nx'⟩ QQ) :
  OpsL P W0 ops (⟨some d, .call ⟨.value (.func f), #[x], ts⟩, type, pos, after, none⟩ :: l) ⟨tm, n, H, nx⟩ QQ := by
 refine OpsL.call R (by simp [z16, hd]) rfl ?_ hf hcall h;have hf' : ASt.ev ⟨tm, n, H, nx⟩ (.func f) = some (.func (.func f) #[] #[]) := rfl;simp [z0R, hf', z0B, hx]
theorem zce {x y : Operand} {a b : Value} (hd : d < n) (hx : ASt.ev ⟨tm, n, H, nx⟩ x = some a) (hy : ASt.ev ⟨tm, n, H, nx⟩ y = some b) (hf : z0O P f) (hcall : ACalls P W0 f [a, b] nx H R) (h : ∀ v nx' H', R v nx' H' → OpsL P W0 ops l ⟨zl tm (some d) v, n, H', nx'⟩ QQ) :
  OpsL P W0 ops (⟨some d, .call ⟨.value (.func f), #[x, y], ts⟩, type, pos, after, none⟩ :: l) ⟨tm, n, H, nx⟩ QQ := by
 refine OpsL.call R (by simp [z16, hd]) rfl ?_ hf hcall h;have hf' : ASt.ev ⟨tm, n, H, nx⟩ (.func f) = some (.func (.func f) #[] #[]) := rfl;simp [z0R, hf', z0B, hx, hy]
theorem zcd {x y z : Operand} {a b c : Value} (hd : d < n) (hx : ASt.ev ⟨tm, n, H, nx⟩ x = some a) (hy : ASt.ev ⟨tm, n, H, nx⟩ y = some b) (hz : ASt.ev ⟨tm, n, H, nx⟩ z = some c) (hf : z0O P f) (hcall : ACalls P W0 f [a, b, c] nx H R) (h : ∀ v nx' H', R v nx' H' → OpsL P W0 ops l ⟨zl tm (some d) v, n, H', nx'⟩ QQ) :
  OpsL P W0 ops (⟨some d, .call ⟨.value (.func f), #[x, y, z], ts⟩, type, pos, after, none⟩ :: l) ⟨tm, n, H, nx⟩ QQ := by
 refine OpsL.call R (by simp [z16, hd]) rfl ?_ hf hcall h;have hf' : ASt.ev ⟨tm, n, H, nx⟩ (.func f) = some (.func (.func f) #[] #[]) := rfl;simp [z0R, hf', z0B, hx, hy, hz]
theorem z5t {j : Nat} {want : Bool} {d' : Tmp} (hj : (ops[j]?).bind (·.dst) = some d') (hb : tm d' = .bool want) (h : OpsL P W0 ops (⟨dst, op, type, pos, after, none⟩ :: l) ⟨tm, n, H, nx⟩ QQ) :
  OpsL P W0 ops (⟨dst, op, type, pos, after, some (j, want)⟩ :: l) ⟨tm, n, H, nx⟩ QQ := by
 obtain ⟨hd, h⟩ := h;refine ⟨hd, ?_⟩;have hw : z15 ops ⟨tm, n, H, nx⟩ ⟨dst, op, type, pos, after, some (j, want)⟩ = true := by simp [z15, hj, hb]
 rcases h with ⟨hw', _⟩ | ⟨_, h⟩
 ·simp [z15] at hw'
 ·exact .inr ⟨hw, h⟩
theorem z5u {j : Nat} {want : Bool} {d' : Tmp} (hj : (ops[j]?).bind (·.dst) = some d') (hb : tm d' = .bool (!want)) (hd : d < n) (h : OpsL P W0 ops l ⟨zl tm (some d) undef, n, H, nx⟩ QQ) :
  OpsL P W0 ops (⟨some d, op, type, pos, after, some (j, want)⟩ :: l) ⟨tm, n, H, nx⟩ QQ := by
 refine ⟨by simp [z16, hd], .inl ⟨?_, h⟩⟩;cases want <;> simp_all [z15]
theorem z9l {j : Nat} {want : Bool} {d' : Tmp} {p : Prop} [Decidable p] (hj : (ops[j]?).bind (·.dst) = some d') (hb : tm d' = .bool (decide p)) (hd : d < n)
  (h1 : decide p = want → OpsL P W0 ops (⟨some d, op, type, pos, after, none⟩ :: l) ⟨tm, n, H, nx⟩ QQ) (h2 : decide p = (!want) → OpsL P W0 ops l ⟨zl tm (some d) undef, n, H, nx⟩ QQ) :
  OpsL P W0 ops (⟨some d, op, type, pos, after, some (j, want)⟩ :: l) ⟨tm, n, H, nx⟩ QQ := by
 by_cases e : decide p = want
 ·exact z5t hj (by rw [hb, e]) (h1 e)
 ·have e' : decide p = !want := by revert e; cases decide p <;> cases want <;> simp
  exact z5u hj (by rw [hb, e']) hd (h2 e')
theorem zaz {j : Nat} {d' : Tmp} {p : Prop} [Decidable p] (hj : (ops[j]?).bind (·.dst) = some d') (hb : tm d' = .bool (decide p)) (hd : d < n)
  (h1 : p → OpsL P W0 ops (⟨some d, op, type, pos, after, none⟩ :: l) ⟨tm, n, H, nx⟩ QQ) (h2 : ¬p → OpsL P W0 ops l ⟨zl tm (some d) undef, n, H, nx⟩ QQ) :
  OpsL P W0 ops (⟨some d, op, type, pos, after, some (j, true)⟩ :: l) ⟨tm, n, H, nx⟩ QQ :=
 z9l hj hb hd (fun e => h1 (by simpa using e)) (fun e => h2 (by simpa using e))
theorem zdx {x y z : Operand} {v : Value} (hx : ev x = some (.bool true)) (hv : ev y = some v) : aop P H nx ev ⟨dst, .pick x y z, type, pos, after, guard⟩ = some (v, .none) := by simp [aop, hx, hv]
theorem zdy {x y z : Operand} {v : Value} (hx : ev x = some (.bool false)) (hv : ev z = some v) : aop P H nx ev ⟨dst, .pick x y z, type, pos, after, guard⟩ = some (v, .none) := by simp [aop, hx, hv]
theorem zD {t : TypeId} {l : List Value} (hz : z0D P t = some l) : aop P H nx ev ⟨dst, .alloc t, type, pos, after, guard⟩ = some (.pointer (some ⟨nx, 0, none⟩), .new (.cells l 0 none false (some t))) := by simp [aop, zaT, hz]
theorem zg {t : TypeId} {x : Operand} {a : Addr} {dd : TypeDesc} {k : Nat} {vs : List Value} (hx : ev x = some (.pointer (some a))) (hu : P.underlying t = some dd) (hd : z2t dd = true) (hz : z1w P t = some k) (hc : z0A H a k = some vs) :
  aop P H nx ev ⟨dst, .load t x, type, pos, after, guard⟩ = some (.agg vs.toArray, .none) := by simp [aop, hx, zbx, z1N, hu, hd, hz, hc]
theorem zw {t : TypeId} {x y : Operand} {a : Addr} {u : Value} {k : Nat} {o : AObj} (hx : ev x = some (.pointer (some a))) (hy : ev y = some u) (hz : z1w P t = some k) (hk : u.cells.size = k) (hc : z5j H a u.cells.toList = some o) :
  aop P H nx ev ⟨dst, .store t x y, type, pos, after, guard⟩ = some (undef, .upd a.block o) := by simp [aop, hx, hy, z8u, z9G, hz, hk, hc]
theorem OpsL.new {o : AObj} (hd : d < n) (hop : aop P H nx (ASt.ev ⟨tm, n, H, nx⟩) ⟨some d, op, type, pos, after, none⟩ = some (v, .new o)) (h : OpsL P W0 ops l ⟨zl tm (some d) v, n, H.put nx o, nx + 1⟩ QQ) : OpsL P W0 ops (⟨some d, op, type, pos, after, none⟩ :: l) ⟨tm, n, H, nx⟩ QQ :=
 zcK hd hop h
theorem OpsL.upd {o : AObj} {k : Nat} (hop : aop P H nx (ASt.ev ⟨tm, n, H, nx⟩) ⟨none, op, type, pos, after, none⟩ = some (v, .upd k o)) (h : OpsL P W0 ops l ⟨tm, n, H.put k o, nx⟩ QQ) : OpsL P W0 ops (⟨none, op, type, pos, after, none⟩ :: l) ⟨tm, n, H, nx⟩ QQ :=
 zhF hop h
theorem Trip.ok {c : Code} (h : (∀ id o, st.H id = some o → id < st.nx) → Trip P W0 c st Q) : Trip P W0 c st Q := fun ρ C a w hr hs => h (fun id o ho => (hs.rel.lt id o ho).1) ρ C a w hr hs
theorem zez {a : Addr} {k m : Nat} {o : AObj} (h : a.block ≠ k) : z0A (H.put k o) a m = z0A H a m := by simp [z0A, Heap.put, h]
theorem z1J {a : Addr} {m : Nat} {vs : List Value} (h : z0A H a m = some vs) : ∃ o, H a.block = some o := by
 obtain ⟨o, ho, _⟩ := z4H h; exact ⟨o, ho⟩
theorem zb {k : Nat} {o : AObj} : H.put k o k = some o := by simp [Heap.put]
theorem za {i k : Nat} {o : AObj} (h : i ≠ k) : H.put k o i = H i := by simp [Heap.put, h]
theorem z1g {t : TypeId} {a : Addr} {dd : TypeDesc} {k : Nat} {vs : List Value} (hu : P.underlying t = some dd) (hd : z2t dd = true) (hz : z1w P t = some k) (hc : z0A H a k = some vs) : z1N P H t a = some (.agg vs.toArray) := by simp [z1N, hu, hd, hz, hc]
theorem zy {t : Tmp} : z2K P st #[.tmp t] = some (st.tm t) := rfl
theorem z2h {t : Tmp} {ty : TypeId} {a : Addr} {v : Value} (ht : st.tm t = .pointer (some a)) (hr : z1N P st.H ty a = some v) : z2K P st #[.cell t ty] = some v := by simp [z2K, z3T, z63, ht, hr]
theorem z01 {k : Nat} {c : List Value} {e : Nat} {tg : Option Nat} {ro : Bool} {q : Option TypeId} {off m : Nat} (h : off + m ≤ c.length) : z0A (H.put k (.cells c e tg ro q)) ⟨k, off, tg⟩ m = some ((c.drop off).take m) := by simp [z0A, Heap.put, h]
end
end Go.Am
namespace Go.Am
open Go.RowKit
section
variable {P : Program} {W0 : World} {ops : Array Oper} {H : Heap} {nx n : Nat}
def ziD (P : Program) (ops : Array Oper) (H : Heap) (nx n : Nat) (o : Oper) (tm : Nat → Value) (v : Value) : Prop :=
 (∀ d, o.dst = some d → d < n) ∧ ((z25 ops tm o = false ∧ v = undef) ∨ (z25 ops tm o = true ∧ aop P H nx (evR (z4d o) tm) o = some (v, .none)))
def z2r (P : Program) (ops : Array Oper) (H : Heap) (nx n : Nat) : List Oper → (Nat → Value) → ((Nat → Value) → Prop) → Prop
 | [], tm, Q => Q tm
 | o :: l, tm, Q => ∃ v, ziD P ops H nx n o tm v ∧ z2r P ops H nx n l (zl tm o.dst v) Q
variable {d : Tmp} {op : Op} {type : TypeId} {pos : String} {after : Array Edge} {l : List Oper} {tm : Nat → Value} {v : Value} {QQ : (Nat → Value) → Prop}
end
end Go.Am
namespace Go.Am
open Go.RowKit
section
variable {P : Program} {W0 : World} {H : Heap} {nx n : Nat}
def OwnRow (H : Heap) (ob : Option (Nat × Nat)) (el : TypeId) (sz : Nat) (v : Value) (cs : List Value) (k : Nat) : Prop :=
 match ob with
 | none => v = .slice none 0 0 ∧ cs = [] ∧ k = 0
 | some (b, t) => v = .slice (some ⟨b, 0, some t⟩) k k ∧ cs.length = k * sz ∧ ∃ rest, H b = some (.cells (cs ++ rest) sz (some t) false (some el))
def z4A (nx : Nat) : Option (Nat × Nat) → Nat
 | none => nx
 | some (b, _) => b
variable {ev : Operand → Option Value} {dst : Option Tmp} {type : TypeId} {pos : String} {after : Array Edge} {guard : Option (Nat × Bool)}
theorem z6E {ob : Option (Nat × Nat)} {el : TypeId} {sz bytes k m : Nat} {v u : Value} {cs xs z : List Value} {x y : Operand} {st xt : TypeId} {xd : TypeDesc} (hx : ev x = some v) (hy : ev y = some u) (hv : OwnRow H ob el sz v cs k)
  (hs : z3x H sz u none = some (m, xs)) (h1 : xs.all (·.oneCell') = true) (hm : m ≠ 0) (hst : P.underlying st = some (.slice el)) (hxt : P.underlying xt = some xd) (hxd : z32 xd = true)
  (hsz : z1w P el = some sz) (hby : z0v P el = some bytes) (hz : z0D P el = some z) (hzl : z.length = sz) (hle : k + m ≤ 1099511627776) (hle2 : (2 * (k + m) + 192) * bytes ≤ 281474976710656) :
  ∃ e, aop P H nx ev ⟨dst, .call ⟨.builtin .append, #[x, y], #[st, xt]⟩, type, pos, after, guard⟩ = some (.slice (some ⟨z4A nx ob, 0, some nx⟩) (k + m) (k + m), e) ∧
   e.H nx H = H.put (z4A nx ob) (.cells (cs ++ xs) sz (some nx) false (some el)) ∧ e.nx nx = nx + 1 := by
 cases ob with
 | none =>
  obtain ⟨rfl, rfl, rfl⟩ := hv;refine ⟨.new (.cells xs sz (some nx) false (some el)), ?_, by simp [Eff.H, z4A], rfl⟩;simp only [Nat.zero_add] at hle hle2;simp [aop, hx, hy, z0B, z0F, z2v, hst, hxt, hsz, hby, hz, hxd, hzl, hs, hm, hle, hle2, z4A];rw [if_pos (by simpa using h1)]
 | some bt =>
  obtain ⟨b, t⟩ := bt;obtain ⟨rfl, hc, rest, ho⟩ := hv;refine ⟨.bump b (.cells (cs ++ xs) sz (some nx) false (some el)), ?_, by simp [Eff.H, z4A], rfl⟩
  have hg : z0A H ⟨b, 0, some t⟩ (k * sz) = some cs := by
   unfold z0A;simp only [ho];rw [if_pos ⟨trivial, by simp; omega⟩];simp [← hc]
  simp [aop, hx, hy, z0B, z0F, z2v, hst, hxt, hsz, hby, hz, hxd, hzl, hs, hm, ho, hle, hle2, hg, z4A];rw [if_pos (by simpa using h1)]
variable {ops : Array Oper} {l : List Oper} {tm : Nat → Value} {QQ : ASt → Prop} {d : Tmp}
theorem OpsL.append {ob : Option (Nat × Nat)} {el : TypeId} {sz bytes k m : Nat} {v u : Value} {cs xs z : List Value} {x y : Operand} {st xt : TypeId} {xd : TypeDesc} (hd : d < n) (hx : ASt.ev ⟨tm, n, H, nx⟩ x = some v) (hy : ASt.ev ⟨tm, n, H, nx⟩ y = some u) (hv : OwnRow H ob el sz v cs k)
  (hs : z3x H sz u none = some (m, xs)) (h1 : xs.all (·.oneCell') = true) (hm : m ≠ 0) (hst : P.underlying st = some (.slice el)) (hxt : P.underlying xt = some xd) (hxd : z32 xd = true)
  (hsz : z1w P el = some sz) (hby : z0v P el = some bytes) (hz : z0D P el = some z) (hzl : z.length = sz) (hle : k + m ≤ 1099511627776) (hle2 : (2 * (k + m) + 192) * bytes ≤ 281474976710656)
  (h : OpsL P W0 ops l ⟨zl tm (some d) (.slice (some ⟨z4A nx ob, 0, some nx⟩) (k + m) (k + m)), n, H.put (z4A nx ob) (.cells (cs ++ xs) sz (some nx) false (some el)), nx + 1⟩ QQ) :
  OpsL P W0 ops (⟨some d, .call ⟨.builtin .append, #[x, y], #[st, xt]⟩, type, pos, after, none⟩ :: l) ⟨tm, n, H, nx⟩ QQ := by
 obtain ⟨e, he, h1', h2'⟩ := z6E (P := P) (nx := nx) (dst := some d) (type := type) (pos := pos) (after := after) (guard := none) hx hy hv hs h1 hm hst hxt hxd hsz hby hz hzl hle hle2;refine zcK hd he ?_;rw [h1', h2'];exact h
def OwnInts (H : Heap) (ob : Option (Nat × Nat)) (el : TypeId) (v : Value) (xs : List Int) : Prop := OwnRow H ob el 1 v (xs.map (.int .i64 ·)) xs.length
theorem z2E {t el : TypeId} {x : Operand} {k : IntKind} {a b : Int} (hx : ev x = some (.int k a)) (hu : P.underlying t = some (.slice el)) (hs : z1w P el = some 1) (hz : z0D P el = some [.int k b]) :
  aop P H nx ev ⟨dst, .buildSlice t 1 #[(0, x)], type, pos, after, guard⟩ = some (.slice (some ⟨nx, 0, none⟩) 1 1, .new (.cells [.int k a] 1 none false (some el))) := by
 simp [aop, hx, z0i, z2D, hu, hs, hz, z8i, rep, Value.cells, Value.oneCell', z5V]
theorem z6S {k m c : Nat} {cs : List Value} {e : Nat} {tg : Option Nat} {ro : Bool} {q : Option TypeId} {sz : Nat} (hH : H k = some (.cells cs e tg ro q)) (hm : m * sz = cs.length) (h0 : m * sz ≠ 0) :
  z3x H sz (.slice (some ⟨k, 0, tg⟩) m c) none = some (m, cs) := by
 simp [z3x, cut, h0, z0A, hH, hm]
end
section
variable {P : Program} {W0 : World} {H : Heap} {nx n : Nat} {ev : Operand → Option Value} {dst : Option Tmp} {type : TypeId} {pos : String} {after : Array Edge} {guard : Option (Nat × Bool)}
theorem zR {x : Operand} {i : Nat} {a : Array Value} {v : Value} (hx : ev x = some (.tuple a)) (hv : a[i]? = some v) : aop P H nx ev ⟨dst, .extract x i, type, pos, after, guard⟩ = some (v, .none) := by
 simp [aop, hx, z5O, hv]
theorem z3R {t u : TypeId} {k : IntKind} {x y : Operand} {a b : Int} (hx : ev x = some (.int k a)) (hy : ev y = some (.int k b)) (h : a = b) :
  aop P H nx ev ⟨dst, .binOp .eql t x y u, type, pos, after, guard⟩ = some (.bool true, .none) := by
 rw [z9N hx hy]; simp [h]
theorem zb0 {st : ASt} {s t : Tmp} : z2K P st #[.tmp s, .tmp t] = some (.tuple #[st.tm s, st.tm t]) := rfl
theorem zaW (a : Int) : IntKind.i64.wrap a = (a + 9223372036854775808) % 18446744073709551616 - 9223372036854775808 := by
 simp only [IntKind.wrap, IntKind.bits, IntKind.signed, Bool.true_and, decide_eq_true_eq, Nat.reduceSub, Int.reducePow, ge_iff_le];split <;> omega
end
end Go.Am
namespace Go.Am
open Go.RowKit
section
variable {P : Program} {W0 : World} {ops : Array Oper}
def z24 : Op → Bool
 | .move _ | .assign _ | .pick .. | .build .. | .load .. | .nilCheck _ | .binOp .. | .unOp .. | .makeFunc .. | .lookup .. | .slice .. | .fieldAddr .. | .field .. | .indexAddr .. | .index .. | .extract .. => false
 | .call c => match c.callee with
  | .builtin .len | .builtin .min | .builtin .max | .builtin .cap => false
  | _ => true
 | _ => true
def z4C : Op → Bool
 | .move _ | .assign _ | .pick .. | .build .. | .unOp .. | .fieldAddr .. | .field .. | .indexAddr .. | .index .. | .extract .. | .nilCheck _ => true
 | .binOp op .. => op != .eql && op != .neq
 | _ => false
def z47 : Op → Bool
 | .call c => match c.callee with
  | .builtin _ => false
  | _ => true
 | _ => false
theorem z3d {ev : Operand → Option Value} {H : Heap} {nx : Nat} {o : Oper} {v : Value} {e : Eff} (h : z24 o.op = false) (hop : aop P H nx ev o = some (v, e)) : e = .none := by
 unfold aop at hop;cases ho : o.op <;> simp only [ho, z24] at h hop <;> try (cases h; done)
 case call c =>
  cases hc : c.callee <;> simp only [hc] at h hop <;> try (cases h; done)
  rename_i b;simp only [Option.bind_eq_some_iff] at hop;obtain ⟨l, _, hl⟩ := hop;cases b <;> simp only at h <;> try (cases h; done)
  all_goals
   unfold z0F at hl;split at hl <;> simp_all [Option.map_eq_some_iff]
   all_goals (obtain ⟨_, _, _, h⟩ := hl; exact h.symm)
 case pick =>
  split at hop <;> simp_all [Option.map_eq_some_iff]
  all_goals (obtain ⟨_, _, _, h⟩ := hop; exact h.symm)
 case nilCheck =>
  split at hop <;> simp_all
 all_goals simp only [Option.bind_eq_some_iff, Option.map_eq_some_iff, Prod.mk.injEq] at hop
 all_goals first
  | (obtain ⟨_, _, _, rfl⟩ := hop; rfl)
  | (obtain ⟨_, _, _, _, _, rfl⟩ := hop; rfl)
  | (obtain ⟨_, _, _, _, _, _, _, rfl⟩ := hop; rfl)
  | (obtain ⟨_, _, _, _, _, _, _, _, _, _, _, rfl⟩ := hop; rfl)
  | (obtain ⟨_, _, _, _, _, _, _, _, _, _, _, _, _, rfl⟩ := hop; rfl)
theorem zdE {H H' : Heap} {op : BinOp} {t : TypeId} {x y : Operand} {a b : Value} (h : (op != .eql && op != .neq) = true) : z6x P H op t x y a b = z6x P H' op t x y a b := by
 unfold z6x;split
 ·rfl
 ·rfl
 ·split
  ·cases op <;> first | rfl | (simp at h)
  ·rfl
theorem z3L {ev : Operand → Option Value} {H H' : Heap} {nx nx' : Nat} {o : Oper} (h : z4C o.op = true) : aop P H nx ev o = aop P H' nx' ev o := by
 unfold aop;cases ho : o.op <;> simp only [ho, z4C] at h ⊢ <;> try (cases h; done)
 case binOp op t x y yt =>
  simp only [zdE (P := P) (H := H) (H' := H') h]
theorem z7h {ts : List Tmp} {tm : Nat → Value} {n nx : Nat} {H : Heap} {x : Operand} (h : ∀ t, x = .tmp t → t ∈ ts) : evR ts tm x = ASt.ev ⟨tm, n, H, nx⟩ x := by
 cases x with
 | tmp t => simp [evR, ASt.ev, h t rfl]
 | _ => rfl
theorem z5I {o : Oper} {t : Tmp} (h : Operand.tmp t ∈ o.op.operands.toList) : t ∈ z4d o := by
 unfold z4d;rw [List.mem_filterMap];exact ⟨.tmp t, h, rfl⟩
theorem z3s {ev ev' : Operand → Option Value} : ∀ (l : List Operand), (∀ x ∈ l, ev x = ev' x) → z0B ev l = z0B ev' l := by
 intro l
 induction l with
 | nil => intro _; rfl
 | cons x l ih =>
  intro h;simp only [z0B, h x (by simp), ih (fun y hy => h y (by simp [hy]))]
theorem z4Q {ev ev' : Operand → Option Value} : ∀ (l : List (Nat × Operand)), (∀ x ∈ l, ev x.2 = ev' x.2) → z0i ev l = z0i ev' l := by
 intro l
 induction l with
 | nil => intro _; rfl
 | cons x l ih =>
  obtain ⟨i, x⟩ := x;intro h;simp only [z0i, h (i, x) (by simp), ih (fun y hy => h y (by simp [hy]))]
theorem z3r {ev ev' : Operand → Option Value} {o : Option Operand} (h : ∀ x, o = some x → ev x = ev' x) : z2d ev o = z2d ev' o := by
 cases o with
 | none => rfl
 | some x => simp only [z2d, h x rfl]
theorem z69 {ev ev' : Operand → Option Value} {H : Heap} {nx : Nat} {o : Oper} (h : ∀ x ∈ o.op.operands.toList, ev x = ev' x) : aop P H nx ev o = aop P H nx ev' o := by
 unfold aop;cases ho : o.op <;> simp only [ho, Op.operands] at h ⊢
 case call c =>
  cases hc : c.callee <;> simp only;rename_i b;rw [z3s c.args.toList (fun x hx => h x (by simp [Call.operands, hc]; first | exact hx | exact .inr hx | simpa using hx))]
 case build t ps => rw [z4Q ps.toList (fun x hx => h x.2 (by simp; exact ⟨x.1, by simpa using hx⟩))]
 case buildSlice t n ps => rw [z4Q ps.toList (fun x hx => h x.2 (by simp; exact ⟨x.1, by simpa using hx⟩))]
 case makeFunc fn first captured =>
  rw [z3s first.toList (fun x hx => h x (by simp; left; simpa using hx)), z3s captured.toList (fun x hx => h x (by simp; right; simpa using hx))]
 case makeMap t r => rw [z3r (fun x hx => h x (by simp [hx]))]
 case slice t x lo hi mx =>
  rw [h x (by simp), z3r (o := lo) (fun y hy => h y (by simp [hy])), z3r (o := hi) (fun y hy => h y (by simp [hy])), z3r (o := mx) (fun y hy => h y (by simp [hy]))]
 all_goals first
  | rfl
  | (rename_i x; rw [h x (by simp)]; done)
  | (rename_i t x; rw [h x (by simp)]; done)
  | (simp only [List.mem_cons, List.not_mem_nil, or_false, forall_eq_or_imp, forall_eq] at h; simp only [h]; done)
  | skip
def z2X : List Oper → List (Value × Eff) → ASt → Nat → ASt
 | o :: l, ve :: vs, st, i + 1 => z2X l vs (st.put o.dst ve.1 ve.2) i
 | _, _, st, _ => st
def zff (P : Program) (ops : Array Oper) (st : ASt) (o : Oper) (v : Value) (e : Eff) : Prop :=
 z16 st o = true ∧ ((z15 ops st o = false ∧ v = undef ∧ e = .none) ∨ (z15 ops st o = true ∧ aop P st.H st.nx st.ev o = some (v, e)))
theorem z2q {st : ASt} {o : Oper} {x : FuncId × List Value} (h : z0R st o = some x) : z47 o.op = true := by
 unfold z0R at h;split at h
 ·rename_i c ho;rw [ho];split at h
  ·rename_i y hc; simp [z47, hc]
  ·cases h
 ·cases h
theorem z4G (l : List Oper) (vs : List (Value × Eff)) (st : ASt) : z2X l vs st 0 = st := by cases l <;> cases vs <;> rfl
theorem zdF {Q : ASt → Prop} : ∀ (l : List Oper) (st : ASt), (∀ o ∈ l, z47 o.op = false) → OpsL P W0 ops l st Q → ∃ vs : List (Value × Eff), vs.length = l.length ∧ Q (z2X l vs st l.length) ∧
  ∀ (i : Nat) (o : Oper), l[i]? = some o → zff P ops (z2X l vs st i) o (vs.getD i (undef, .none)).1 (vs.getD i (undef, .none)).2 ∧ z2X l vs st (i + 1) = (z2X l vs st i).put o.dst (vs.getD i (undef, .none)).1 (vs.getD i (undef, .none)).2 := by
 intro l
 induction l with
 | nil => intro st _ h; exact ⟨[], rfl, h, fun i o ho => by simp at ho⟩
 | cons o l ih =>
  intro st hg h;have hg0 := hg o (by simp);have hgl := fun x hx => hg x (List.mem_cons_of_mem _ hx);obtain ⟨hd, h⟩ := h
  have key : ∃ v e, zff P ops st o v e ∧ OpsL P W0 ops l (st.put o.dst v e) Q := by
   rcases h with ⟨hw, h⟩ | ⟨hw, ⟨v, e, hop, h⟩ | ⟨f, args, R, hc, _⟩⟩
   ·exact ⟨undef, .none, ⟨hd, .inl ⟨hw, rfl, rfl⟩⟩, h⟩
   ·exact ⟨v, e, ⟨hd, .inr ⟨hw, hop⟩⟩, h⟩
   ·rw [z2q hc] at hg0; cases hg0
  obtain ⟨v, e, h1, h2⟩ := key;obtain ⟨vs, e1, e2, e3⟩ := ih _ hgl h2;refine ⟨(v, e) :: vs, by simp [e1], e2, ?_⟩;intro i o' ho;cases i with
  | zero =>
   simp only [List.getElem?_cons_zero, Option.some.injEq] at ho;subst ho;refine ⟨by rw [z4G]; exact h1, ?_⟩;show z2X l vs (st.put o.dst v e) 0 = _;rw [z4G, z4G]; rfl
  | succ i => exact e3 i o' (by simpa using ho)
def zgM (ops : Array Oper) : Bool :=
 (ops.toList.all fun o => !z47 o.op) &&
 z26 (fun i oi => z26 (fun j oj => !(z24 oi.op && z24 oj.op && decide (i < j)) || zaI oj i || (List.range ops.size).any fun k => decide (i < k) && decide (k < j) && (match ops[k]? with | some o => z24 o.op | none => false)) 0 ops.toList) 0 ops.toList &&
 z26 (fun i oi => z24 oi.op || z4C oi.op || z26 (fun j oj => !z24 oj.op || zaI oi j || zaI oj i) 0 ops.toList) 0 ops.toList
def z2H (ops : Array Oper) (i : Nat) : Bool :=
 match ops[i]? with
 | some o => z24 o.op
 | none => false
theorem ziI {A : Prop} (h : A := by
 intro j hj;have hj' := hj;unfold z2H at hj;cases hoj : ops[j]? with
 | none => rw [hoj] at hj; cases hj
 | some oj =>
  rw [hoj] at hj;simp only at hj;have := z0n _ _ hf j oj (toL j oj hoj);simp only [Nat.zero_add, hj, Bool.not_true, Bool.false_or, Bool.or_eq_true] at this;rcases this with h1 | h1
  ·have hd := z1G.1 h1;have := b1 i oi ho j hd;exact ⟨fun _ => hdep j hj' hd, fun _ => by omega⟩
  ·have hd := z1G.1 h1;have := b1 j oj hoj i hd;refine ⟨fun _ => by omega, fun _ => ?_⟩;rcases Nat.lt_or_ge j p with c | c
   ·exact absurd hd (hnot j oj hj' c hoj)
   ·exact c) : A := h
theorem ziH {A : Prop} (h : A := by
 rcases Nat.le_total p i with c | c
 ·obtain ⟨m, rfl⟩ : ∃ m, i = p + m := ⟨i - p, zom⟩
  obtain ⟨a1, a2⟩ := hrange m p (fun j h1 h2 => by
   cases hj : z2H ops j with
   | false => rfl
   | true => have := (hrel j hj).1 h2; omega)
  exact ⟨a1.symm, a2.symm⟩
 ·obtain ⟨m, rfl⟩ : ∃ m, p = i + m := ⟨p - i, zom⟩
  exact hrange m i (fun j h1 h2 => by
   cases hj : z2H ops j with
   | false => rfl
   | true =>
    have hne : j ≠ i := fun x => by rw [x, hE] at hj; cases hj
    have := (hrel j hj).2 zom; omega)) : A := h
theorem OpsL.drawn {id : Nat} {st : ASt} {Q : AExit → ASt → Prop} (hm : P.follows .mixedOrders = true) (hs : z8l ops = true) (hq : zgM ops = true) (h : OpsL P W0 ops ops.toList st (Q .normal)) : Trip P W0 (.region id ops true) st Q := by
 unfold zgM at hq;simp only [Bool.and_eq_true] at hq;obtain ⟨⟨q1, q2⟩, q3⟩ := hq;have hgo : ∀ o ∈ ops.toList, z47 o.op = false := fun o ho => by simpa using List.all_eq_true.1 q1 o ho
 obtain ⟨vs, e1, e2, e3⟩ := zdF _ _ hgo h;obtain ⟨b1, b2, b3⟩ := z4j hs;have toL : ∀ (i : Nat) (o : Oper), ops[i]? = some o → ops.toList[i]? = some o := fun i o ho => by simpa using ho
 have hz := z4G ops.toList vs st
 have hnn : ∀ i, i ≤ ops.size → (z2X ops.toList vs st i).n = st.n := by
  intro i
  induction i with
  | zero => intro _; rw [hz]
  | succ i ih =>
   intro hi;have ho : ops[i]? = some ops[i] := Array.getElem?_eq_getElem zom;rw [(e3 i _ (toL i _ ho)).2];exact ih zom
 have hend : ∀ i, ops[i]? = none → z2X ops.toList vs st (i + 1) = z2X ops.toList vs st i := by
  have gen : ∀ (l : List Oper) (us : List (Value × Eff)) (st : ASt) (i : Nat), us.length = l.length → l.length ≤ i → z2X l us st (i + 1) = z2X l us st i := by
   intro l
   induction l with
   | nil => intro us st i _ _; cases i <;> rfl
   | cons o l ih =>
    intro us st i hu hi;cases us with
    | nil => simp at hu
    | cons u us =>
     cases i with
     | zero => simp at hi
     | succ i => exact ih us _ i (by simpa using hu) (by simpa using hi)
  intro i hi;exact gen _ _ _ _ e1 (by simpa using Array.getElem?_eq_none_iff.1 hi)
 have hstill : ∀ i, z2H ops i = false → (z2X ops.toList vs st (i + 1)).H = (z2X ops.toList vs st i).H ∧ (z2X ops.toList vs st (i + 1)).nx = (z2X ops.toList vs st i).nx := by
  intro i hi;cases ho : ops[i]? with
  | none => rw [hend i ho]; exact ⟨rfl, rfl⟩
  | some o =>
   obtain ⟨⟨_, p2⟩, p3⟩ := e3 i o (toL i o ho)
   have hne : (vs.getD i (undef, .none)).2 = .none := by
    rcases p2 with ⟨_, _, c⟩ | ⟨_, c⟩
    ·exact c
    ·exact z3d (by simpa [z2H, ho] using hi) c
   rw [p3, hne];exact ⟨rfl, rfl⟩
 have hrange : ∀ m p, (∀ j, p ≤ j → j < p + m → z2H ops j = false) → (z2X ops.toList vs st (p + m)).H = (z2X ops.toList vs st p).H ∧ (z2X ops.toList vs st (p + m)).nx = (z2X ops.toList vs st p).nx := by
  intro m
  induction m with
  | zero => intro p _; exact ⟨rfl, rfl⟩
  | succ m ih =>
   intro p hp;obtain ⟨a1, a2⟩ := ih p (fun j h1 h2 => hp j h1 zom);obtain ⟨c1, c2⟩ := hstill (p + m) (hp _ zom zom);exact ⟨by rw [show p + (m + 1) = p + m + 1 by omega, c1, a1], by rw [show p + (m + 1) = p + m + 1 by omega, c2, a2]⟩
 have hev : ∀ (i : Nat) (o : Oper) (H : Heap) (nx : Nat), aop P H nx (evR (z4d o) (z2X ops.toList vs st i).tm) o = aop P H nx (z2X ops.toList vs st i).ev o := fun i o H nx =>
  z69 (fun x hx => z7h (n := (z2X ops.toList vs st i).n) (nx := (z2X ops.toList vs st i).nx) (H := (z2X ops.toList vs st i).H) (fun t ht => z5I (by rw [← ht]; exact hx)))
 refine Trip.drawn (tms := fun i => (z2X ops.toList vs st i).tm) (vs := fun i => (vs.getD i (undef, .none)).1) (Hs := fun i => (z2X ops.toList vs st i).H) (ns := fun i => (z2X ops.toList vs st i).nx) (isE := z2H ops) hm
  ⟨by rw [hz], by rw [hz], by rw [hz], ?_, ?_, hstill, b1, b2, b3, ?_, ?_, ?_⟩ ?_
 ·intro i o ho;rw [(e3 i o (toL i o ho)).2];rfl
 ·intro i o ho;obtain ⟨⟨p1, p2⟩, p3⟩ := e3 i o (toL i o ho);have hlt : i < ops.size := (Array.getElem?_eq_some_iff.1 ho).1;refine ⟨fun d hd => by have := z1z p1 d hd; rwa [hnn i zom] at this, ?_⟩;simp only [z0I];rcases p2 with ⟨a, b, c⟩ | ⟨a, b⟩
  ·exact .inl ⟨a, b, by rw [p3, c]; rfl, by rw [p3, c]; rfl⟩
  ·exact .inr ⟨a, .inl ⟨_, by rw [hev]; exact b, by rw [p3]; rfl, by rw [p3]; rfl⟩⟩
 ·intro i j oj hi hj hoj hij hbetween;unfold z2H at hi hj;cases hoi : ops[i]? with
  | none => rw [hoi] at hi; cases hi
  | some oi =>
   rw [hoi] at hi;rw [hoj] at hj;simp only at hi hj;have := z0n _ _ (z0n _ _ q2 i oi (toL i oi hoi)) j oj (toL j oj hoj);simp only [Nat.zero_add, hi, hj, hij, decide_true, Bool.and_self, Bool.not_true, Bool.false_or, Bool.or_eq_true] at this;rcases this with h1 | h1
   ·exact ⟨0, z1G.1 h1⟩
   ·rw [List.any_eq_true] at h1;obtain ⟨k, _, hk⟩ := h1;simp only [Bool.and_eq_true, decide_eq_true_eq] at hk;obtain ⟨⟨k1, k2⟩, k3⟩ := hk;have := hbetween k k1 k2;unfold z2H at this;rw [this] at k3; cases k3
 ·intro i oi p ho hE hw _ hple hdep hnot;obtain ⟨⟨p1, p2⟩, p3⟩ := e3 i oi (toL i oi ho);have hlt : i < ops.size := (Array.getElem?_eq_some_iff.1 ho).1;have hEo : z24 oi.op = false := by simpa [z2H, ho] using hE
  simp only [z0I] at hw
  have hop : aop P (z2X ops.toList vs st i).H (z2X ops.toList vs st i).nx (z2X ops.toList vs st i).ev oi = some ((vs.getD i (undef, .none)).1, .none) := by
   rcases p2 with ⟨a, _⟩ | ⟨_, b⟩
   ·rw [hw] at a; cases a
   ·rw [z3d hEo b] at b; exact b
  show aop P _ _ (evR (z4d oi) (z2X ops.toList vs st i).tm) oi = _;rw [hev];have hq := z0n _ _ q3 i oi (toL i oi ho);simp only [hEo, Bool.false_or, Bool.or_eq_true] at hq;rcases hq with hf | hf
  ·rw [z3L (H' := (z2X ops.toList vs st i).H) (nx' := (z2X ops.toList vs st i).nx) hf]; exact hop
  ·have hrel : ∀ j, z2H ops j = true → (j < i → j < p) ∧ (i < j → p ≤ j) := by
    exact ziI
   have hsame : (z2X ops.toList vs st p).H = (z2X ops.toList vs st i).H ∧ (z2X ops.toList vs st p).nx = (z2X ops.toList vs st i).nx := by
    exact ziH
   simp only [hsame.1, hsame.2];exact hop
 ·intro i hi;unfold z2H at hi;cases ho : ops[i]? with
  | none => rw [ho] at hi; cases hi
  | some o => exact (Array.getElem?_eq_some_iff.1 ho).1
 ·have hl : ops.toList.length = ops.size := by simp
  rw [hl] at e2;have hn := hnn ops.size (Nat.le_refl _);have : (⟨(z2X ops.toList vs st ops.size).tm, st.n, (z2X ops.toList vs st ops.size).H, (z2X ops.toList vs st ops.size).nx⟩ : ASt) = z2X ops.toList vs st ops.size := by rw [← hn]
  rw [this];exact e2
end
end Go.Am
