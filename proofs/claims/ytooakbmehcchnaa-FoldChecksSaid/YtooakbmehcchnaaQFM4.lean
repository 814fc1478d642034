import Derived.Orders
import Derived.Lib.Bytealg
import Derived.Test.YtooakbmehcchnaaQFM3
set_option linter.unusedSimpArgs false
set_option linter.unusedVariables false
set_option maxRecDepth 100000
set_option maxHeartbeats 16000000
namespace Go.Am
open Go.RowKit
def opTs (o : Oper) : List Tmp := o.op.operands.toList.filterMap fun | .tmp t => some t | _ => none
def evR (ts : List Tmp) (tm : Nat → Value) : Operand → Option Value
  | .tmp t => if ts.contains t then some (tm t) else none
  | .const v => if plainC v then some v else none
  | .func f => some (.func (.func f) #[] #[])
  | .global g => cond (Nat.blt g NG) (some (.pointer (some ⟨g, 0, none⟩))) none
def gdst (ops : Array Oper) (o : Oper) : Option Tmp :=
  match o.guard with
  | none => none
  | some (j, _) => (ops[j]?).bind (·.dst)
def wantsT (ops : Array Oper) (tm : Nat → Value) (o : Oper) : Bool :=
  match o.guard with
  | none => true
  | some (_, want) =>
    match gdst ops o with
    | some d => match tm d with
      | .bool b => b == want
      | _ => false
    | none => false
def calleeE (ev : Operand → Option Value) (o : Oper) : Option (FuncId × List Value) :=
  match o.op with
  | .call c =>
    match c.callee with
    | .value x =>
      match ev x, evAll ev c.args.toList with
      | some (.func (.func f) first captured), some l => some (f, (first.toList ++ l) ++ captured.toList)
      | _, _ => none
    | _ => none
  | _ => none
theorem evR_congr {ts : List Tmp} {tm tm' : Nat → Value} (h : ∀ t ∈ ts, tm t = tm' t) : evR ts tm = evR ts tm' := by
  funext x
  cases x with
  | tmp t =>
    simp only [evR]
    split
    · rename_i hc; rw [h t (List.contains_iff_mem.1 hc)]
    · rfl
  | _ => rfl
def dep (o : Oper) (j : Nat) : Prop := ∃ e ∈ o.after, Region.binds .any e = true ∧ e.on = j
def yieldE (ev : Operand → Option Value) (o : Oper) : Option (Nat × List Value) :=
  match o.op with
  | .call c =>
    match c.callee with
    | .value x =>
      match ev x, evAll ev c.args.toList with
      | some (.chan (some l)), some args => some (l, args)
      | _, _ => none
    | _ => none
  | _ => none
def AYields (P : Program) (W0 : World) (l : Nat) (args : List Value) (nx : Nat) (H : Heap) (Q : Value → Nat → Heap → Prop) : Prop :=
  ∀ C w args', Rel W0 C nx H w → VRs nx H C args args' → ∃ fn tmps asg body, (Instr.yield (C.loc l).1 args'.toArray).run P w = .ok (.round (C.loc l).1 fn tmps asg body) w ∧
    RoundIn Fence.wide 0 P (C.loc l).1 fn tmps asg body w fun e w' => ∃ v v' C' nx' H', e = .returned v' ∧ Q v nx' H' ∧ Rel W0 C' nx' H' w' ∧ VR nx' H' C' v v' ∧ Stp nx H C nx' H' C'
def YB : Nat := 2000000000
def XB : Nat := 1500000000
def calleeG (ev : Operand → Option Value) (o : Oper) : Option (FuncId × List Value) :=
  match o.op with
  | .call c =>
    match c.callee with
    | .value x =>
      match ev x, evAll ev c.args.toList with
      | some (.func (.func f) first captured), some l => cond (Nat.blt f XB) (some (f, (first.toList ++ l) ++ captured.toList)) none
      | some (.chan (some l)), some args => some (YB + l, args)
      | _, _ => none
    | _ => none
  | _ => none
def GCalls (P : Program) (W0 : World) (f : FuncId) (args : List Value) (nx : Nat) (H : Heap) (Q : Value → Nat → Heap → Prop) : Prop :=
  (f < YB ∧ Enters P f ∧ ACalls P W0 f args nx H Q) ∨ (∃ l, f = YB + l ∧ isLoop (H l) = true ∧ AYields P W0 l args nx H Q)
theorem calleeG_cases {ev : Operand → Option Value} {o : Oper} {f : FuncId} {args : List Value} (h : calleeG ev o = some (f, args)) : (f < XB ∧ calleeE ev o = some (f, args)) ∨ ∃ l, f = YB + l ∧ yieldE ev o = some (l, args) := by
  unfold calleeG at h
  cases ho : o.op with
  | call c =>
    simp only [ho] at h
    cases hc : c.callee with
    | value x =>
      simp only [hc] at h
      split at h
      · rename_i g a b l h1 h2
        cases hb : Nat.blt g XB with
        | false => rw [hb] at h; cases h
        | true =>
          rw [hb] at h
          simp only [cond_true, Option.some.injEq, Prod.mk.injEq] at h
          obtain ⟨rfl, rfl⟩ := h
          left
          refine ⟨by rw [Nat.blt_eq] at hb; exact hb, ?_⟩
          unfold calleeE
          simp only [ho, hc, h1, h2]
      · rename_i l aas h1 h2
        right
        simp only [Option.some.injEq, Prod.mk.injEq] at h
        obtain ⟨rfl, rfl⟩ := h
        refine ⟨l, rfl, ?_⟩
        unfold yieldE
        simp only [ho, hc, h1, h2]
      · cases h
    | _ => simp only [hc] at h; cases h
  | _ => simp only [ho] at h; cases h
theorem evAll_up {st : ASt} {ev : Operand → Option Value} (hev : ∀ x v, ev x = some v → st.ev x = some v) : ∀ (l : List Operand) (r : List Value), evAll ev l = some r → evAll st.ev l = some r := by
  intro l
  induction l with
  | nil => intro r h; exact h
  | cons x l ih =>
    intro r h
    simp only [evAll] at h ⊢
    split at h
    · rename_i v l' hv hl
      rw [hev x v hv, ih l' hl]
      exact h
    · cases h
theorem yield_run {P : Program} {W0 : World} {C : Corr} {st : ASt} {a : Act} {w : World} (hs : SRel W0 C st a w) {ev : Operand → Option Value} (hev : ∀ x v, ev x = some v → st.ev x = some v) {o : Oper} {l : Nat} {args : List Value} (h : yieldE ev o = some (l, args)) (hl : isLoop (st.H l) = true) :
    ∃ args' : List Value, VRs st.nx st.H C args args' ∧ ∀ ro, (o.semAt ro a.eval).run P w = (Instr.yield (C.loc l).1 args'.toArray).run P w := by
  unfold yieldE at h
  split at h
  · rename_i c hc
    split at h
    · rename_i x hx
      split at h
      · rename_i l' aas h1 h2
        simp only [Option.some.injEq, Prod.mk.injEq] at h
        obtain ⟨rfl, rfl⟩ := h
        have ha := evAll_sound hs.ev _ _ (evAll_up hev _ _ h2)
        have hv := hs.ev x _ (hev _ _ h1)
        obtain ⟨ob, hob, hot⟩ : ∃ ob, st.H l' = some ob ∧ ob.tag = none := by
          cases hq : st.H l' with
          | none => rw [hq] at hl; cases hl
          | some ob => cases ob <;> first | exact ⟨_, rfl, rfl⟩ | (rw [hq] at hl; cases hl)
        generalize hu : a.eval x = u at hv
        cases hv with
        | yld _ b' q1 q2 =>
          refine ⟨c.args.toList.map a.eval, ha, fun ro => ?_⟩
          rw [Oper.semAt_eq ro a.eval o (fun d hd => by rw [hc] at hd; cases hd)]
          have e : (c.args.toList.map a.eval).toArray = c.args.map a.eval := by apply Array.ext'; simp
          rw [e, ← q2 ob hob hot]
          simp only [execOp, hc, resolve, hx, Deferred.ofValue, hu, Sem.run_bind, Sem.run_pure, Result.andThen_ok, invoke, Array.empty_append]
      · cases h
    · cases h
  · cases h
def DStep (P : Program) (W0 : World) (ops : Array Oper) (tm : Nat → Value) (n : Nat) (H : Heap) (nx : Nat) (o : Oper) (v : Value) (H' : Heap) (nx' : Nat) : Prop :=
  (∀ d, o.dst = some d → d < n) ∧
  ((wantsT ops tm o = false ∧ v = undef ∧ H' = H ∧ nx' = nx) ∨
   (wantsT ops tm o = true ∧ ((∃ e, aop P H nx (evR (opTs o) tm) o = some (v, e) ∧ H' = e.H nx H ∧ nx' = e.nx nx) ∨
     (∃ f args, calleeE (evR (opTs o) tm) o = some (f, args) ∧ Enters P f ∧ ACalls P W0 f args nx H fun v1 n1 H1 => v1 = v ∧ n1 = nx' ∧ H1 = H') ∨
     (∃ f args, calleeG (evR (opTs o) tm) o = some (f, args) ∧ GCalls P W0 f args nx H fun v1 n1 H1 => v1 = v ∧ n1 = nx' ∧ H1 = H'))))
section
variable {P : Program} {W0 : World} {ops : Array Oper}
theorem wantsT_congr {tm tm' : Nat → Value} {o : Oper} (h : ∀ d, gdst ops o = some d → tm d = tm' d) : wantsT ops tm o = wantsT ops tm' o := by
  unfold wantsT
  cases hg : o.guard with
  | none => rfl
  | some g =>
    simp only
    cases hd : gdst ops o with
    | none => rfl
    | some d => simp only [h d hd]
theorem DStep.congr {tm tm' : Nat → Value} {n : Nat} {H : Heap} {nx : Nat} {o : Oper} {v : Value} {H' : Heap} {nx' : Nat} (h : DStep P W0 ops tm n H nx o v H' nx') (h1 : ∀ t ∈ opTs o, tm t = tm' t) (h2 : ∀ d, gdst ops o = some d → tm d = tm' d) :
    DStep P W0 ops tm' n H nx o v H' nx' := by
  unfold DStep at *
  rw [← wantsT_congr h2, ← evR_congr h1]
  exact h
theorem wantsT_wants (st : ASt) (o : Oper) : wantsT ops st.tm o = wants ops st o := by
  unfold wantsT wants gdst
  cases o.guard with
  | none => rfl
  | some g => rfl
theorem evR_sound {C : Corr} {st : ASt} {a : Act} {w : World} (hs : SRel W0 C st a w) (ts : List Tmp) : ∀ x v, evR ts st.tm x = some v → VR st.nx st.H C v (a.eval x) := by
  intro x v hv
  apply hs.ev x v
  cases x with
  | tmp t =>
    simp only [evR] at hv
    split at hv
    · exact hv
    · cases hv
  | _ => exact hv
theorem calleeE_sound {C : Corr} {st : ASt} {a : Act} {w : World} (hs : SRel W0 C st a w) {ev : Operand → Option Value} (hev : ∀ x v, ev x = some v → st.ev x = some v) {o : Oper} {f : FuncId} {args : List Value} (h : calleeE ev o = some (f, args)) : callee st o = some (f, args) := by
  have hall : ∀ (l : List Operand) (r : List Value), evAll ev l = some r → evAll st.ev l = some r := by
    intro l
    induction l with
    | nil => intro r h; exact h
    | cons x l ih =>
      intro r h
      simp only [evAll] at h ⊢
      split at h
      · rename_i v l' hv hl
        rw [hev x v hv, ih l' hl]
        exact h
      · cases h
  unfold calleeE at h
  unfold callee
  cases ho : o.op <;> simp only [ho] at h ⊢ <;> try (cases h; done)
  rename_i c
  cases hc : c.callee <;> simp only [hc] at h ⊢ <;> try (cases h; done)
  rename_i x
  split at h
  · rename_i f' first captured l hx hl
    rw [hev x _ hx, hall _ _ hl]
    exact h
  · cases h
theorem evR_ev (st : ASt) (ts : List Tmp) : ∀ x v, evR ts st.tm x = some v → st.ev x = some v := by
  intro x v hv
  cases x with
  | tmp t =>
    simp only [evR] at hv
    split at hv
    · exact hv
    · cases hv
  | _ => exact hv
theorem GCalls.wp {ρ : Option Nat} {C : Corr} {st : ASt} {a : Act} {w : World} {ev : Operand → Option Value} {o : Oper} {f : FuncId} {args : List Value} {R : Value → Nat → Heap → Prop} {next : Act → World → Prop} {Q : Exit → Act → World → Prop}
    (hs : SRel W0 C st a w) (hev : ∀ x v, ev x = some v → st.ev x = some v) (hd : ∀ d, o.dst = some d → d < st.n) (hc : calleeG ev o = some (f, args)) (hg : GCalls P W0 f args st.nx st.H R)
    (hk : ∀ v v' C' nx' H' w', R v nx' H' → SRel W0 C' ⟨tmPut st.tm o.dst v, st.n, H', nx'⟩ (a.put o.dst v') w' → Stp st.nx st.H C nx' H' C' → next (a.put o.dst v') w') : o.wpIn (rf ρ) 0 P a w next Q := by
  refine ⟨fun _ _ => trivial, ?_⟩
  rcases calleeG_cases hc with ⟨hfl, hE⟩ | ⟨l, rfl, hY⟩
  · rcases hg with ⟨_, hf, hcall⟩ | ⟨l, rfl, hl, _⟩
    · have hE' := calleeE_sound hs hev hE
      obtain ⟨args', hrun, hargs⟩ := callee_sound hs hE' hf
      rw [show (rf ρ).round = ρ from rfl, callee_semAt hE', hrun]
      refine ⟨fun h => (by cases h), callsIn_rf ((hcall C w args' hs.rel hargs).mono ?_)⟩
      rintro e w'' ⟨v0, v', C', nx1, H1, rfl, hr, hR, hv, hS⟩
      exact hk v0 v' C' nx1 H1 w'' hr (hs.put hd hR hS hv) hS
    · exact absurd (Nat.lt_trans hfl (by decide : XB < YB)) (Nat.not_lt.2 (Nat.le_add_right YB l))
  · rcases hg with ⟨hlt, _, _⟩ | ⟨l', e, hl, hy⟩
    · exact absurd hlt (Nat.not_lt.2 (Nat.le_add_right YB l))
    · obtain rfl : l = l' := Nat.add_left_cancel e
      obtain ⟨args', ha, hrun⟩ := yield_run (P := P) hs hev hY hl
      rw [hrun]
      obtain ⟨fn, tmps, asg, body, h1, h2⟩ := hy C w args' hs.rel ha
      rw [h1]
      have h3 : RoundIn (rf ρ) (0 - 1) P (C.loc l).1 fn tmps asg body w fun e w' => ∃ v v' C' nx' H', e = .returned v' ∧ R v nx' H' ∧ Rel W0 C' nx' H' w' ∧ VR nx' H' C' v v' ∧ Stp st.nx st.H C nx' H' C' := h2
      refine ⟨fun h => (by cases h), h3.mono ?_⟩
      rintro e w'' ⟨v0, v', C', nx1, H1, rfl, hr, hR, hv, hS⟩
      exact hk v0 v' C' nx1 H1 w'' hr (hs.put hd hR hS hv) hS
theorem DStep.wp {ρ : Option Nat} {C : Corr} {tm : Nat → Value} {n : Nat} {H : Heap} {nx : Nat} {o : Oper} {v : Value} {H' : Heap} {nx' : Nat} {a : Act} {w : World} {i : Nat} {K : Act → World → Prop} {Q : Exit → Act → World → Prop} (hs : SRel W0 C ⟨tm, n, H, nx⟩ a w)
    (h : DStep P W0 ops tm n H nx o v H' nx') (ho : ops[i]? = some o)
    (hk : ∀ C' v' w', SRel W0 C' ⟨tmPut tm o.dst v, n, H', nx'⟩ (a.put o.dst v') w' → Stp nx H C nx' H' C' → K (a.put o.dst v') w') : wpOpIn (rf ρ) 0 P ops Q i K a w := by
  obtain ⟨hd, h⟩ := h
  have hww := wants_sound hs ops o
  rw [← wantsT_wants] at hww
  unfold wpOpIn
  rw [ho]
  simp only [hww]
  rcases h with ⟨hw, rfl, rfl, rfl⟩ | ⟨hw, h⟩
  · simp only [hw, Bool.false_eq_true, if_false]
    exact ⟨fun _ _ => trivial, hk C undef w (hs.put hd hs.rel (Stp.refl _ _ _) undef_VR) (Stp.refl _ _ _)⟩
  · simp only [hw, if_true]
    rcases h with ⟨e, hop, rfl, rfl⟩ | ⟨f, args, hc, hf, hcall⟩ | ⟨f, args, hc, hg⟩
    · refine ⟨fun _ _ => trivial, ?_⟩
      obtain ⟨nn, v', w', C', hrun, hn, hR, hS, hv⟩ := aop_sound hs.rel (evR_sound hs _) hop
      rw [aop_semAt hop, hrun]
      have := hk C' v' w' (hs.put hd hR hS hv) hS
      rcases hn with rfl | ⟨rfl, rfl⟩
      · exact this
      · exact this
    · refine ⟨fun _ _ => trivial, ?_⟩
      have hE' := calleeE_sound hs (evR_ev _ _) hc
      obtain ⟨args', hrun, hargs⟩ := callee_sound hs hE' hf
      rw [callee_semAt hE', hrun]
      refine ⟨fun h => (by cases h), callsIn_rf ((hcall C w args' hs.rel hargs).mono ?_)⟩
      rintro e w'' ⟨v0, v', C', nx1, H1, rfl, ⟨rfl, rfl, rfl⟩, hR, hv, hS⟩
      exact hk C' v' w'' (hs.put hd hR hS hv) hS
    · exact hg.wp hs (evR_ev _ _) hd hc (fun v1 v' C' nx1 H1 w' hr hs' hS => by obtain ⟨rfl, rfl, rfl⟩ := hr; exact hk C' v' w' hs' hS)
def depN (ops : Array Oper) : Nat → Oper → Nat → Prop
  | 0, o, i => dep o i
  | n + 1, o, i => dep o i ∨ ∃ m om, ops[m]? = some om ∧ dep o m ∧ depN ops n om i
structure Drawn (P : Program) (W0 : World) (ops : Array Oper) (st : ASt) (tms : Nat → Nat → Value) (vs : Nat → Value) (Hs : Nat → Heap) (ns : Nat → Nat) (isE : Nat → Bool) : Prop where
  t0 : tms 0 = st.tm
  h0 : Hs 0 = st.H
  n0 : ns 0 = st.nx
  tstep : ∀ (i : Nat) (o : Oper), ops[i]? = some o → tms (i + 1) = tmPut (tms i) o.dst (vs i)
  step : ∀ (i : Nat) (o : Oper), ops[i]? = some o → DStep P W0 ops (tms i) st.n (Hs i) (ns i) o (vs i) (Hs (i + 1)) (ns (i + 1))
  still : ∀ i, isE i = false → Hs (i + 1) = Hs i ∧ ns (i + 1) = ns i
  lex : ∀ (i : Nat) (o : Oper), ops[i]? = some o → ∀ j, dep o j → j < i
  one : ∀ (i j : Nat) (oi oj : Oper) (d : Tmp), ops[i]? = some oi → ops[j]? = some oj → oi.dst = some d → oj.dst = some d → i = j
  read : ∀ (i j : Nat) (oi oj : Oper) (t : Tmp), ops[i]? = some oi → ops[j]? = some oj → (t ∈ opTs oi ∨ gdst ops oi = some t) → oj.dst = some t → (j < i → dep oi j) ∧ (i < j → dep oj i)
  chain : ∀ (i j : Nat) (oj : Oper), isE i = true → isE j = true → ops[j]? = some oj → i < j → (∀ k, i < k → k < j → isE k = false) → ∃ n, depN ops n oj i
  stable : ∀ (i : Nat) (oi : Oper) (p : Nat), ops[i]? = some oi → isE i = false → wantsT ops (tms i) oi = true → (p = 0 ∨ ∃ e, p = e + 1 ∧ isE e = true) → p ≤ ops.size → (∀ j, isE j = true → dep oi j → j < p) →
    (∀ (e : Nat) (oe : Oper), isE e = true → e < p → ops[e]? = some oe → ¬ dep oe i) → aop P (Hs p) (ns p) (evR (opTs oi) (tms i)) oi = some (vs i, .none)
  inE : ∀ i, isE i = true → i < ops.size
variable {st : ASt} {tms : Nat → Nat → Value} {vs : Nat → Value} {Hs : Nat → Heap} {ns : Nat → Nat} {isE : Nat → Bool}
structure DInv (ops : Array Oper) (st : ASt) (vs : Nat → Value) (isE : Nat → Bool) (listed : Array Bool) (tm : Nat → Value) (p : Nat) : Prop where
  size : listed.size = ops.size
  down : ∀ (i : Nat) (o : Oper), ops[i]? = some o → listed.getD i false = true → ∀ j, dep o j → listed.getD j false = true
  pin : p = 0 ∨ ∃ e, p = e + 1 ∧ isE e = true
  ple : p ≤ ops.size
  pE : ∀ e, isE e = true → (listed.getD e false = true ↔ e < p)
  put : ∀ (i : Nat) (o : Oper) (d : Tmp), ops[i]? = some o → o.dst = some d → listed.getD i false = true → tm d = vs i
  old : ∀ t, (∀ (i : Nat) (o : Oper), ops[i]? = some o → o.dst = some t → listed.getD i false = false) → tm t = st.tm t
theorem Drawn.tms_put (h : Drawn P W0 ops st tms vs Hs ns isE) : ∀ i, i ≤ ops.size → (∀ (j : Nat) (o : Oper) (d : Tmp), j < i → ops[j]? = some o → o.dst = some d → tms i d = vs j) ∧ (∀ t, (∀ (j : Nat) (o : Oper), j < i → ops[j]? = some o → o.dst ≠ some t) → tms i t = st.tm t) := by
  intro i
  induction i with
  | zero => exact fun _ => ⟨fun j o d hj => by omega, fun t _ => by rw [h.t0]⟩
  | succ i ih =>
    intro hi
    obtain ⟨h1, h2⟩ := ih (by omega)
    have ho : ops[i]? = some ops[i] := by simp
    have ht := h.tstep i _ ho
    refine ⟨fun j o d hj hoj hd => ?_, fun t hn => ?_⟩
    · rw [ht]
      by_cases e : j = i
      · subst e
        rw [ho] at hoj
        cases hoj
        simp [tmPut, hd]
      · have hne : ops[i].dst ≠ some d := fun x => e (h.one _ _ _ _ d hoj ho hd x)
        have := h1 j o d (by omega) hoj hd
        cases hdi : ops[i].dst with
        | none => simpa [tmPut] using this
        | some d' =>
          have : d ≠ d' := fun x => hne (by rw [hdi, x])
          simp only [tmPut, this, if_false]
          exact h1 j o d (by omega) hoj hd
    · rw [ht]
      have hne := hn i _ (by omega) ho
      have := h2 t (fun j o hj hoj => hn j o (by omega) hoj)
      cases hdi : ops[i].dst with
      | none => simpa [tmPut] using this
      | some d' =>
        have hx : t ≠ d' := fun x => hne (by rw [hdi, x])
        simp only [tmPut, hx, if_false]
        exact this
theorem Drawn.reads (h : Drawn P W0 ops st tms vs Hs ns isE) {listed : Array Bool} {tm : Nat → Value} {p : Nat} (hi : DInv ops st vs isE listed tm p) {i : Nat} {o : Oper} (ho : ops[i]? = some o) (hun : listed.getD i false = false)
    (hall : ∀ j, dep o j → listed.getD j false = true) {t : Nat} (ht : t ∈ opTs o ∨ gdst ops o = some t) : tms i t = tm t := by
  have hlt : i < ops.size := (Array.getElem?_eq_some_iff.1 ho).1
  obtain ⟨h1, h2⟩ := h.tms_put i (by omega)
  by_cases hw : ∃ (j : Nat) (oj : Oper), ops[j]? = some oj ∧ oj.dst = some t
  · obtain ⟨j, oj, hj, hd⟩ := hw
    obtain ⟨r1, r2⟩ := h.read i j o oj t ho hj ht hd
    by_cases hji : j < i
    · rw [h1 j oj t hji hj hd, hi.put j oj t hj hd (hall j (r1 hji))]
    · have hnl : listed.getD j false = false := by
        by_cases e : j = i
        · subst e; exact hun
        · have hdep := r2 (by omega)
          cases hl : listed.getD j false with
          | false => rfl
          | true => have := hi.down j oj hj hl i hdep; rw [hun] at this; cases this
      rw [h2 t (fun k ok hk hok hdk => by have := h.one k j ok oj t hok hj hdk hd; omega)]
      exact (hi.old t (fun k ok hok hdk => by rw [h.one k j ok oj t hok hj hdk hd]; exact hnl)).symm
  · rw [h2 t (fun j oj hj hoj hd => hw ⟨j, oj, hoj, hd⟩), hi.old t (fun j oj hj hd => absurd ⟨j, oj, hj, hd⟩ hw)]
theorem still_range (h : Drawn P W0 ops st tms vs Hs ns isE) : ∀ (k p : Nat), (∀ j, p ≤ j → j < p + k → isE j = false) → Hs (p + k) = Hs p ∧ ns (p + k) = ns p := by
  intro k
  induction k with
  | zero => intro p _; exact ⟨rfl, rfl⟩
  | succ k ih =>
    intro p hp
    obtain ⟨a, b⟩ := ih p (fun j h1 h2 => hp j h1 (by omega))
    obtain ⟨c, d⟩ := h.still (p + k) (hp (p + k) (by omega) (by omega))
    exact ⟨by rw [← Nat.add_assoc, c, a], by rw [← Nat.add_assoc, d, b]⟩
theorem getD_set_self {listed : Array Bool} {i : Nat} (h : i < listed.size) (d : Bool) : (listed.setIfInBounds i true).getD i d = true := by
  rw [Array.getD_eq_getD_getElem?, Array.getElem?_setIfInBounds_self_of_lt h]; rfl
theorem getD_lt {listed : Array Bool} {i : Nat} (h : i < listed.size) (d e : Bool) : listed.getD i d = listed.getD i e := by
  rw [Array.getD_eq_getD_getElem?, Array.getD_eq_getD_getElem?, Array.getElem?_eq_getElem h]; rfl
theorem drawn_any (h : Drawn P W0 ops st tms vs Hs ns isE) {ρ : Option Nat} {C0 : Corr} {df : List Deferred} {Q : Exit → Act → World → Prop}
    (hq : ∀ C a w, SRel W0 C ⟨tms ops.size, st.n, Hs ops.size, ns ops.size⟩ a w → Stp st.nx st.H C0 (ns ops.size) (Hs ops.size) C → a.defers = df → Q .normal a w) :
    ∀ (fuel : Nat) (listed : Array Bool) (tm : Nat → Value) (p : Nat) (C : Corr) (a : Act) (w : World), DInv ops st vs isE listed tm p → ((List.range ops.size).filter fun i => !listed.getD i false).length = fuel →
      SRel W0 C ⟨tm, st.n, Hs p, ns p⟩ a w → Stp st.nx st.H C0 (ns p) (Hs p) C → a.defers = df → wpAnyIn (rf ρ) 0 P .any ops Q fuel listed a w := by
  intro fuel
  induction fuel with
  | zero =>
    intro listed tm p C a w hi hf hs hS hdf
    have hall : ∀ i, i < ops.size → listed.getD i false = true := by
      intro i hlt
      cases hl : listed.getD i false with
      | true => rfl
      | false =>
        have : i ∈ (List.range ops.size).filter fun i => !listed.getD i false := List.mem_filter.2 ⟨List.mem_range.2 hlt, by rw [hl]; rfl⟩
        rw [List.length_eq_zero_iff.1 hf] at this
        cases this
    refine ⟨?_, ?_⟩
    · cases hr : Region.ready .any ops listed with
      | nil => rfl
      | cons j r =>
        have hj : j ∈ Region.ready .any ops listed := by rw [hr]; exact List.mem_cons_self ..
        obtain ⟨h0, o, ho, _⟩ := mem_ready.1 hj
        have hlt : j < ops.size := (Array.getElem?_eq_some_iff.1 ho).1
        have := hall j hlt
        rw [getD_lt (by rw [hi.size]; exact hlt) false true, h0] at this
        cases this
    · have hp : ∀ e, isE e = true → e < p := fun e he => (hi.pE e he).1 (hall e (h.inE e he))
      have hple := hi.ple
      obtain ⟨k, hk⟩ : ∃ k, ops.size = p + k := ⟨ops.size - p, by omega⟩
      obtain ⟨e1, e2⟩ := still_range h k p (fun j h1 h2 => by
        cases hj : isE j with
        | false => rfl
        | true => have := hp j hj; omega)
      rw [← hk] at e1 e2
      have htm : tm = tms ops.size := by
        funext t
        obtain ⟨q1, q2⟩ := h.tms_put ops.size (Nat.le_refl _)
        by_cases hw : ∃ (j : Nat) (oj : Oper), ops[j]? = some oj ∧ oj.dst = some t
        · obtain ⟨j, oj, hj, hd⟩ := hw
          have hlt : j < ops.size := (Array.getElem?_eq_some_iff.1 hj).1
          rw [q1 j oj t hlt hj hd, hi.put j oj t hj hd (hall j hlt)]
        · rw [q2 t (fun j oj _ hoj hd => hw ⟨j, oj, hoj, hd⟩), hi.old t (fun j oj hj hd => absurd ⟨j, oj, hj, hd⟩ hw)]
      refine hq C a w ?_ ?_ hdf
      · rw [e1, e2, ← htm]; exact hs
      · rw [e1, e2]; exact hS
  | succ fuel ih =>
    intro listed tm p C a w hi hf hs hS hdf
    refine ⟨?_, ?_⟩
    · -- one is ready
      intro hr
      exfalso
      -- the least that has not come up
      have hex : ∃ i, i < ops.size ∧ listed.getD i false = false ∧ ∀ j, j < i → listed.getD j false = true := by
        have : ∃ i, i < ops.size ∧ listed.getD i false = false := by
          cases hl : (List.range ops.size).filter fun i => !listed.getD i false with
          | nil => rw [hl] at hf; simp at hf
          | cons i r =>
            have : i ∈ (List.range ops.size).filter fun i => !listed.getD i false := by rw [hl]; exact List.mem_cons_self ..
            obtain ⟨h1, h2⟩ := List.mem_filter.1 this
            exact ⟨i, List.mem_range.1 h1, by simpa using h2⟩
        obtain ⟨i, h1, h2⟩ := this
        induction i using Nat.strongRecOn with
        | _ i ihh =>
          by_cases hm : ∃ j, j < i ∧ listed.getD j false = false
          · obtain ⟨j, hj1, hj2⟩ := hm
            exact ihh j hj1 (by omega) hj2
          · refine ⟨i, h1, h2, fun j hj => ?_⟩
            cases hl : listed.getD j false with
            | true => rfl
            | false => exact absurd ⟨j, hj, hl⟩ hm
      obtain ⟨i, hlt, hun, hmin⟩ := hex
      have ho : ops[i]? = some ops[i] := by simp
      have : i ∈ Region.ready .any ops listed := mem_ready.2 ⟨by rw [getD_lt (by rw [hi.size]; exact hlt) true false]; exact hun, _, ho, fun e he hb => hmin _ (h.lex i _ ho e.on ⟨e, he, hb, rfl⟩)⟩
      rw [hr] at this
      cases this
    · intro i hir
      obtain ⟨h0, o, ho, hall0⟩ := mem_ready.1 hir
      have hlt : i < ops.size := (Array.getElem?_eq_some_iff.1 ho).1
      have hlts : i < listed.size := by rw [hi.size]; exact hlt
      have hun : listed.getD i false = false := by rw [getD_lt hlts false true]; exact h0
      have hall : ∀ j, dep o j → listed.getD j false = true := fun j ⟨e, he, hb, hj⟩ => hj ▸ hall0 e he hb
      have hrd := fun t ht => h.reads hi ho hun hall (t := t) ht
      have hcount : ((List.range ops.size).filter fun j => !(listed.setIfInBounds i true).getD j false).length = fuel := by
        have key : ∀ (l : List Nat), l.Nodup → i ∈ l → ((l.filter fun j => !(listed.setIfInBounds i true).getD j false).length + 1 = (l.filter fun j => !listed.getD j false).length) := by
          intro l
          induction l with
          | nil => intro _ hm; cases hm
          | cons x l ihl =>
            intro hnd hm
            rw [List.nodup_cons] at hnd
            by_cases e : x = i
            · subst e
              have hsame : (l.filter fun j => !(listed.setIfInBounds x true).getD j false) = (l.filter fun j => !listed.getD j false) := by
                apply List.filter_congr
                intro y hy
                rw [getD_set_ne false (fun z : x = y => hnd.1 (by rw [z]; exact hy))]
              rw [List.filter_cons, List.filter_cons]
              simp only [getD_set_self hlts, hun, Bool.not_true, Bool.not_false, Bool.false_eq_true, if_false, if_true, List.length_cons, hsame]
            · have hm' : i ∈ l := by
                cases hm with
                | head => exact absurd rfl e
                | tail _ hm => exact hm
              have := ihl hnd.2 hm'
              rw [List.filter_cons, List.filter_cons, getD_set_ne false (Ne.symm e)]
              split
              · simp only [List.length_cons]; omega
              · exact this
        have := key (List.range ops.size) List.nodup_range (List.mem_range.2 hlt)
        omega
      have hdown' : ∀ (k : Nat) (ok : Oper), ops[k]? = some ok → (listed.setIfInBounds i true).getD k false = true → ∀ j, dep ok j → (listed.setIfInBounds i true).getD j false = true := by
        intro k ok hok hk j hj
        apply getD_set_true
        by_cases e : i = k
        · subst e
          rw [ho] at hok
          cases hok
          exact hall j hj
        · rw [getD_set_ne false e] at hk
          exact hi.down k ok hok hk j hj
      have hput' : ∀ (k : Nat) (ok : Oper) (d : Tmp), ops[k]? = some ok → ok.dst = some d → (listed.setIfInBounds i true).getD k false = true → tmPut tm o.dst (vs i) d = vs k := by
        intro k ok d hok hd hk
        by_cases e : i = k
        · subst e
          rw [ho] at hok
          cases hok
          simp [tmPut, hd]
        · rw [getD_set_ne false e] at hk
          have := hi.put k ok d hok hd hk
          cases hdo : o.dst with
          | none => simpa [tmPut] using this
          | some d' =>
            have hne : d ≠ d' := fun x => e (h.one i k o ok d ho hok (by rw [hdo, x]) hd)
            simp only [tmPut, hne, if_false]
            exact this
      have hold' : ∀ t, (∀ (k : Nat) (ok : Oper), ops[k]? = some ok → ok.dst = some t → (listed.setIfInBounds i true).getD k false = false) → tmPut tm o.dst (vs i) t = st.tm t := by
        intro t ht
        have hne : o.dst ≠ some t := fun x => by
          have := ht i o ho x
          rw [getD_set_self hlts] at this
          cases this
        have := hi.old t (fun k ok hok hd => by
          have := ht k ok hok hd
          by_cases e : i = k
          · subst e; exact hun
          · rwa [getD_set_ne false e] at this)
        cases hdo : o.dst with
        | none => simpa [tmPut] using this
        | some d' =>
          have hx : t ≠ d' := fun x => hne (by rw [hdo, x])
          simp only [tmPut, hx, if_false]
          exact this
      cases hE : isE i with
      | false =>
        have hds : DStep P W0 ops tm st.n (Hs p) (ns p) o (vs i) (Hs p) (ns p) := by
          have hc := h.step i o ho
          have hw : wantsT ops (tms i) o = wantsT ops tm o := wantsT_congr (fun d hd => hrd d (.inr hd))
          refine ⟨hc.1, ?_⟩
          cases hwt : wantsT ops tm o with
          | false =>
            rcases hc.2 with ⟨_, x, _⟩ | ⟨x, _⟩
            · exact .inl ⟨rfl, x, rfl, rfl⟩
            · rw [hw, hwt] at x; cases x
          | true =>
            refine .inr ⟨rfl, .inl ⟨.none, ?_, rfl, rfl⟩⟩
            rw [← evR_congr (fun t ht => hrd t (.inl ht))]
            refine h.stable i o p ho hE (by rw [hw, hwt]) hi.pin hi.ple (fun j hj hd => (hi.pE j hj).1 (hall j hd)) ?_
            intro e oe he hep hoe hd
            have := hi.down e oe hoe ((hi.pE e he).2 hep) i hd
            rw [hun] at this
            cases this
        refine hds.wp hs ho ?_
        intro C' v' w' hs' hS'
        refine ih (listed.setIfInBounds i true) (tmPut tm o.dst (vs i)) p C' _ w' ⟨by simp [hi.size], hdown', hi.pin, hi.ple, ?_, hput', hold'⟩ hcount hs' (hS.trans hS') ((put_defers _ _ _).trans hdf)
        intro e he
        have hne : i ≠ e := fun x => by rw [x, he] at hE; cases hE
        rw [getD_set_ne false hne]
        exact hi.pE e he
      | true =>
        -- all that act ahead of it have come up, none behind it
        have hip : ¬ i < p := fun x => by
          have := (hi.pE i hE).2 x
          rw [hun] at this
          cases this
        have hbetween : ∀ j, p ≤ j → j < i → isE j = false := by
          intro j hpj hji
          cases hj : isE j with
          | false => rfl
          | true =>
            exfalso
            -- the last that acts ahead of i has come up
            have hlast : ∃ k, isE k = true ∧ j ≤ k ∧ k < i ∧ ∀ m, k < m → m < i → isE m = false := by
              have : ∀ d k, isE k = true → j ≤ k → k < i → i - k ≤ d → ∃ k, isE k = true ∧ j ≤ k ∧ k < i ∧ ∀ m, k < m → m < i → isE m = false := by
                intro d
                induction d with
                | zero => intro k _ _ hk hd; omega
                | succ d ihd =>
                  intro k hk1 hk2 hk3 hd
                  by_cases hm : ∃ m, k < m ∧ m < i ∧ isE m = true
                  · obtain ⟨m, m1, m2, m3⟩ := hm
                    exact ihd m m3 (by omega) m2 (by omega)
                  · refine ⟨k, hk1, hk2, hk3, fun m m1 m2 => ?_⟩
                    cases hm3 : isE m with
                    | false => rfl
                    | true => exact absurd ⟨m, m1, m2, hm3⟩ hm
              exact this (i - j) j hj (Nat.le_refl _) hji (Nat.le_refl _)
            obtain ⟨k, k1, k2, k3, k4⟩ := hlast
            obtain ⟨dn, hd⟩ := h.chain k i o k1 hE ho k3 k4
            have reach : ∀ (n : Nat) (o : Oper) (i : Nat), (∀ j, dep o j → listed.getD j false = true) → depN ops n o i → listed.getD i false = true := by
              intro n
              induction n with
              | zero => intro o i ha hd; exact ha i hd
              | succ n ihn =>
                intro o i ha hd
                rcases hd with hd | ⟨m, om, hom, hdm, hd⟩
                · exact ha i hd
                · exact ihn om i (fun j hj => hi.down m om hom (ha m hdm) j hj) hd
            have := (hi.pE k k1).1 (reach dn o k hall hd)
            omega
        obtain ⟨m, hm⟩ : ∃ m, i = p + m := ⟨i - p, by omega⟩
        obtain ⟨e1, e2⟩ := still_range h m p (fun j h1 h2 => hbetween j h1 (by omega))
        rw [← hm] at e1 e2
        have hds : DStep P W0 ops tm st.n (Hs p) (ns p) o (vs i) (Hs (i + 1)) (ns (i + 1)) := by
          rw [← e1, ← e2]
          exact (h.step i o ho).congr (fun t ht => hrd t (.inl ht)) (fun d hd => hrd d (.inr hd))
        refine hds.wp hs ho ?_
        intro C' v' w' hs' hS'
        refine ih (listed.setIfInBounds i true) (tmPut tm o.dst (vs i)) (i + 1) C' _ w' ⟨by simp [hi.size], hdown', .inr ⟨i, rfl, hE⟩, by omega, ?_, hput', hold'⟩ hcount hs' (hS.trans hS') ((put_defers _ _ _).trans hdf)
        intro e he
        by_cases x : i = e
        · subst x
          rw [getD_set_self hlts]
          simp
        · rw [getD_set_ne false x]
          constructor
          · intro hl; have := (hi.pE e he).1 hl; omega
          · intro hl
            by_cases hep : e < p
            · exact (hi.pE e he).2 hep
            · have := hbetween e (by omega) (by omega)
              rw [he] at this
              cases this
theorem Trip.drawn {id : Nat} {Q : AExit → ASt → Prop} (hm : P.follows .mixedOrders = true) (h : Drawn P W0 ops st tms vs Hs ns isE) (hq : Q .normal ⟨tms ops.size, st.n, Hs ops.size, ns ops.size⟩) : Trip P W0 (.region id ops true) st Q := by
  intro ρ C a w hr hs
  have hs' : SRel W0 C st a w.drew := ⟨hs.tm, hs.sz, hs.rel.drew⟩
  refine wpIn_region_any hm (drawn_any h (C0 := C) (df := a.defers) (fun C' a' w' hs' hS hdf => ⟨.normal, _, C', rfl, hq, hs', hS, rfl, .of_eq hdf⟩) ops.size (Array.replicate ops.size false) st.tm 0 C a _ ?_ ?_ ?_ ?_ rfl)
  · have hfalse : ∀ i, (Array.replicate ops.size false).getD i false = false := fun i => by
      rw [Array.getD_eq_getD_getElem?, Array.getElem?_replicate]; split <;> rfl
    exact ⟨by simp, fun i o _ hl => (by rw [hfalse] at hl; cases hl), .inl rfl, by omega, fun e _ => (by rw [hfalse]; simp), fun i o d _ _ hl => (by rw [hfalse] at hl; cases hl), fun t _ => rfl⟩
  · have hfalse : ∀ i, (Array.replicate ops.size false).getD i false = false := fun i => by
      rw [Array.getD_eq_getD_getElem?, Array.getElem?_replicate]; split <;> rfl
    have : ((List.range ops.size).filter fun i => !(Array.replicate ops.size false).getD i false) = List.range ops.size := by
      rw [List.filter_eq_self]
      intro i _
      rw [hfalse]; rfl
    rw [this, List.length_range]
  · rw [h.h0, h.n0]; exact hs'
  · rw [h.h0, h.n0]; exact Stp.refl _ _ _
end
end Go.Am
namespace Go.Am
open Go.RowKit
noncomputable section
structure CSt where
  tt : Tree Value
  n : Nat
  ht : Tree AObj
  nx : Nat
  asm : List (FuncId × List Value × Value)
def CSt.tm (s : CSt) (t : Nat) : Value := (s.tt.get t).getD undef
def CSt.st (s : CSt) : ASt := ⟨s.tm, s.n, s.ht.get, s.nx⟩
def Eff.tree (e : Eff) (nx : Nat) (t : Tree AObj) : Tree AObj :=
  match e with
  | .none => t
  | .new o => t.set nx o
  | .upd id o => t.set id o
  | .bump id o => t.set id o
theorem Eff.tree_get (e : Eff) (nx : Nat) (t : Tree AObj) : (e.tree nx t).get = e.H nx t.get := by
  funext m
  cases e <;> simp [Eff.tree, Eff.H, Tree.get_set, Heap.put]
def CSt.put (s : CSt) (dst : Option Tmp) (v : Value) (ht : Tree AObj) (nx : Nat) (asm : List (FuncId × List Value × Value)) : CSt :=
  match s with
  | ⟨tt, n, _, _, _⟩ => ⟨match dst with | some d => tt.set d v | none => tt, n, ht, nx, asm⟩
theorem CSt.put_st (s : CSt) (dst : Option Tmp) (v : Value) (ht : Tree AObj) (nx : Nat) (asm : List (FuncId × List Value × Value)) : (s.put dst v ht nx asm).st = ⟨tmPut s.st.tm dst v, s.n, ht.get, nx⟩ := by
  cases s
  cases dst with
  | none => rfl
  | some d =>
    simp only [CSt.put, CSt.st, tmPut]
    congr 1
    funext t
    simp only [CSt.tm, Tree.get_set]
    split <;> simp
inductive Job where
  | code (c : Code)
  | loop (c : Code)
  | scope (b c : Code)
  | ops (ops : Array Oper) (l : List Oper)
  | dops (ops : Array Oper) (l : List Oper)
  | call (f : FuncId) (args : List Value)
structure DTr where
  s : CSt
  v : Value
  e : Bool
structure Out where
  x : AExit
  v : Value
  s : CSt
  tr : List DTr
def argTree : List Value → Nat → Tree Value → Tree Value
  | [], _, t => t
  | v :: l, i, t => argTree l (i + 1) (t.set i v)
def aResult (P : Program) (st : ASt) : ResultVar → Option Value
  | .tmp t => some (st.tm t)
  | .cell a t =>
    match st.tm a with
    | .pointer (some a) => readAt P st.H t a
    | _ => none
def aResultL (P : Program) (st : ASt) : List ResultVar → Option (List Value)
  | [] => some []
  | r :: l =>
    match aResult P st r, aResultL P st l with
    | some v, some vs => some (v :: vs)
    | _, _ => none
def aResults (P : Program) (st : ASt) (rs : Array ResultVar) : Option Value :=
  match aResultL P st rs.toList with
  | some [v] => some v
  | some l => some (.tuple l.toArray)
  | none => none
def allIdx {α : Type} (f : Nat → α → Bool) : Nat → List α → Bool
  | _, [] => true
  | i, x :: l => f i x && allIdx f (i + 1) l
theorem allIdx_spec {α : Type} {f : Nat → α → Bool} : ∀ (l : List α) (k : Nat), allIdx f k l = true → ∀ i x, l[i]? = some x → f (k + i) x = true := by
  intro l
  induction l with
  | nil => intro k _ i x h; simp at h
  | cons y l ih =>
    intro k h i x hx
    simp only [allIdx, Bool.and_eq_true] at h
    cases i with
    | zero => simp only [List.getElem?_cons_zero, Option.some.injEq] at hx; subst hx; exact h.1
    | succ i =>
      have := ih (k + 1) h.2 i x (by simpa using hx)
      rwa [show k + 1 + i = k + (i + 1) by omega] at this
def depB (o : Oper) (j : Nat) : Bool := o.after.toList.any fun e => Region.binds .any e && e.on == j
theorem depB_iff {o : Oper} {j : Nat} : depB o j = true ↔ dep o j := by
  unfold depB dep
  rw [List.any_eq_true]
  constructor
  · rintro ⟨e, he, h⟩
    simp only [Bool.and_eq_true, beq_iff_eq] at h
    exact ⟨e, by simpa using he, h.1, h.2⟩
  · rintro ⟨e, he, h1, h2⟩
    exact ⟨e, by simpa using he, by simp [h1, h2]⟩
def statOk (ops : Array Oper) : Bool :=
  allIdx (fun i o => o.after.toList.all fun e => !Region.binds .any e || decide (e.on < i)) 0 ops.toList &&
  allIdx (fun i oi => allIdx (fun j oj => i == j || (match oi.dst, oj.dst with | some d, some d' => d != d' | _, _ => true)) 0 ops.toList) 0 ops.toList &&
  allIdx (fun i oi => allIdx (fun j oj => i == j || (match oj.dst with
    | some t => if (opTs oi).contains t || gdst ops oi == some t then (if j < i then depB oi j else depB oj i) else true
    | none => true)) 0 ops.toList) 0 ops.toList
theorem nbeq {a b : Nat} (h : Nat.beq a b = true) : a = b := Nat.eq_of_beq_eq_true h
def beqON : Option Nat → Option Nat → Bool
  | none, none => true
  | some a, some b => Nat.beq a b
  | _, _ => false
theorem beqON_spec {a b : Option Nat} (h : beqON a b = true) : a = b := by
  cases a <;> cases b <;> simp only [beqON] at h <;> first | rfl | (cases h; done) | rw [nbeq h]
def beqA (a b : Addr) : Bool := Nat.beq a.block b.block && Nat.beq a.off b.off && beqON a.spot b.spot
theorem beqA_spec {a b : Addr} (h : beqA a b = true) : a = b := by
  simp only [beqA, Bool.and_eq_true] at h
  obtain ⟨⟨h1, h2⟩, h3⟩ := h
  cases a
  cases b
  simp only at h1 h2 h3
  rw [nbeq h1, nbeq h2, beqON_spec h3]
def beqOA : Option Addr → Option Addr → Bool
  | none, none => true
  | some a, some b => beqA a b
  | _, _ => false
theorem beqOA_spec {a b : Option Addr} (h : beqOA a b = true) : a = b := by
  cases a <;> cases b <;> simp only [beqOA] at h <;> first | rfl | (cases h; done) | rw [beqA_spec h]
def beqI : Int → Int → Bool
  | .ofNat a, .ofNat b => Nat.beq a b
  | .negSucc a, .negSucc b => Nat.beq a b
  | _, _ => false
theorem beqI_spec {a b : Int} (h : beqI a b = true) : a = b := by
  cases a <;> cases b <;> simp only [beqI] at h <;> first | (cases h; done) | rw [nbeq h]
def veq1 : Value → Value → Bool
  | .bool a, .bool b => a == b
  | .int k a, .int k' b => decide (k = k') && beqI a b
  | .string a, .string b => a.data.toList == b.data.toList
  | .nilFunc, .nilFunc => true
  | .nilIface, .nilIface => true
  | .pointer a, .pointer b => beqOA a b
  | .slice a l c, .slice a' l' c' => beqOA a a' && Nat.beq l l' && Nat.beq c c'
  | .map a, .map b => beqON a b
  | .func (.func f) a b, .func (.func g) a' b' => Nat.beq f g && a.toList.isEmpty && a'.toList.isEmpty && b.toList.isEmpty && b'.toList.isEmpty
  | _, _ => false
def veqL : List Value → List Value → Bool
  | [], [] => true
  | a :: l, b :: l' => veq1 a b && veqL l l'
  | _, _ => false
def veqA : Value → Value → Bool
  | .agg a, .agg b => veqL a.toList b.toList
  | a, b => veq1 a b
def veqT : List Value → List Value → Bool
  | [], [] => true
  | a :: l, b :: l' => veqA a b && veqT l l'
  | _, _ => false
def veq : Value → Value → Bool
  | .agg a, .agg b => veqL a.toList b.toList
  | .tuple a, .tuple b => veqT a.toList b.toList
  | a, b => veq1 a b
theorem veq1_spec {a b : Value} (h : veq1 a b = true) : a = b := by
  unfold veq1 at h
  split at h
  case h_9 =>
    rename_i f a b g a' b'
    simp only [Bool.and_eq_true, List.isEmpty_iff] at h
    obtain ⟨⟨⟨⟨h0, h1⟩, h2⟩, h3⟩, h4⟩ := h
    obtain rfl := nbeq h0
    have e1 : a = #[] := by apply Array.ext'; simpa using h1
    have e2 : a' = #[] := by apply Array.ext'; simpa using h2
    have e3 : b = #[] := by apply Array.ext'; simpa using h3
    have e4 : b' = #[] := by apply Array.ext'; simpa using h4
    rw [e1, e2, e3, e4]
  case h_1 => rw [beq_iff_eq] at h; rw [h]
  case h_2 => simp only [Bool.and_eq_true, decide_eq_true_eq] at h; obtain ⟨rfl, h⟩ := h; rw [beqI_spec h]
  case h_3 x y =>
    rw [beq_iff_eq] at h
    obtain ⟨⟨x⟩⟩ := x
    obtain ⟨⟨y⟩⟩ := y
    simp only at h
    rw [h]
  case h_6 => rw [beqOA_spec h]
  case h_7 => simp only [Bool.and_eq_true] at h; obtain ⟨⟨h1, h2⟩, h3⟩ := h; rw [beqOA_spec h1, nbeq h2, nbeq h3]
  case h_8 => rw [beqON_spec h]
  case h_10 => cases h
  all_goals rfl
theorem veqL_spec : ∀ {a b : List Value}, veqL a b = true → a = b := by
  intro a
  induction a with
  | nil => intro b h; cases b with
    | nil => rfl
    | cons x y => simp [veqL] at h
  | cons x l ih =>
    intro b h
    cases b with
    | nil => simp [veqL] at h
    | cons y l' =>
      simp only [veqL, Bool.and_eq_true] at h
      rw [veq1_spec h.1, ih h.2]
theorem veqA_spec {a b : Value} (h : veqA a b = true) : a = b := by
  unfold veqA at h
  split at h
  · rename_i x y; have := veqL_spec h; obtain ⟨x⟩ := x; obtain ⟨y⟩ := y; simp only at this; rw [this]
  · exact veq1_spec h
theorem veqT_spec : ∀ {a b : List Value}, veqT a b = true → a = b := by
  intro a
  induction a with
  | nil => intro b h; cases b with
    | nil => rfl
    | cons x y => simp [veqT] at h
  | cons x l ih =>
    intro b h
    cases b with
    | nil => simp [veqT] at h
    | cons y l' =>
      simp only [veqT, Bool.and_eq_true] at h
      rw [veqA_spec h.1, ih h.2]
theorem veq_spec {a b : Value} (h : veq a b = true) : a = b := by
  unfold veq at h
  split at h
  · rename_i x y; have := veqL_spec h; obtain ⟨x⟩ := x; obtain ⟨y⟩ := y; simp only at this; rw [this]
  · rename_i x y; have := veqT_spec h; obtain ⟨x⟩ := x; obtain ⟨y⟩ := y; simp only at this; rw [this]
  · exact veq1_spec h
def sameAns (r : Option (Value × Eff)) (v : Value) : Bool :=
  match r with
  | some (u, .none) => veq u v
  | _ => false
theorem sameAns_spec {r : Option (Value × Eff)} {v : Value} (h : sameAns r v = true) : r = some (v, .none) := by
  unfold sameAns at h
  split at h
  · rw [veq_spec h]
  · cases h
def dynOk (P : Program) (ops : Array Oper) (tr : List DTr) (s' : CSt) : Bool :=
  let es := (tr.zipIdx.filter fun x => x.1.e).map (·.2)
  let at_ (p : Nat) : CSt := match tr[p]? with | some d => d.s | none => s'
  -- one behind the other
  allIdx (fun j oj => !es.contains j || es.all fun i => !(decide (i < j) && es.all fun k => !(decide (i < k) && decide (k < j))) || depB oj i) 0 ops.toList &&
  allIdx (fun i oi => match tr[i]? with
    | some d => d.e || !wantsT ops d.s.tm oi || (0 :: es.map (· + 1)).all fun p =>
        es.any (fun j => depB oi j && decide (p ≤ j)) || es.any (fun e => decide (e < p) && (match ops[e]? with | some oe => depB oe i | none => false)) ||
        sameAns (aop P (at_ p).ht.get (at_ p).nx (evR (opTs oi) d.s.tm) oi) d.v
    | none => false) 0 ops.toList
def Eff.isNone : Eff → Bool
  | .none => true
  | _ => false
def exec (P : Program) (xs : List Nat) (ov : FuncId → List Value → Option Value) : Nat → Job → CSt → Option Out
  | 0, _, _ => none
  | n + 1, job, s =>
    match job with
    | .code c =>
      match c with
      | .skip => some ⟨.normal, undef, s, []⟩
      | .label _ => some ⟨.normal, undef, s, []⟩
      | .exit id => some ⟨.exit id, undef, s, []⟩
      | .goto l => some ⟨.goto l, undef, s, []⟩
      | .ret => some ⟨.ret, undef, s, []⟩
      | .seq a b =>
        match exec P xs ov n (.code a) s with
        | some ⟨.normal, _, s', _⟩ => exec P xs ov n (.code b) s'
        | r => r
      | .cond c a b =>
        match s.st.ev c with
        | some (.bool true) => exec P xs ov n (.code a) s
        | some (.bool false) => exec P xs ov n (.code b) s
        | _ => none
      | .block id c =>
        match exec P xs ov n (.code c) s with
        | some ⟨.exit id', v, s', t⟩ => if id' = id then some ⟨.normal, v, s', t⟩ else some ⟨.exit id', v, s', t⟩
        | r => r
      | .loop c => exec P xs ov n (.loop c) s
      | .region _ ops draw =>
        if draw then
          if statOk ops then
            match exec P xs ov n (.dops ops ops.toList) s with
            | some ⟨_, _, s', tr⟩ => if dynOk P ops tr s' then some ⟨.normal, undef, s', []⟩ else none
            | none => none
          else none
        else exec P xs ov n (.ops ops ops.toList) s
      | .scope b => exec P xs ov n (.scope b b) s
      | _ => none
    | .loop c =>
      match exec P xs ov n (.code c) s with
      | some ⟨.normal, _, s', _⟩ => exec P xs ov n (.loop c) s'
      | r => r
    | .scope b c =>
      match exec P xs ov n (.code c) s with
      | some ⟨.goto l, v, s', t⟩ =>
        match findLabel b l with
        | some rest => exec P xs ov n (.scope b rest) s'
        | none => some ⟨.goto l, v, s', t⟩
      | r => r
    | .ops _ [] => some ⟨.normal, undef, s, []⟩
    | .ops ops (o :: l) =>
      if dstOk s.st o then
        if wants ops s.st o then
          match callee s.st o with
          | some (f, args) =>
            if xs.contains f then
              match args with
              | [x] => exec P xs ov n (.ops ops l) (s.put o.dst x s.ht s.nx s.asm)
              | _ => none
            else
              match exec P xs ov n (.call f args) s with
              | some ⟨_, v, s', _⟩ => exec P xs ov n (.ops ops l) (s.put o.dst v s'.ht s'.nx s'.asm)
              | none => none
          | none =>
            match aop P s.ht.get s.nx s.st.ev o with
            | some (v, e) => exec P xs ov n (.ops ops l) (s.put o.dst v (e.tree s.nx s.ht) (e.nx s.nx) s.asm)
            | none => none
        else exec P xs ov n (.ops ops l) (s.put o.dst undef s.ht s.nx s.asm)
      else none
    | .dops _ [] => some ⟨.normal, undef, s, []⟩
    | .dops ops (o :: l) =>
      if dstOk s.st o then
        if wantsT ops s.tm o then
          match calleeE (evR (opTs o) s.tm) o with
          | some (f, args) =>
            match exec P xs ov n (.call f args) s with
            | some ⟨_, v, s', _⟩ =>
              match exec P xs ov n (.dops ops l) (s.put o.dst v s'.ht s'.nx s'.asm) with
              | some ⟨x, u, s2, tr⟩ => some ⟨x, u, s2, ⟨s, v, true⟩ :: tr⟩
              | none => none
            | none => none
          | none =>
            match aop P s.ht.get s.nx (evR (opTs o) s.tm) o with
            | some (v, e) =>
              match exec P xs ov n (.dops ops l) (s.put o.dst v (e.tree s.nx s.ht) (e.nx s.nx) s.asm) with
              | some ⟨x, u, s2, tr⟩ => some ⟨x, u, s2, ⟨s, v, !e.isNone⟩ :: tr⟩
              | none => none
            | none => none
        else
          match exec P xs ov n (.dops ops l) (s.put o.dst undef s.ht s.nx s.asm) with
          | some ⟨x, u, s2, tr⟩ => some ⟨x, u, s2, ⟨s, undef, false⟩ :: tr⟩
          | none => none
      else none
    | .call f args =>
      match ov f args with
      | some v => some ⟨.ret, v, ⟨s.tt, s.n, s.ht, s.nx, (f, args, v) :: s.asm⟩, []⟩
      | none =>
      match P.funcs[f]? with
      | some fn =>
        match fn.body with
        | some c =>
          match exec P xs ov n (.code c) ⟨argTree args 0 .leaf, args.length + (fn.ntmps - args.length), s.ht, s.nx, s.asm⟩ with
          | some ⟨.normal, _, s', _⟩ => (aResults P s'.st fn.results).map fun v => ⟨.ret, v, s', []⟩
          | some ⟨.ret, _, s', _⟩ => (aResults P s'.st fn.results).map fun v => ⟨.ret, v, s', []⟩
          | _ => none
        | none => none
      | none => none
end
end Go.Am
namespace Go.Am
open Go.RowKit
noncomputable section
def IdExt (P : Program) (f : FuncId) : Prop := ∀ (x : Value) (w : World), (callFunc f #[x]).run P w = .ok (.value x) w
section
variable {P : Program} {W0 : World} {st : ASt}
theorem callee_ext {C : Corr} {a : Act} {w : World} (hs : SRel W0 C st a w) {o : Oper} {f : FuncId} {x : Value} (h : callee st o = some (f, [x])) (hf : IdExt P f) :
    ∃ x', (execOp a.eval o).run P w = .ok (.value x') w ∧ VR st.nx st.H C x x' := by
  unfold callee at h
  split at h
  · rename_i c ho
    split at h
    · rename_i y hc
      split at h
      · rename_i f' first captured l hx hl
        simp only [Option.some.injEq, Prod.mk.injEq] at h
        obtain ⟨rfl, hargs⟩ := h
        have hv := hs.ev y _ hx
        have ha := evAll_sound hs.ev _ _ hl
        generalize hu : a.eval y = u at hv
        cases hv with
        | func _ _ a' _ b' q1 q2 q3 q4 =>
        have hall := ((agg_VRs q1 q3).append ha).append (agg_VRs q2 q4)
        rw [hargs] at hall
        obtain ⟨x', r, hxr, hxx, hr⟩ := hall.uncons
        have : r = [] := by rw [← List.length_eq_zero_iff, ← hr.1]; rfl
        subst this
        refine ⟨x', ?_, hxx⟩
        have e : (a' ++ c.args.map a.eval) ++ b' = #[x'] := by
          apply Array.ext'
          rw [show [x'] = (#[x'] : Array Value).toList from rfl] at hxr
          simpa using hxr
        have := hf x' w
        simp only [execOp, ho, resolve, hc, Deferred.ofValue, hu, Sem.run_bind, Sem.run_pure, Result.andThen_ok, invoke]
        rw [e]
        exact this
      · cases h
    · cases h
  · cases h
def IdxExt (P : Program) (f : FuncId) : Prop := ∀ (s : ByteArray) (c : Int) (w : World), (callFunc f #[.string s, .int .u8 c]).run P w = .ok (.value (.int .i64 (Lib.indexByte s.data.toList c.toNat.toUInt8))) w
def idxV (args : List Value) : Option Value :=
  match args with
  | [.string s, .int .u8 c] => some (.int .i64 (Lib.indexByte s.data.toList c.toNat.toUInt8))
  | _ => none
theorem callee_idx {C : Corr} {a : Act} {w : World} (hs : SRel W0 C st a w) {o : Oper} {f : FuncId} {args : List Value} {x : Value} (h : callee st o = some (f, args)) (hx : idxV args = some x) (hf : IdxExt P f) :
    (execOp a.eval o).run P w = .ok (.value x) w ∧ VR st.nx st.H C x x := by
  have key : ∃ s c, args = [.string s, .int .u8 c] ∧ x = .int .i64 (Lib.indexByte s.data.toList c.toNat.toUInt8) := by
    unfold idxV at hx
    split at hx
    · cases hx; exact ⟨_, _, rfl, rfl⟩
    · cases hx
  obtain ⟨s, c, rfl, rfl⟩ := key
  refine ⟨?_, .int _ _⟩
  unfold callee at h
  split at h
  · rename_i cc ho
    split at h
    · rename_i y hc
      split at h
      · rename_i f' first captured l hxx hl
        simp only [Option.some.injEq, Prod.mk.injEq] at h
        obtain ⟨rfl, hargs⟩ := h
        have hv := hs.ev y _ hxx
        have ha := evAll_sound hs.ev _ _ hl
        generalize hu : a.eval y = u at hv
        cases hv with
        | func _ _ a' _ b' q1 q2 q3 q4 =>
        have hall := ((agg_VRs q1 q3).append ha).append (agg_VRs q2 q4)
        rw [hargs] at hall
        obtain ⟨x1, r1, hx1, hxx1, hr1⟩ := hall.uncons
        obtain ⟨x2, r2, hx2, hxx2, hr2⟩ := hr1.uncons
        have : r2 = [] := by rw [← List.length_eq_zero_iff, ← hr2.1]; rfl
        subst this
        subst hx2
        cases hxx1
        cases hxx2
        have e : (a' ++ cc.args.map a.eval) ++ b' = #[.string s, .int .u8 c] := by
          apply Array.ext'
          rw [show [Value.string s, Value.int .u8 c] = (#[Value.string s, Value.int .u8 c] : Array Value).toList from rfl] at hx1
          simpa using hx1
        have := hf s c w
        simp only [execOp, ho, resolve, hc, Deferred.ofValue, hu, Sem.run_bind, Sem.run_pure, Result.andThen_ok, invoke]
        rw [e]
        exact this
      · cases h
    · cases h
  · cases h
theorem Ops.idx {ops : Array Oper} {i : Nat} {l : List Nat} {o : Oper} {f : FuncId} {args : List Value} {x : Value} {Q : ASt → Prop} (ho : ops[i]? = some o) (hw : wants ops st o = true) (hd : dstOk st o = true)
    (hc : callee st o = some (f, args)) (hx : idxV args = some x) (hf : IdxExt P f) (h : Ops P W0 ops l (st.put o.dst x .none) Q) : Ops P W0 ops (i :: l) st Q := by
  intro ρ C a w hr hs
  simp only [wpOpsIn, ho, wants_sound hs ops o, hw, if_true]
  refine ⟨fun _ _ => trivial, ?_⟩
  obtain ⟨hrun, hvr⟩ := callee_idx hs hc hx hf
  rw [callee_semAt hc, hrun]
  have hs' := hs.put (dst := o.dst) (dstOk_spec hd) hs.rel (Stp.refl _ _ _) hvr
  have := h ρ C _ w hr hs'
  rw [put_defers] at this
  exact this
theorem Ops.ext {ops : Array Oper} {i : Nat} {l : List Nat} {o : Oper} {f : FuncId} {x : Value} {Q : ASt → Prop} (ho : ops[i]? = some o) (hw : wants ops st o = true) (hd : dstOk st o = true)
    (hc : callee st o = some (f, [x])) (hf : IdExt P f) (h : Ops P W0 ops l (st.put o.dst x .none) Q) : Ops P W0 ops (i :: l) st Q := by
  intro ρ C a w hr hs
  simp only [wpOpsIn, ho, wants_sound hs ops o, hw, if_true]
  refine ⟨fun _ _ => trivial, ?_⟩
  obtain ⟨x', hrun, hx⟩ := callee_ext hs hc hf
  rw [callee_semAt hc, hrun]
  have hs' := hs.put (dst := o.dst) (dstOk_spec hd) hs.rel (Stp.refl _ _ _) hx
  have := h ρ C _ w hr hs'
  rw [put_defers] at this
  exact this
theorem argTree_get : ∀ (l : List Value) (i : Nat) (t : Tree Value) (m : Nat), (argTree l i t).get m = if i ≤ m ∧ m < i + l.length then l[m - i]? else t.get m := by
  intro l
  induction l with
  | nil => intro i t m; simp [argTree]; omega
  | cons v l ih =>
    intro i t m
    rw [argTree, ih, Tree.get_set]
    by_cases c1 : i + 1 ≤ m ∧ m < i + 1 + l.length
    · rw [if_pos c1, if_pos (by simp only [List.length_cons]; omega)]
      have : m - i = (m - (i + 1)) + 1 := by omega
      rw [this, List.getElem?_cons_succ]
    · rw [if_neg c1]
      by_cases c2 : m = i
      · subst c2
        rw [if_pos rfl, if_pos (by simp only [List.length_cons]; omega)]
        simp
      · rw [if_neg c2, if_neg (by simp only [List.length_cons]; omega)]
def resVal (tmps : Array Value) (r : ResultVar) : Sem Value :=
  match r with
  | .tmp t => pure (tmps.getD t undef)
  | .cell a t => do loadVar t (← asAddr (tmps.getD a undef))
theorem results_eq (fn : Func) (tmps : Array Value) : results fn tmps = (do
    let vs ← fn.results.mapM (resVal tmps)
    pure (if h : vs.size = 1 then vs[0] else .tuple vs)) := rfl
theorem aResult_sound {C : Corr} {a : Act} {w : World} (hs : SRel W0 C st a w) {r : ResultVar} {v : Value} (h : aResult P st r = some v) :
    ∃ v', (resVal a.tmps r).run P w = .ok v' w ∧ VR st.nx st.H C v v' := by
  cases r with
  | tmp t =>
    simp only [aResult, Option.some.injEq] at h
    subst h
    exact ⟨_, rfl, hs.tm t⟩
  | cell x t =>
    simp only [aResult] at h
    split at h
    · rename_i p hp
      have := hs.tm x
      rw [hp] at this
      unfold resVal
      simp only
      generalize a.tmps.getD x undef = y at this ⊢
      cases this with
      | ptr _ b k1 k2 =>
      obtain rfl := k2 (readAt_live h)
      obtain ⟨v', e, hv⟩ := readAt_sound (P := P) hs.rel h
      exact ⟨v', by simpa [asAddr] using e, hv⟩
    · cases h
theorem aResultL_sound {C : Corr} {a : Act} {w : World} (hs : SRel W0 C st a w) : ∀ (l : List ResultVar) (vs : List Value), aResultL P st l = some vs → ∃ vs', (l.mapM (resVal a.tmps)).run P w = .ok vs' w ∧ VRs st.nx st.H C vs vs' := by
  intro l
  induction l with
  | nil => intro vs h; simp only [aResultL, Option.some.injEq] at h; subst h; exact ⟨[], by simp, VRs.nil⟩
  | cons r l ih =>
    intro vs h
    simp only [aResultL] at h
    split at h
    · rename_i u us hu hus
      simp only [Option.some.injEq] at h
      subst h
      obtain ⟨u', e1, e2⟩ := aResult_sound hs hu
      obtain ⟨us', f1, f2⟩ := ih us hus
      refine ⟨u' :: us', ?_, VRs.cons e2 f2⟩
      simp only [List.mapM_cons, Sem.run_bind, e1, Result.andThen_ok, f1, Sem.run_pure]
    · cases h
theorem aResults_sound {C : Corr} {a : Act} {w : World} (hs : SRel W0 C st a w) {fn : Func} {v : Value} (h : aResults P st fn.results = some v) :
    ∃ v', (results fn a.tmps).run P w = .ok v' w ∧ VR st.nx st.H C v v' := by
  unfold aResults at h
  have hres : ∀ vs', (fn.results.toList.mapM (resVal a.tmps)).run P w = .ok vs' w →
      (results fn a.tmps).run P w = .ok (if h : vs'.toArray.size = 1 then vs'.toArray[0] else .tuple vs'.toArray) w := by
    intro vs' hvs
    rw [results_eq, Array.mapM_eq_mapM_toList]
    simp only [Sem.run_bind, Sem.run_map, hvs, Result.andThen_ok, Sem.run_pure]
  split at h
  · rename_i u hu
    simp only [Option.some.injEq] at h
    subst h
    obtain ⟨vs', e1, e2⟩ := aResultL_sound hs _ _ hu
    obtain ⟨u', r, rfl, hx, hr⟩ := e2.uncons
    have : r = [] := by rw [← List.length_eq_zero_iff, ← hr.1]; rfl
    subst this
    exact ⟨u', by rw [hres _ e1]; rfl, hx⟩
  · rename_i l hne hl
    simp only [Option.some.injEq] at h
    subst h
    obtain ⟨vs', e1, e2⟩ := aResultL_sound hs _ _ hl
    refine ⟨.tuple vs'.toArray, ?_, e2.tuple⟩
    rw [hres _ e1, dif_neg]
    intro hsz
    have : l.length = 1 := by rw [e2.1]; simpa using hsz
    obtain ⟨u, rfl⟩ := List.length_eq_one_iff.1 this
    exact hne u rfl
  · cases h
theorem leave_marks {fn : Func} {tmps : Array Value} {R : Ending → World → Prop} {nx : Nat} {H : Heap} {p0 : Nat → Option Obj} : ∀ (ds : List Nat) (C : Corr) (w : World), ds.Nodup → (∀ D ∈ ds, p0 D = none ∧ C.pin D = some (.deferred (some []))) →
    (∀ k o, p0 k = some o → C.pin k = some o) → Rel W0 C nx H w → (∀ w', Rel W0 (C.re p0) nx H w' → LeavesIn Fence.wide 0 P fn tmps R [] .returning w') → LeavesInM Fence.wide 0 P fn tmps R (ds.map mark) .returning w := by
  intro ds
  induction ds with
  | nil => intro C w _ _ hp hR hfin; exact hfin w (hR.pinLess hp)
  | cons D ds ih =>
    intro C w hnd hD hp hR hfin
    obtain ⟨h1, h2⟩ := hD D (List.mem_cons_self ..)
    obtain ⟨h3, h4⟩ := hR.pin D _ h2
    have hlt : D < w.heap.size := (Array.getElem?_eq_some_iff.1 h4).1
    have hne : ∀ k, k ≠ D → (w.heap.setIfInBounds D (.deferred none))[k]? = w.heap[k]? := fun k hk => Array.getElem?_setIfInBounds_ne (Ne.symm hk)
    refine ⟨by simp, .inl ⟨D, { w with heap := w.heap.setIfInBounds D (.deferred none) }, rfl, ?_, ?_⟩⟩
    · simp [Instr.takeDeferred, Sem.run_bind, getObj, setObj, Sem.run, h4, Result.andThen]
    · have hR' : Rel W0 (C.re fun k => if k = D then none else C.pin k) nx H { w with heap := w.heap.setIfInBounds D (.deferred none) } := by
        refine hR.unpin h2 (fun id o ho e => ?_) (hR.below.trans ⟨rfl, rfl, rfl, by simp, fun k hk => hne k (by omega), Nat.le_refl _⟩) hne
        have hob := hR.obj id o ho
        cases o with
        | cells c e2 t ro q => obtain ⟨_, _, _, hh, _⟩ := hob; rw [e, h4] at hh; cases hh
        | map es bs ck => obtain ⟨_, hh, _⟩ := hob; rw [e, h4] at hh; cases hh
        | miter m a b c => obtain ⟨_, hh, _⟩ := hob; rw [e, h4] at hh; cases hh
        | loop a b c d e2 f g => obtain ⟨_, hh, _⟩ := hob; rw [e, h4] at hh; cases hh
        | siter s p => have hh := hob.1; rw [e, h4] at hh; cases hh
      rw [List.nodup_cons] at hnd
      refine ih _ _ hnd.2 (fun D' hD' => ?_) (fun k o hk => ?_) hR' hfin
      · have hx := hD D' (List.mem_cons_of_mem _ hD')
        have : D' ≠ D := fun e => hnd.1 (e ▸ hD')
        exact ⟨hx.1, by simp only [Corr.re, this, if_false]; exact hx.2⟩
      · have : k ≠ D := fun e => by rw [e, h1] at hk; cases hk
        simp only [Corr.re, this, if_false]
        exact hp k o hk
theorem ACalls.of_trip {f : FuncId} {fn : Func} {c : Code} {args : List Value} {nx : Nat} {H : Heap} {R : Value → Nat → Heap → Prop} (hf : P.funcs[f]? = some fn) (hb : fn.body = some c) {tm : Nat → Value} (htm : ∀ t, tm t = (args[t]?).getD undef)
    (h : Trip P W0 c ⟨tm, args.length + (fn.ntmps - args.length), H, nx⟩ fun x s => (x = .normal ∨ x = .ret) ∧ ∃ v, aResults P s fn.results = some v ∧ R v s.nx s.H) : ACalls P W0 f args nx H R := by
  intro C w args' hR ha
  refine callsIn_wide.1 (callsIn_of_wp_marks (n := 0) hf hb trivial ?_ rfl)
  have hs : SRel W0 C ⟨tm, args.length + (fn.ntmps - args.length), H, nx⟩ { tmps := args'.toArray ++ Array.replicate (fn.ntmps - args'.toArray.size) undef, defers := [] } w := by
    refine ⟨fun t => ?_, by simp [ha.1], hR⟩
    show VR nx H C (tm t) _
    rw [htm, Array.getD_eq_getD_getElem?]
    by_cases h1 : t < args.length
    · have h2 : t < args'.length := by rw [← ha.1]; exact h1
      rw [Array.getElem?_append_left (by simpa using h2)]
      simp only [List.getElem?_toArray, List.getElem?_eq_getElem h1, List.getElem?_eq_getElem h2, Option.getD_some]
      exact ha.2 t h1 h2
    · rw [List.getElem?_eq_none (by omega), Array.getElem?_append_right (by simp; rw [← ha.1]; omega)]
      simp only [Option.getD_none]
      rw [Array.getElem?_replicate]
      split <;> exact undef_VR
  have hw : c.wpIn Fence.wide 0 P _ _ w := h none C _ w (fun c hc => by cases hc) hs
  refine wpIn_mono hw ?_
  rintro e a' w' ⟨x, s, C', rfl, ⟨hx, v, hv, hr⟩, hs', hS, hn, ds, hds, hnd, hD⟩
  have hS' : Stp nx H C s.nx s.H (C'.re C.pin) := ⟨⟨hS.le, hS.keep⟩, fun _ _ x => x, hS.fix⟩
  have hpost : LeavesInM Fence.wide 0 P fn a'.tmps (fun e w' => ∃ v v' C' nx' H', e = .returned v' ∧ R v nx' H' ∧ Rel W0 C' nx' H' w' ∧ VR nx' H' C' v v' ∧ Stp nx H C nx' H' C') a'.defers .returning w' := by
    have hds' : a'.defers = ds.map mark := by rw [hds]; simp
    rw [hds']
    refine leave_marks ds C' w' hnd hD hS.pin hs'.rel fun w2 hR2 => ?_
    have hs2 : SRel W0 (C'.re C.pin) s a' w2 := ⟨fun t => (hs'.tm t).mono0 (Stp0.re _ _ _ _), hs'.sz, hR2⟩
    obtain ⟨v', e1, e2⟩ := aResults_sound hs2 hv
    exact ⟨v', e1, v, v', _, s.nx, s.H, rfl, hr, hR2, e2, hS'⟩
  rcases hx with rfl | rfl
  · exact hpost
  · exact hpost
end
section
variable {P : Program} {W0 : World} {ops : Array Oper}
def TrOk (P : Program) (W0 : World) (ops : Array Oper) : List Oper → CSt → List DTr → CSt → Prop
  | [], s, [], s' => s' = s
  | o :: l, s, d :: tr, s' => d.s = s ∧ ∃ s1 : CSt, s1 = s.put o.dst d.v s1.ht s1.nx s1.asm ∧ DStep P W0 ops s.tm s.n s.ht.get s.nx o d.v s1.ht.get s1.nx ∧ (d.e = false → s1.ht.get = s.ht.get ∧ s1.nx = s.nx) ∧ TrOk P W0 ops l s1 tr s'
  | _, _, _, _ => False
def trAt (tr : List DTr) (s' : CSt) (p : Nat) : CSt := match tr[p]? with | some d => d.s | none => s'
theorem TrOk.len : ∀ {l : List Oper} {s : CSt} {tr : List DTr} {s' : CSt}, TrOk P W0 ops l s tr s' → tr.length = l.length := by
  intro l
  induction l with
  | nil => intro s tr s' h; cases tr with
    | nil => rfl
    | cons d tr => exact h.elim
  | cons o l ih =>
    intro s tr s' h
    cases tr with
    | nil => exact h.elim
    | cons d tr => obtain ⟨_, s1, _, _, _, h⟩ := h; simp [ih h]
theorem TrOk.at : ∀ {l : List Oper} {s : CSt} {tr : List DTr} {s' : CSt}, TrOk P W0 ops l s tr s' → trAt tr s' 0 = s ∧ trAt tr s' l.length = s' ∧ (trAt tr s' l.length).n = s.n ∧ ∀ (i : Nat) (o : Oper), l[i]? = some o → ∃ d, tr[i]? = some d ∧ d.s = trAt tr s' i ∧
    (trAt tr s' (i + 1)).tm = tmPut (trAt tr s' i).tm o.dst d.v ∧ (trAt tr s' i).n = s.n ∧ DStep P W0 ops (trAt tr s' i).tm s.n (trAt tr s' i).ht.get (trAt tr s' i).nx o d.v (trAt tr s' (i + 1)).ht.get (trAt tr s' (i + 1)).nx ∧
    (d.e = false → (trAt tr s' (i + 1)).ht.get = (trAt tr s' i).ht.get ∧ (trAt tr s' (i + 1)).nx = (trAt tr s' i).nx) := by
  intro l
  induction l with
  | nil => intro s tr s' h; cases tr with
    | nil => cases h; exact ⟨rfl, rfl, rfl, fun i o ho => by simp at ho⟩
    | cons d tr => exact h.elim
  | cons o l ih =>
    intro s tr s' h
    cases tr with
    | nil => exact h.elim
    | cons d tr =>
      obtain ⟨hd, s1, h1, h2, h3, h4⟩ := h
      obtain ⟨i1, i2, i3, i4⟩ := ih h4
      have hn1 : s1.n = s.n := by rw [h1]; rfl
      have hsucc : ∀ i, trAt (d :: tr) s' (i + 1) = trAt tr s' i := fun i => by simp [trAt]
      have hzero : trAt (d :: tr) s' 0 = s := by simp [trAt, hd]
      refine ⟨hzero, ?_, ?_, ?_⟩
      · rw [List.length_cons, hsucc]; exact i2
      · rw [List.length_cons, hsucc, i3, hn1]
      · intro i o' ho'
        cases i with
        | zero =>
          simp only [List.getElem?_cons_zero, Option.some.injEq] at ho'
          subst ho'
          refine ⟨d, rfl, by rw [hzero, hd], ?_, by rw [hzero], ?_, ?_⟩
          · rw [hsucc, i1, hzero]
            have : s1.st = (s.put o.dst d.v s1.ht s1.nx s1.asm).st := by rw [← h1]
            rw [CSt.put_st] at this
            exact congrArg ASt.tm this
          · rw [hsucc, i1, hzero]; exact h2
          · rw [hsucc, i1, hzero]; exact h3
        | succ i =>
          obtain ⟨d', g1, g2, g3, g4, g5, g6⟩ := i4 i o' (by simpa using ho')
          refine ⟨d', by simpa using g1, by rw [hsucc]; exact g2, ?_, ?_, ?_, ?_⟩
          · rw [hsucc, hsucc]; exact g3
          · rw [hsucc, g4, hn1]
          · rw [hsucc, hsucc, ← hn1]; exact g5
          · rw [hsucc, hsucc]; exact g6
theorem statOk_spec (h : statOk ops = true) :
    (∀ (i : Nat) (o : Oper), ops[i]? = some o → ∀ j, dep o j → j < i) ∧
    (∀ (i j : Nat) (oi oj : Oper) (d : Tmp), ops[i]? = some oi → ops[j]? = some oj → oi.dst = some d → oj.dst = some d → i = j) ∧
    (∀ (i j : Nat) (oi oj : Oper) (t : Tmp), ops[i]? = some oi → ops[j]? = some oj → (t ∈ opTs oi ∨ gdst ops oi = some t) → oj.dst = some t → (j < i → dep oi j) ∧ (i < j → dep oj i)) := by
  unfold statOk at h
  simp only [Bool.and_eq_true] at h
  obtain ⟨⟨h1, h2⟩, h3⟩ := h
  have toL : ∀ (i : Nat) (o : Oper), ops[i]? = some o → ops.toList[i]? = some o := fun i o ho => by simpa using ho
  refine ⟨?_, ?_, ?_⟩
  · rintro i o ho j ⟨e, he, hb, rfl⟩
    have := allIdx_spec _ 0 h1 i o (toL i o ho)
    rw [List.all_eq_true] at this
    have := this e (by simpa using he)
    simp only [hb, Bool.not_true, Bool.false_or, decide_eq_true_eq] at this
    omega
  · intro i j oi oj d hi hj hdi hdj
    have := allIdx_spec _ 0 h2 i oi (toL i oi hi)
    have := allIdx_spec _ 0 this j oj (toL j oj hj)
    simp only [hdi, hdj, Bool.or_eq_true, beq_iff_eq, bne_self_eq_false, Bool.false_eq_true, or_false] at this
    omega
  · intro i j oi oj t hi hj ht hd
    have := allIdx_spec _ 0 h3 i oi (toL i oi hi)
    have := allIdx_spec _ 0 this j oj (toL j oj hj)
    simp only [hd, Bool.or_eq_true, beq_iff_eq] at this
    have hc : ((opTs oi).contains t = true ∨ gdst ops oi = some t) := by
      rcases ht with ht | ht
      · exact .inl (List.contains_iff_mem.2 ht)
      · exact .inr ht
    rw [if_pos hc] at this
    refine ⟨fun hlt => ?_, fun hlt => ?_⟩
    · rcases this with e | e
      · omega
      · rw [if_pos (by omega)] at e
        rw [← depB_iff]; simpa using e
    · rcases this with e | e
      · omega
      · rw [if_neg (by omega)] at e
        rw [← depB_iff]; simpa using e
end
section
variable {P : Program} {W0 : World} {xs : List Nat}
theorem st_put (s : CSt) (dst : Option Tmp) (v : Value) (e : Eff) : (s.put dst v (e.tree s.nx s.ht) (e.nx s.nx) s.asm).st = s.st.put dst v e := by
  rw [CSt.put_st, Eff.tree_get]; rfl
theorem drop_head {ops : Array Oper} {o : Oper} {l : List Oper} {i : Nat} (h : o :: l = ops.toList.drop i) : ops[i]? = some o ∧ l = ops.toList.drop (i + 1) := by
  have h0 : (ops.toList.drop i)[0]? = some o := by rw [← h]; rfl
  rw [List.getElem?_drop] at h0
  refine ⟨by simpa using h0, ?_⟩
  have : (ops.toList.drop i).drop 1 = ops.toList.drop (i + 1) := by rw [List.drop_drop]
  rw [← this, ← h]; rfl
def AsTold (P : Program) (W0 : World) (x : FuncId × List Value × Value) : Prop :=
  Enters P x.1 ∧ ∀ nx H, ACalls P W0 x.1 x.2.1 nx H fun v nx' H' => v = x.2.2 ∧ nx' = nx ∧ H' = H
variable {ov : FuncId → List Value → Option Value}
end
end
end Go.Am
namespace Go.Am
open Go.RowKit
noncomputable section
section
variable {P : Program} {W0 : World}
abbrev Tables := List (Nat × List Value)
noncomputable def tabTree (T : Tables) : Tree AObj := T.foldr (fun x t => t.set x.1 (.cells x.2 1 none true none)) .leaf
def Tabs (T : Tables) (w : World) : Prop := ∀ x ∈ T, x.1 < NG ∧ x.2.all plain1 = true ∧ ∃ Cc el fr, w.heap[x.1]? = some (.cells Cc el fr) ∧ x.2.length ≤ Cc.size ∧ ∀ i, i < x.2.length → Cc[i]? = x.2[i]?
theorem Tabs.nil {w : World} : Tabs [] w := fun _ h => by cases h
theorem Tabs.below {T : Tables} {w w' : World} (h : Tabs T w) (hb : BelD w.heap.size w w') : Tabs T w' := fun x hx => by
  obtain ⟨h1, h2, Cc, el, fr, h3, h4⟩ := h x hx
  exact ⟨h1, h2, Cc, el, fr, (hb.block _ (Array.getElem?_eq_some_iff.1 h3).1).trans h3, h4⟩
theorem tabTree_get {T : Tables} {g : Nat} {o : AObj} (h : (tabTree T).get g = some o) : ∃ c, (g, c) ∈ T ∧ o = .cells c 1 none true none := by
  induction T with
  | nil => simp [tabTree, Tree.get_leaf] at h
  | cons x T ih =>
    simp only [tabTree, List.foldr_cons, Tree.get_set] at h
    split at h
    · rename_i e
      cases h
      subst e
      exact ⟨x.2, List.mem_cons_self .., rfl⟩
    · obtain ⟨c, h1, h2⟩ := ih h
      exact ⟨c, List.mem_cons_of_mem _ h1, h2⟩
def Corr.tab (w : World) : Corr := ⟨fun i => (i, 0), fun i => match w.heap[i]? with | some (.cells Cc _ _) => Cc.size | _ => 0, fun _ => none⟩
theorem Rel.tabs {T : Tables} {w : World} (hT : Tabs T w) (hb : BelD W0.heap.size W0 w) : Rel W0 (Corr.tab w) NG (tabTree T).get w := by
  refine ⟨hb, fun g o h => ?_, fun g o h => ?_, fun g o h hro => ?_, fun i j oi oj hi hj _ hro => ?_, fun _ _ h => (by cases h), Nat.le_refl _, fun g o _ h => ?_, fun _ _ _ => rfl⟩
  · obtain ⟨c, hm, rfl⟩ := tabTree_get h
    exact ⟨(hT _ hm).1, fun t ht => by cases ht⟩
  · obtain ⟨c, hm, rfl⟩ := tabTree_get h
    obtain ⟨h1, h2, Cc, el, fr, h3, h4, h5⟩ := hT _ hm
    refine ⟨Cc, el, fr, h3, by simp [Corr.tab, h3], by simpa [Corr.tab] using h4, fun i hi hi' => ?_, fun x => (by cases x), fun t x => (by cases x), fun x => (by cases x), fun x => (by cases x)⟩
    have hq := h5 i hi
    simp only [Corr.tab, Nat.zero_add] at hi' ⊢
    rw [Array.getElem?_eq_getElem hi', List.getElem?_eq_getElem hi, Option.some.injEq] at hq
    rw [hq]
    exact plain1_VR (List.all_eq_true.1 h2 _ (List.getElem_mem hi))
  · obtain ⟨c, _, rfl⟩ := tabTree_get h; cases hro
  · obtain ⟨c, _, rfl⟩ := tabTree_get hi; cases hro
  · obtain ⟨c, _, rfl⟩ := tabTree_get h; exact ⟨rfl, rfl⟩
theorem told_of_callsB {f : FuncId} {args : List Value} {r : Value} (hf : Enters P f) (ha : args.all plain1 = true) (hr : plain1 r = true)
    (h : ∀ w, BelD W0.heap.size W0 w → Calls P f args.toArray w fun e w' => e = .returned r ∧ BelD w.heap.size w w') : AsTold P W0 (f, args, r) := by
  refine ⟨hf, fun nx H C w args' hR hargs => ?_⟩
  have hargs' : args' = args := by
    apply List.ext_getElem hargs.1.symm
    intro i p q
    have hv := hargs.2 i q p
    have hp := List.all_eq_true.1 ha args[i] (List.getElem_mem q)
    generalize args[i] = x at hv hp
    generalize args'[i] = y at hv
    cases hv <;> first | rfl | (simp [plain1] at hp)
  subst hargs'
  refine (h w hR.below).mono ?_
  rintro e w' ⟨rfl, hb⟩
  refine ⟨r, r, C, nx, H, rfl, ⟨rfl, rfl, rfl⟩, ?_, plain1_VR hr, Stp.refl _ _ _⟩
  exact hR.world (hR.below.trans (hb.mono hR.below.size)) (fun k hk => hb.block k hk)
theorem calls_of_told {T : Tables} {f : FuncId} {args : List Value} {R : Value → Prop} (ha : args.all plain1 = true) (w : World) (hT : Tabs T w) (h : ACalls P w f args NG (tabTree T).get fun v _ _ => R v) :
    Calls P f args.toArray w fun e w' => ∃ v v', e = .returned v' ∧ R v ∧ (plain1 v = true → v' = v) ∧ BelD w.heap.size w w' := by
  refine (h (Corr.tab w) w args (Rel.tabs hT (BelD.refl _ _)) (plain_VRs ha)).mono ?_
  rintro e w' ⟨v, v', C', nx', H', rfl, hr, hR, hv, hS⟩
  refine ⟨v, v', rfl, hr, fun hp => ?_, hR.below⟩
  cases hv <;> first | rfl | (simp [plain1] at hp)
variable {xs : List Nat} {ov : FuncId → List Value → Option Value}
structure Fit (P : Program) (xs : List Nat) : Prop where
  names : ∀ (f : FuncId) (fn : Func), P.funcs[f]? = some fn → (fn.name == "runtime.NumGoroutine") = false
  exts : ∀ f, f < XB → xs.contains f = true → IdExt P f
  idxs : ∀ f, f < XB → xs.contains (XB + f) = true → IdxExt P f
  mixed : P.follows .mixedOrders = true
  small : P.funcs.size ≤ YB
  extsLt : ∀ f, xs.contains f = true → f < YB
end
end
end Go.Am
namespace Go.Am
open Go.RowKit
noncomputable def putArgs (n : Nat) : Tree Value → List Tmp → List Value → Option (Tree Value)
  | tt, [], vs => match vs with
    | [] => some tt
    | _ => none
  | tt, p :: ps, vs => match vs with
    | v :: vs => cond (Nat.blt p n) (putArgs n (tt.set p v) ps vs) none
    | [] => none
def jumpOf : AExit → Option Code
  | .normal => none
  | .exit id => some (.exit id)
  | .goto l => some (.goto l)
  | .ret => some .ret
def endSt : AExit → LoopState
  | .normal => .ready
  | _ => .done
section
variable {P : Program} {W0 : World} {C : Corr} {nx : Nat} {H : Heap} {w : World}
theorem Corr.put_self (C : Corr) (k : Nat) : C.put k (C.loc k) (C.siz k) = C := by
  cases C with
  | mk loc siz pin =>
    simp only [Corr.put]
    congr 1
    · funext i; by_cases e : i = k
      · subst e; simp
      · simp [e]
    · funext i; by_cases e : i = k
      · subst e; simp
      · simp [e]
theorem isLoop_iff {o : Option AObj} : isLoop o = true ↔ ∃ a b c d e f g, o = some (.loop a b c d e f g) := by
  constructor
  · intro h
    unfold isLoop at h
    split at h
    · exact ⟨_, _, _, _, _, _, _, rfl⟩
    · cases h
  · rintro ⟨a, b, c, d, e, f, g, rfl⟩; rfl
theorem Rel.setLoop (h : Rel W0 C nx H w) {l : Nat} {stt : LoopState} {pend : Option Code} {tt : Tree Value} {n : Nat} {ps : List Tmp} {asg body : Code} (hl : H l = some (.loop stt pend tt n ps asg body)) :
    ∃ r : Loop, w.heap[(C.loc l).1]? = some (.loop r) ∧ r.state = stt ∧ r.pending = pend ∧ r.tmps.size = n ∧ r.params.toList = ps ∧ r.assign = asg ∧ r.body = body ∧ (∀ t, VR nx H C ((tt.get t).getD undef) (r.tmps.getD t undef)) ∧
      ∀ (s2 : LoopState) (p2 : Option Code), Rel W0 C nx (H.put l (.loop s2 p2 tt n ps asg body)) { w with heap := w.heap.setIfInBounds (C.loc l).1 (.loop { r with state := s2, pending := p2 }) } ∧ Stp nx H C nx (H.put l (.loop s2 p2 tt n ps asg body)) C := by
  obtain ⟨r, h1, h2, h3, h4, h5, h6, h7, h8, h9⟩ := h.obj l _ hl
  refine ⟨r, h1, h3, h4, h5, h6, h7, h8, h9, fun s2 p2 => ?_⟩
  have hlt : (C.loc l).1 < w.heap.size := (Array.getElem?_eq_some_iff.1 h1).1
  have hown := h.own l _ hl rfl
  have hne : ∀ k, k ≠ (C.loc l).1 → (w.heap.setIfInBounds (C.loc l).1 (.loop { r with state := s2, pending := p2 }))[k]? = w.heap[k]? := fun k hk => Array.getElem?_setIfInBounds_ne (Ne.symm hk)
  have := h.set (w' := { w with heap := w.heap.setIfInBounds (C.loc l).1 (.loop { r with state := s2, pending := p2 }) }) l _ (.loop s2 p2 tt n ps asg body) (C.loc l) (C.siz l) hl rfl (Nat.le_refl _) (.inl ⟨rfl, rfl, rfl, rfl⟩) (.inl rfl) (fun x => rfl)
    (h.below.trans ⟨rfl, rfl, rfl, by simp, fun k hk => hne k (by have := hown.1; omega), Nat.le_refl _⟩) (fun k _ hk => hne k hk)
    (fun C' hC hS => by
      rw [Corr.put_self] at hC
      subst hC
      exact ⟨{ r with state := s2, pending := p2 }, Array.getElem?_setIfInBounds_self_of_lt hlt, h2, rfl, rfl, h5, h6, h7, h8, fun t => (h9 t).mono hS⟩)
    (fun _ => ⟨rfl, rfl⟩)
  rw [Corr.put_self] at this
  exact this
theorem putArgs_sound {n : Nat} : ∀ (ps : List Tmp) (vs vs' : List Value) (tt t1 : Tree Value) (tmps : Array Value), putArgs n tt ps vs = some t1 → VRs nx H C vs vs' → tmps.size = n → (∀ t, VR nx H C ((tt.get t).getD undef) (tmps.getD t undef)) →
    ps.length = vs'.length ∧ (((ps.zip vs').foldl (fun t (x : Tmp × Value) => t.setIfInBounds x.1 x.2) tmps).size = n ∧ ∀ t, VR nx H C ((t1.get t).getD undef) (((ps.zip vs').foldl (fun t (x : Tmp × Value) => t.setIfInBounds x.1 x.2) tmps).getD t undef)) := by
  intro ps
  induction ps with
  | nil =>
    intro vs vs' tt t1 tmps h hv hs ht
    cases vs with
    | nil =>
      simp only [putArgs, Option.some.injEq] at h
      subst h
      have : vs' = [] := by rw [← List.length_eq_zero_iff, ← hv.1]; rfl
      subst this
      exact ⟨rfl, hs, ht⟩
    | cons v vs => simp [putArgs] at h
  | cons p ps ih =>
    intro vs vs' tt t1 tmps h hv hs ht
    cases vs with
    | nil => simp [putArgs] at h
    | cons v vs =>
      simp only [putArgs] at h
      cases hb : Nat.blt p n with
      | false => rw [hb] at h; cases h
      | true =>
        rw [hb] at h
        have hlt : p < n := by rw [Nat.blt_eq] at hb; exact hb
        obtain ⟨v', r, rfl, hx, hr⟩ := hv.uncons
        have := ih vs r (tt.set p v) t1 (tmps.setIfInBounds p v') h hr (by simpa using hs) (fun t => by
          rw [Tree.get_set]
          by_cases e : t = p
          · subst e
            rw [if_pos rfl, Array.getD_eq_getD_getElem?, Array.getElem?_setIfInBounds_self_of_lt (by rw [hs]; exact hlt)]
            exact hx
          · rw [if_neg e, Array.getD_eq_getD_getElem?, Array.getElem?_setIfInBounds_ne (Ne.symm e), ← Array.getD_eq_getD_getElem?]
            exact ht t)
        exact ⟨by simp [this.1], this.2⟩
theorem run_getLoop {c : Nat} {r : Loop} (h : w.heap[c]? = some (.loop r)) : (Instr.getLoop c).run P w = .ok r w := by
  simp [Instr.getLoop, Sem.run_bind, getObj, Sem.run, h, Result.andThen]
theorem run_setLoop {c : Nat} {r r2 : Loop} (h : w.heap[c]? = some (.loop r)) : (setObj c (.loop r2)).run P w = .ok () { w with heap := w.heap.setIfInBounds c (.loop r2) } := by
  simp only [setObj, Sem.run, h]
theorem run_newObj (o : Obj) : (newObj o).run P w = .ok w.heap.size (w.alloc o) := rfl
theorem AYields.of_trip {l : Nat} {pend : Option Code} {tt t1 : Tree Value} {n : Nat} {ps : List Tmp} {asg body : Code} {args : List Value} {R : Value → Nat → Heap → Prop}
    (hl : H l = some (.loop .ready pend tt n ps asg body)) (hput : putArgs n tt ps args = some t1)
    (h : Trip P W0 asg ⟨fun t => (t1.get t).getD undef, n, H, nx⟩ fun x s => x = .normal ∧ ∃ pend2 tt2 n2 ps2 asg2 body2, s.H l = some (.loop .ready pend2 tt2 n2 ps2 asg2 body2) ∧
      Trip P W0 body ⟨s.tm, s.n, s.H.put l (.loop .busy pend2 tt2 n2 ps2 asg2 body2), s.nx⟩ fun x q => ∃ st3 pend3 tt3 n3 ps3 asg3 body3, q.H l = some (.loop st3 pend3 tt3 n3 ps3 asg3 body3) ∧
        R (.bool (jumpOf x).isNone) q.nx (q.H.put l (.loop (endSt x) (jumpOf x) tt3 n3 ps3 asg3 body3))) : AYields P W0 l args nx H R := by
  intro C w args' hR ha
  obtain ⟨r, h1, h3, h4, h5, h6, h7, h8, h9, _⟩ := hR.setLoop hl
  obtain ⟨hlen, hsz, hvr⟩ := putArgs_sound ps args args' tt t1 r.tmps hput ha h5 h9
  have hnx : l < nx := (hR.lt l _ hl).1
  have hfold : (r.params.zip args'.toArray).foldl (fun tmps (x : Tmp × Value) => tmps.setIfInBounds x.1 x.2) r.tmps = (ps.zip args').foldl (fun t (x : Tmp × Value) => t.setIfInBounds x.1 x.2) r.tmps := by
    rw [← Array.foldl_toList, Array.toList_zip, h6]
  have hyield : (Instr.yield (C.loc l).1 args'.toArray).run P w = .ok (.round (C.loc l).1 r.fn ((ps.zip args').foldl (fun t (x : Tmp × Value) => t.setIfInBounds x.1 x.2) r.tmps) asg body) w := by
    have hsize : args'.toArray.size = r.params.size := by rw [← Array.length_toList (xs := r.params), h6, hlen]; simp
    simp only [Instr.yield, Sem.run_bind, run_getLoop h1, Result.andThen_ok]
    rw [if_neg (by simpa using hsize)]
    simp only [Sem.run_bind, Sem.run_pure, Result.andThen_ok]
    rw [h7, h8]
    congr 2
  refine ⟨_, _, _, _, hyield, roundIn_of_wpIn trivial ?_⟩
  have hrnd : RndOk (some (C.loc l).1) C nx H := fun c hc => ⟨l, hnx, by rw [hl]; rfl, by cases hc; rfl⟩
  have hs : SRel W0 C ⟨fun t => (t1.get t).getD undef, n, H, nx⟩ { tmps := (ps.zip args').foldl (fun t (x : Tmp × Value) => t.setIfInBounds x.1 x.2) r.tmps, defers := [] } w := ⟨hvr, hsz, hR⟩
  have hw : asg.wpIn (Fence.wide.inRound (C.loc l).1) 0 P _ _ w := h (some (C.loc l).1) C _ w hrnd hs
  refine wpIn_mono hw ?_
  rintro e a1 w1 ⟨x, s, C1, rfl, ⟨rfl, pend2, tt2, n2, ps2, asg2, body2, hl2, hb⟩, hs1, hS1, hn1, hm1⟩
  have hfix1 := hS1.fix l hnx (by show isLoop (H l) = true; rw [hl]; rfl)
  obtain ⟨r2, g1, g3, _, _, _, _, _, _, gset⟩ := hs1.rel.setLoop hl2
  obtain ⟨hR2, hS2⟩ := gset .busy pend2
  have hloc1 : (C1.loc l).1 = (C.loc l).1 := by rw [hfix1.2]
  refine ⟨{ w1 with heap := w1.heap.setIfInBounds (C1.loc l).1 (.loop { r2 with state := .busy, pending := pend2 }) }, ?_, ?_⟩
  · rw [← hloc1]
    simp only [Instr.beginRound, Sem.run_bind, run_getLoop g1, Result.andThen_ok, g3]
    have : ({ r2 with state := .busy, pending := pend2 } : Loop) = { r2 with state := .busy } := by
      rename_i gp _ _ _ _ _
      rw [← gp]
    rw [this]
    simp only [run_setLoop g1, Result.andThen_ok, Sem.run_pure]
  · have hs2 : SRel W0 C1 ⟨s.tm, s.n, s.H.put l (.loop .busy pend2 tt2 n2 ps2 asg2 body2), s.nx⟩ a1 { w1 with heap := w1.heap.setIfInBounds (C1.loc l).1 (.loop { r2 with state := .busy, pending := pend2 }) } :=
      ⟨fun t => (hs1.tm t).mono hS2, hs1.sz, hR2⟩
    have hrnd2 : RndOk (some (C.loc l).1) C1 s.nx (s.H.put l (.loop .busy pend2 tt2 n2 ps2 asg2 body2)) := (hrnd.next hS1).next hS2
    have hw2 : body.wpIn (Fence.wide.inRound (C.loc l).1) 0 P _ _ _ := hb (some (C.loc l).1) C1 a1 _ hrnd2 hs2
    refine wpIn_mono hw2 ?_
    rintro e a2 w2 ⟨x, q, C2, rfl, ⟨st3, pend3, tt3, n3, ps3, asg3, body3, hl3, hr3⟩, hs3, hS3, hn3, hm3⟩
    obtain ⟨r3, k1, _, _, _, _, _, _, _, kset⟩ := hs3.rel.setLoop hl3
    obtain ⟨hR4, hS4⟩ := kset (endSt x) (jumpOf x)
    have hfix2 := hS3.fix l (Nat.lt_of_lt_of_le hnx hS1.le) (by simp only [Heap.put, if_true]; rfl)
    have hloc2 : (C2.loc l).1 = (C.loc l).1 := by rw [hfix2.2, hloc1]
    have hend : (Instr.endRound (C.loc l).1 (jumpOf x)).run P w2 = .ok (.bool (jumpOf x).isNone) { w2 with heap := w2.heap.setIfInBounds (C2.loc l).1 (.loop { r3 with state := endSt x, pending := jumpOf x }) } := by
      rw [← hloc2]
      simp only [Instr.endRound, Sem.run_bind, run_getLoop k1, Result.andThen_ok]
      have e : (if (jumpOf x).isNone = true then LoopState.ready else LoopState.done) = endSt x := by cases x <;> rfl
      rw [e]
      simp only [run_setLoop k1, Result.andThen_ok, Sem.run_pure]
    have hfin : ∃ v v' C' nx' H', Ending.returned (Value.bool (jumpOf x).isNone) = .returned v' ∧ R v nx' H' ∧ Rel W0 C' nx' H' { w2 with heap := w2.heap.setIfInBounds (C2.loc l).1 (.loop { r3 with state := endSt x, pending := jumpOf x }) } ∧ VR nx' H' C' v v' ∧ Stp nx H C nx' H' C' :=
      ⟨_, _, C2, q.nx, _, rfl, hr3, hR4, .bool _, ((hS1.trans hS2).trans hS3).trans hS4⟩
    cases x with
    | normal => exact ⟨_, _, hend, hfin⟩
    | ret => exact ⟨_, _, hend, hfin⟩
    | exit id => exact ⟨_, _, hend, hfin⟩
    | goto t => exact ⟨_, _, hend, hfin⟩
theorem enterLoop_sound {ρ : Option Nat} {st : ASt} {a : Act} (hr : RndOk ρ C st.nx st.H) (hs : SRel W0 C st a w) (fn : FuncId) (ps : Array Tmp) (asg body : Code) {tt : Tree Value} (htt : ∀ t, (tt.get t).getD undef = st.tm t) :
    ∃ C1 mk lc w1, (Instr.enterLoop fn a.tmps ps asg body ρ).run P w = .ok (lc, mk) w1 ∧ Rel W0 C1 (st.nx + 1) (st.H.put st.nx (.loop .ready none tt st.n ps.toList asg body)) w1 ∧
      Stp st.nx st.H C (st.nx + 1) (st.H.put st.nx (.loop .ready none tt st.n ps.toList asg body)) C1 ∧ (C1.loc st.nx).1 = lc ∧ Mks C C1 a.defers (mk ++ a.defers) := by
  have lay : ∀ (C0 : Corr) (w0 : World) (d : Nat), Rel W0 C0 st.nx st.H w0 → (∀ t, VR st.nx st.H C0 (st.tm t) (a.tmps.getD t undef)) →
      Rel W0 (C0.put st.nx (w0.heap.size, 0) 0) (st.nx + 1) (st.H.put st.nx (.loop .ready none tt st.n ps.toList asg body)) (w0.alloc (.loop { state := .ready, pending := none, fn, tmps := a.tmps, params := ps, assign := asg, body, defers := d })) ∧
      Stp st.nx st.H C0 (st.nx + 1) (st.H.put st.nx (.loop .ready none tt st.n ps.toList asg body)) (C0.put st.nx (w0.heap.size, 0) 0) := by
    intro C0 w0 d hR ht
    refine hR.new (.loop .ready none tt st.n ps.toList asg body) _ 0 0 (fun t h => by cases h) fun C' hC hS => ?_
    subst hC
    exact ⟨_, by simp only [Corr.put, if_true]; exact Array.getElem?_push_size, by simp [Corr.put], rfl, rfl, hs.sz, rfl, rfl, rfl, fun t => by rw [htt]; exact (ht t).mono hS⟩
  cases ρ with
  | none =>
    obtain ⟨hR1, hS1⟩ := hs.rel.pinNew (.deferred (some []))
    obtain ⟨hR2, hS2⟩ := lay _ _ w.heap.size hR1 (fun t => (hs.tm t).mono hS1)
    refine ⟨_, [mark w.heap.size], _, _, ?_, hR2, hS1.trans hS2, rfl, [w.heap.size], rfl, by simp, fun D hD => ?_⟩
    · simp only [Instr.enterLoop, Sem.run_bind, run_newObj, Result.andThen_ok, Sem.run_pure, mark]
      simp [Corr.put]
    · rw [List.mem_singleton] at hD
      subst hD
      refine ⟨?_, by simp only [Corr.put, Corr.re, if_true]⟩
      cases hq : C.pin w.heap.size with
      | none => rfl
      | some o => exact absurd (Array.getElem?_eq_some_iff.1 (hs.rel.pin _ _ hq).2).1 (Nat.lt_irrefl _)
  | some c =>
    obtain ⟨l0, e1, e2, e3⟩ := hr c rfl
    obtain ⟨a1, a2, a3, a4, a5, a6, a7, e4⟩ := isLoop_iff.1 e2
    obtain ⟨r, h1, _⟩ := hs.rel.setLoop e4
    rw [e3] at h1
    obtain ⟨hR2, hS2⟩ := lay C w r.defers hs.rel hs.tm
    refine ⟨_, [], _, _, ?_, hR2, hS2, rfl, .same⟩
    simp only [Instr.enterLoop, Sem.run_bind, run_getLoop h1, run_newObj, Result.andThen_ok, Sem.run_pure]
    simp [Corr.put]
theorem Trip.rangeFunc {st : ASt} {g : Operand} {ps : Array Tmp} {asg body : Code} {Q : AExit → ASt → Prop} {f : FuncId} {first cap : Array Value} {tt : Tree Value} {R : Value → Nat → Heap → Prop} (htt : ∀ t, (tt.get t).getD undef = st.tm t)
    (hg : st.ev g = some (.func (.func f) first cap)) (hf : Enters P f)
    (hcall : ACalls P W0 f ((first.toList ++ [.chan (some st.nx)]) ++ cap.toList) (st.nx + 1) (st.H.put st.nx (.loop .ready none tt st.n ps.toList asg body)) R)
    (h : ∀ v nx' H', R v nx' H' → ∃ stt pend tt' n' ps' asg' body', H' st.nx = some (.loop stt pend tt' n' ps' asg' body') ∧ stt ≠ .busy ∧
      ((pend = none ∧ Q .normal ⟨st.tm, st.n, H'.del st.nx, nx'⟩) ∨
       ∃ c, pend = some c ∧ Trip P W0 c ⟨st.tm, st.n, H'.del st.nx, nx'⟩ Q)) : Trip P W0 (.rangeFunc g ps asg body) st Q := by
  intro ρ C a w hr hs
  refine wpIn_rangeFunc fun fn _ => ?_
  obtain ⟨C1, mk, lc, w1, hent, hR1, hS1, hlc, hmk⟩ := enterLoop_sound (P := P) hr hs fn ps asg body htt
  have hv := (hs.ev g _ hg).mono hS1
  obtain ⟨fnn, f1, f2, f3⟩ := hf
  generalize hu : a.eval g = u at hv
  cases hv with
  | func _ _ a' _ b' q1 q2 q3 q4 =>
  have hyl : VR (st.nx + 1) (st.H.put st.nx (.loop .ready none tt st.n ps.toList asg body)) C1 (.chan (some st.nx)) (.func (.yield lc) #[] #[]) := .yld _ _ (by omega) (fun _ _ _ => hlc.symm)
  have hargs := ((agg_VRs q1 q3).append (VRs.cons hyl VRs.nil)).append (agg_VRs q2 q4)
  refine ⟨lc, mk, w1, ⟨.fn (.func f) b', a' ++ #[.func (.yield lc) #[] #[]]⟩, w1, f, (a' ++ #[.func (.yield lc) #[] #[]]) ++ b', w1, hent, ?_, fun _ _ => trivial, ?_, fun h => (by cases h), ?_⟩
  · simp only [resolve, rangeCall, Deferred.ofValue, hu, Sem.run_bind, Sem.run_pure, Result.andThen_ok]
    simp [Act.eval, Sem.run_pure]
  · simp only [invoke, callFunc, Sem.run_bind, run_program, Result.andThen_ok, f1, f2, f3, Bool.false_eq_true, if_false, Sem.run_pure]
  · refine callsIn_rf ?_
    have hc := hcall C1 w1 _ hR1 hargs
    have e : ((a'.toList ++ [Value.func (.yield lc) #[] #[]]) ++ b'.toList).toArray = (a' ++ #[.func (.yield lc) #[] #[]]) ++ b' := by apply Array.ext'; simp
    rw [e] at hc
    refine hc.mono ?_
    rintro e w3 ⟨v, v', C2, nx2, H2, rfl, hq, hR2, _, hS2⟩
    obtain ⟨stt, pend, tt', n', ps', asg', body', hl, hnb, hend⟩ := h v nx2 H2 hq
    obtain ⟨r, k1, k2, k3, _, _, _, _, _, kset⟩ := hR2.setLoop hl
    obtain ⟨hR3, hS3⟩ := kset .exhausted pend
    have hfix := hS2.fix st.nx (by omega) (by simp only [Heap.put, if_true]; rfl)
    have hloc : (C2.loc st.nx).1 = lc := by rw [hfix.2]; exact hlc
    have hS0 := (hS1.trans hS2).trans hS3
    obtain ⟨hR4, hS4⟩ := hR3.sub (H' := H2.del st.nx) (fun id o ho => by
      unfold Heap.del at ho
      split at ho
      · cases ho
      · rename_i hne; simp only [Heap.put, hne, if_false]; exact ho)
    have hS : Stp st.nx st.H C nx2 (H2.del st.nx) C2 := ⟨hS0.toStp0.trans hS4, hS0.pin, fun id hid hl => by
      obtain ⟨g1, g2⟩ := hS0.fix id hid hl
      have hne : id ≠ st.nx := by omega
      simp only [Heap.put, hne, if_false] at g1
      exact ⟨by simp only [Heap.del, hne, if_false]; exact g1, g2⟩⟩
    refine ⟨pend, { w3 with heap := w3.heap.setIfInBounds (C2.loc st.nx).1 (.loop { r with state := .exhausted, pending := pend }) }, ?_, ?_⟩
    · rw [← hloc]
      have hb : (r.state == LoopState.busy) = false := by rw [k2]; cases stt <;> first | rfl | exact absurd rfl hnb
      have : ({ r with state := .exhausted, pending := pend } : Loop) = { r with state := .exhausted } := by rw [← k3]
      rw [this]
      simp only [Instr.endLoop, Sem.run_bind, run_getLoop k1, Result.andThen_ok, hb, Bool.false_eq_true, if_false, Sem.run_pure]
      simp only [run_setLoop k1, Result.andThen_ok, Sem.run_pure, k3]
    · have hs3 : SRel W0 C2 ⟨st.tm, st.n, H2.del st.nx, nx2⟩ { a with defers := mk ++ a.defers } { w3 with heap := w3.heap.setIfInBounds (C2.loc st.nx).1 (.loop { r with state := .exhausted, pending := pend }) } :=
        ⟨fun t => (hs.tm t).mono hS, hs.sz, hR4⟩
      have hm : Mks C C2 a.defers (mk ++ a.defers) := hmk.trans .same hS1.pin (hS2.trans hS3).pin
      rcases hend with ⟨rfl, hq⟩ | ⟨c, rfl, ht⟩
      · exact ⟨.normal, _, C2, rfl, hq, hs3, hS, rfl, hm⟩
      · exact wpIn_mono (ht ρ C2 _ _ (hr.next hS) hs3) fun e a w hp => Post.trans hp hS rfl hm
end
end Go.Am
namespace Go.Am
open Go.RowKit
section
variable {W0 : World} {C : Corr} {nx nx1 nx2 : Nat} {H H1 H2 : Heap} {w : World} {σ : Nat → Nat}
def liveA (H : Heap) (a : Addr) : Bool := match H a.block with | some o => decide (o.tag = a.spot) | none => false
theorem liveA_iff {H : Heap} {a : Addr} : liveA H a = true ↔ live H a := by
  unfold liveA live
  cases H a.block with
  | none => simp
  | some o => simp
def ltS (nx : Nat) (s : Option Nat) : Bool := match s with | some t => Nat.blt t nx | none => true
def eszAt (H : Heap) (b : Nat) : Nat := match H b with | some o => o.esz | none => 0
def bare (H : Heap) (r : Nat) : Bool := match H r with | some o => decide (o.tag = none) | none => false
def okPair (H1 H2 : Heap) (σ : Nat → Nat) (nx2 : Nat) (a b : Addr) : Bool :=
  Nat.beq a.off b.off && Nat.blt b.block nx2 && ltS nx2 b.spot &&
    (!liveA H2 b || (liveA H1 a && Nat.beq (σ b.block) a.block && (a.spot.isSome == b.spot.isSome) && Nat.beq (eszAt H1 a.block) (eszAt H2 b.block)))
def okRef (H1 H2 : Heap) (σ : Nat → Nat) (nx2 r s : Nat) : Bool := Nat.blt s nx2 && (!bare H2 s || (bare H1 r && Nat.beq (σ s) r))
def eqLn (f : Value → Value → Bool) : List Value → List Value → Bool
  | [], [] => true
  | a :: l, b :: l' => f a b && eqLn f l l'
  | _, _ => false
def fnEq : Fn → Fn → Bool
  | .func f, .func g => Nat.beq f g
  | _, _ => false
def eqVn (H1 H2 : Heap) (σ : Nat → Nat) (nx2 : Nat) : Nat → Value → Value → Bool
  | 0, _, _ => false
  | n + 1, u, v =>
    match u, v with
    | .pointer (some a), .pointer (some b) => okPair H1 H2 σ nx2 a b
    | .slice (some a) l c, .slice (some b) l' c' => Nat.beq l l' && Nat.beq c c' && okPair H1 H2 σ nx2 a b
    | .map (some r), .map (some s) => okRef H1 H2 σ nx2 r s
    | .chan (some r), .chan (some s) => okRef H1 H2 σ nx2 r s
    | .func f a b, .func g a' b' => fnEq f g && eqLn (eqVn H1 H2 σ nx2 n) a.toList a'.toList && eqLn (eqVn H1 H2 σ nx2 n) b.toList b'.toList
    | .iface t x, .iface s y => Nat.beq t s && eqVn H1 H2 σ nx2 n x y
    | .agg a, .agg b => eqLn (eqVn H1 H2 σ nx2 n) a.toList b.toList
    | .tuple a, .tuple b => eqLn (eqVn H1 H2 σ nx2 n) a.toList b.toList
    | u, v => plain1 u && veq1 u v
def Corr.ren (C : Corr) (σ : Nat → Nat) : Corr := ⟨fun j => C.loc (σ j), fun j => C.siz (σ j), C.pin⟩
theorem plain_VR_any {nx nx2 : Nat} {H H2 : Heap} {C C2 : Corr} {u v : Value} (h : plain1 u = true) (hv : VR nx H C u v) : VR nx2 H2 C2 u v := by
  cases hv <;> first | (constructor; done) | (simp [plain1] at h; done)
theorem eqLn_spec {f : Value → Value → Bool} : ∀ {a b : List Value}, eqLn f a b = true → a.length = b.length ∧ ∀ (i : Nat) (h : i < a.length) (h' : i < b.length), f a[i] b[i] = true := by
  intro a
  induction a with
  | nil => intro b h; cases b with
    | nil => exact ⟨rfl, fun i h => absurd h (by simp)⟩
    | cons x y => simp [eqLn] at h
  | cons x l ih =>
    intro b h
    cases b with
    | nil => simp [eqLn] at h
    | cons y l' =>
      simp only [eqLn, Bool.and_eq_true] at h
      obtain ⟨h1, h2⟩ := ih h.2
      refine ⟨by simp [h1], fun i a b => ?_⟩
      cases i with
      | zero => exact h.1
      | succ i => exact h2 i (by simpa using a) (by simpa using b)
theorem okPair_spec {a b : Addr} (h : okPair H1 H2 σ nx2 a b = true) : okA nx2 b ∧ a.off = b.off ∧ (live H2 b → live H1 a ∧ σ b.block = a.block ∧ (a.spot.isSome = b.spot.isSome) ∧ eszAt H1 a.block = eszAt H2 b.block) := by
  unfold okPair at h
  simp only [Bool.and_eq_true, Bool.or_eq_true, Bool.not_eq_true', beq_iff_eq] at h
  obtain ⟨⟨⟨h1, h2⟩, h3⟩, h4⟩ := h
  refine ⟨⟨by rw [Nat.blt_eq] at h2; exact h2, fun t ht => ?_⟩, Nat.eq_of_beq_eq_true h1, fun hl => ?_⟩
  · rw [ht] at h3
    simp only [ltS, Nat.blt_eq] at h3
    exact h3
  · rcases h4 with h4 | ⟨⟨⟨q1, q2⟩, q3⟩, q4⟩
    · rw [liveA_iff.2 hl] at h4; cases h4
    · exact ⟨liveA_iff.1 q1, Nat.eq_of_beq_eq_true q2, q3, Nat.eq_of_beq_eq_true q4⟩
theorem bare_iff {H : Heap} {r : Nat} : bare H r = true ↔ ∃ o, H r = some o ∧ o.tag = none := by
  unfold bare
  cases H r with
  | none => simp
  | some o => simp
theorem okRef_spec {r s : Nat} (h : okRef H1 H2 σ nx2 r s = true) : s < nx2 ∧ ∀ o, H2 s = some o → o.tag = none → (∃ o1, H1 r = some o1 ∧ o1.tag = none) ∧ σ s = r := by
  unfold okRef at h
  simp only [Bool.and_eq_true, Bool.or_eq_true, Bool.not_eq_true'] at h
  obtain ⟨h1, h2⟩ := h
  refine ⟨by rw [Nat.blt_eq] at h1; exact h1, fun o ho ht => ?_⟩
  rcases h2 with h2 | ⟨q1, q2⟩
  · rw [bare_iff.2 ⟨o, ho, ht⟩] at h2; cases h2
  · exact ⟨bare_iff.1 q1, Nat.eq_of_beq_eq_true q2⟩
theorem eqVn_sound : ∀ (n : Nat) (u v x : Value), eqVn H1 H2 σ nx2 n u v = true → VR nx1 H1 C u x → VR nx2 H2 (C.ren σ) v x := by
  intro n
  induction n with
  | zero => intro u v x h; simp [eqVn] at h
  | succ n ih =>
    intro u v x h hv
    have rows : ∀ {a a' : List Value} {b : List Value}, eqLn (eqVn H1 H2 σ nx2 n) a a' = true → VRs nx1 H1 C a b → VRs nx2 H2 (C.ren σ) a' b := fun h hv => by
      obtain ⟨h1, h2⟩ := eqLn_spec h
      exact ⟨h1.symm.trans hv.1, fun i p q => ih _ _ _ (h2 i (by rw [h1]; exact p) p) (hv.2 i (by rw [h1]; exact p) q)⟩
    unfold eqVn at h
    split at h
    · rename_i a b
      obtain ⟨h1, h2, h3⟩ := okPair_spec h
      cases hv with
      | ptr _ x k1 k2 =>
        refine .ptr _ _ h1 fun hl => ?_
        obtain ⟨q1, q2, _⟩ := h3 hl
        rw [k2 q1]
        simp [Corr.at, Corr.ren, q2, h2]
    · rename_i a l c b l' c'
      simp only [Bool.and_eq_true] at h
      obtain ⟨⟨e1, e2⟩, h⟩ := h
      obtain rfl := Nat.eq_of_beq_eq_true e1
      obtain rfl := Nat.eq_of_beq_eq_true e2
      obtain ⟨h1, h2, h3⟩ := okPair_spec h
      cases hv with
      | slc _ _ _ x cap' k1 k2 =>
        refine .slc _ _ _ _ _ h1 fun o ho ht => ?_
        obtain ⟨⟨o1, ho1, ht1⟩, q2, q3, q4⟩ := h3 ⟨o, ho, ht⟩
        obtain ⟨k3, k4⟩ := k2 o1 ho1 ht1
        refine ⟨by rw [k3]; simp [Corr.at, Corr.ren, q2, h2], ?_⟩
        have hesz : o1.esz = o.esz := by simpa [eszAt, ho1, ho] using q4
        unfold capOk at k4 ⊢
        cases hs : b.spot with
        | none =>
          have : a.spot = none := by rw [hs] at q3; cases ha : a.spot with
            | none => rfl
            | some t => rw [ha] at q3; cases q3
          rw [this] at k4
          exact k4
        | some t =>
          obtain ⟨t', ht'⟩ : ∃ t', a.spot = some t' := by
            cases ha : a.spot with
            | none => rw [ha, hs] at q3; cases q3
            | some t' => exact ⟨t', rfl⟩
          rw [ht'] at k4
          simp only [Corr.ren]
          rw [q2, ← hesz, ← h2]
          exact k4
    · rename_i r s
      obtain ⟨h1, h2⟩ := okRef_spec h
      cases hv with
      | map _ x k1 k2 =>
        refine .map _ _ h1 fun o ho ht => ?_
        obtain ⟨⟨o1, q1, q2⟩, q3⟩ := h2 o ho ht
        rw [k2 o1 q1 q2]
        simp [Corr.ren, q3]
    · rename_i r s
      obtain ⟨h1, h2⟩ := okRef_spec h
      cases hv with
      | yld _ x k1 k2 =>
        refine .yld _ _ h1 fun o ho ht => ?_
        obtain ⟨⟨o1, q1, q2⟩, q3⟩ := h2 o ho ht
        rw [k2 o1 q1 q2]
        simp [Corr.ren, q3]
    · rename_i f a b g a' b'
      simp only [Bool.and_eq_true] at h
      obtain ⟨⟨h1, h2⟩, h3⟩ := h
      have hfg : f = g := by
        unfold fnEq at h1
        split at h1
        · rw [Nat.eq_of_beq_eq_true h1]
        · cases h1
      subst hfg
      cases hv with
      | func _ _ x _ y p1 p2 p3 p4 =>
        obtain ⟨r1, r2⟩ := rows h2 (agg_VRs p1 p3)
        obtain ⟨r3, r4⟩ := rows h3 (agg_VRs p2 p4)
        exact .func _ _ _ _ _ (by simpa using r1) (by simpa using r3) (fun i p q => r2 i (by simpa using p) (by simpa using q)) (fun i p q => r4 i (by simpa using p) (by simpa using q))
    · rename_i t x0 s y0
      simp only [Bool.and_eq_true] at h
      obtain rfl := Nat.eq_of_beq_eq_true h.1
      cases hv with
      | iface _ _ z hz => exact .iface _ _ _ (ih _ _ _ h.2 hz)
    · rename_i a b
      cases hv with
      | agg _ x p1 p3 =>
        obtain ⟨r1, r2⟩ := rows h (agg_VRs p1 p3)
        exact .agg _ _ (by simpa using r1) (fun i p q => r2 i (by simpa using p) (by simpa using q))
    · rename_i a b
      cases hv with
      | tuple _ x p1 p3 =>
        obtain ⟨r1, r2⟩ := rows h (agg_VRs p1 p3)
        exact .tuple _ _ (by simpa using r1) (fun i p q => r2 i (by simpa using p) (by simpa using q))
    · simp only [Bool.and_eq_true] at h
      rw [← veq1_spec h.2]
      exact plain_VR_any h.1 hv
def eqEn (f : Value → Value → Bool) : List (Value × Value) → List (Value × Value) → Bool
  | [], [] => true
  | x :: l, y :: l' => f x.1 y.1 && f x.2 y.2 && eqEn f l l'
  | _, _ => false
theorem eqEn_spec {f : Value → Value → Bool} : ∀ {a b : List (Value × Value)}, eqEn f a b = true → a.length = b.length ∧ ∀ (i : Nat) (h : i < a.length) (h' : i < b.length), f a[i].1 b[i].1 = true ∧ f a[i].2 b[i].2 = true := by
  intro a
  induction a with
  | nil => intro b h; cases b with
    | nil => exact ⟨rfl, fun i h => absurd h (by simp)⟩
    | cons x y => simp [eqEn] at h
  | cons x l ih =>
    intro b h
    cases b with
    | nil => simp [eqEn] at h
    | cons y l' =>
      simp only [eqEn, Bool.and_eq_true] at h
      obtain ⟨⟨h0, h1⟩, h2⟩ := h
      obtain ⟨h3, h4⟩ := ih h2
      refine ⟨by simp [h3], fun i a b => ?_⟩
      cases i with
      | zero => exact ⟨h0, h1⟩
      | succ i => exact h4 i (by simpa using a) (by simpa using b)
def eqOn (H1 H2 : Heap) (σ : Nat → Nat) (nx2 : Nat) (o p : AObj) : Bool :=
  match o, p with
  | .cells c e t r q, .cells c' e' t' r' q' => eqLn (eqVn H1 H2 σ nx2 8) c c' && Nat.beq e e' && (t.isSome == t'.isSome) && ltS nx2 t' && (r == r') && decide (q = q')
  | .map es bs k, .map es' bs' k' => eqEn (eqVn H1 H2 σ nx2 8) es es' && decide (bs = bs') && Nat.beq k k'
  | .siter s p, .siter s' p' => decide (s.data.toList = s'.data.toList) && Nat.beq p p'
  | .miter m a b c, .miter m' a' b' c' => eqVn H1 H2 σ nx2 1 (.map m) (.map m') && Nat.beq a a' && decide (b = b') && Nat.beq c c'
  | _, _ => false
theorem eqOn_sound {o p : AObj} {j : Nat} (h : eqOn H1 H2 σ nx2 o p = true) (ho : ORel nx1 H1 C w (σ j) o) : ORel nx2 H2 (C.ren σ) w j p ∧ (∀ t, p.tag = some t → t < nx2) ∧ p.ro = o.ro ∧ p.esz = o.esz ∧ (p.tag.isSome = o.tag.isSome) := by
  unfold eqOn at h
  split at h
  · rename_i c e t r q c' e' t' r' q'
    simp only [Bool.and_eq_true, beq_iff_eq, decide_eq_true_eq] at h
    obtain ⟨⟨⟨⟨⟨h1, h2⟩, h3⟩, h4⟩, h5⟩, h6⟩ := h
    obtain rfl := Nat.eq_of_beq_eq_true h2
    subst h5
    subst h6
    obtain ⟨Cc, el, fr, k1, k2, k3, k4, k5, k6, k7, k8⟩ := ho
    obtain ⟨g1, g2⟩ := eqLn_spec h1
    refine ⟨⟨Cc, el, fr, k1, k2, by simp only [Corr.ren]; rw [← g1]; exact k3, fun i a b => eqVn_sound 8 _ _ _ (g2 i (by rw [g1]; exact a) a) (k4 i (by rw [g1]; exact a) b), k5, k6, fun hr ht => ?_, k8⟩, fun t0 ht => ?_, rfl, rfl, h3.symm⟩
    · have : t = none := by
        cases t with
        | none => rfl
        | some x => rw [ht] at h3; cases h3
      obtain ⟨z1, z2⟩ := k7 hr this
      exact ⟨z1, by rw [← g1]; exact z2⟩
    · have ht' : t' = some t0 := ht
      rw [ht'] at h4
      simp only [ltS, Nat.blt_eq] at h4
      exact h4
  · rename_i es bs k es' bs' k'
    simp only [Bool.and_eq_true, decide_eq_true_eq] at h
    obtain ⟨⟨h1, h2⟩, h3⟩ := h
    obtain rfl := Nat.eq_of_beq_eq_true h3
    subst h2
    obtain ⟨es0, k1, k2, k3, k4⟩ := ho
    obtain ⟨g1, g2⟩ := eqEn_spec h1
    exact ⟨⟨es0, k1, by rw [← g1]; exact k2, fun i a b => ⟨eqVn_sound 8 _ _ _ (g2 i (by rw [g1]; exact a) a).1 (k3 i (by rw [g1]; exact a) b).1, eqVn_sound 8 _ _ _ (g2 i (by rw [g1]; exact a) a).2 (k3 i (by rw [g1]; exact a) b).2⟩, k4⟩,
      fun t ht => (by cases ht), rfl, rfl, rfl⟩
  · rename_i s p s' p'
    simp only [Bool.and_eq_true, decide_eq_true_eq] at h
    obtain rfl := Nat.eq_of_beq_eq_true h.2
    have : s = s' := by
      obtain ⟨⟨s⟩⟩ := s
      obtain ⟨⟨s'⟩⟩ := s'
      have := h.1
      simp only at this
      rw [this]
    subst this
    exact ⟨ho, fun t ht => (by cases ht), rfl, rfl, rfl⟩
  · rename_i m a b c m' a' b' c'
    simp only [Bool.and_eq_true, decide_eq_true_eq] at h
    obtain ⟨⟨⟨h1, h2⟩, h3⟩, h4⟩ := h
    obtain rfl := Nat.eq_of_beq_eq_true h2
    obtain rfl := Nat.eq_of_beq_eq_true h4
    subst h3
    obtain ⟨m0, k1, k2, k3⟩ := ho
    exact ⟨⟨m0, k1, k2, eqVn_sound 1 _ _ _ h1 k3⟩, fun t ht => (by cases ht), rfl, rfl, rfl⟩
  · cases h
theorem renum_core {nx0 : Nat} {H0 : Heap} {C0 : Corr} {v v2 v' : Value} (hR : Rel W0 C nx1 H1 w) (hv : VR nx1 H1 C v v') (hS : Stp nx0 H0 C0 nx1 H1 C) (hng : NG ≤ nx0) (hle : nx0 ≤ nx2) (hval : eqVn H1 H2 σ nx2 8 v v2 = true)
    (hobj : ∀ j p, H2 j = some p → j < nx2 ∧ ∃ o, H1 (σ j) = some o ∧ eqOn H1 H2 σ nx2 o p = true) (hinj : ∀ i j pi pj, H2 i = some pi → H2 j = some pj → σ i = σ j → i = j) (hlow : ∀ j, j < nx0 → σ j = j)
    (htag : ∀ j p o, j < nx0 → H2 j = some p → H1 j = some o → p.tag = o.tag ∨ ∃ t, p.tag = some t ∧ nx0 ≤ t) (hlp : ∀ m, m < nx0 → isLoop (H1 m) = false) :
    Rel W0 (C.ren σ) nx2 H2 w ∧ VR nx2 H2 (C.ren σ) v2 v' ∧ Stp nx0 H0 C0 nx2 H2 (C.ren σ) := by
  refine ⟨⟨hR.below, fun j p hp => ?_, fun j p hp => ?_, fun j p hp hro => ?_, fun i j pi pj hi hj hne hro => ?_, hR.pin, Nat.le_trans hng hle, fun g p hg hp => ?_, fun j p hp => ?_⟩, eqVn_sound 8 _ _ _ hval hv, ⟨⟨hle, fun id p hid hp ht => ?_⟩, hS.pin, fun id hid hl => ?_⟩⟩
  · obtain ⟨h1, o, ho, he⟩ := hobj j p hp
    exact ⟨h1, (eqOn_sound he (hR.obj _ _ ho)).2.1⟩
  · obtain ⟨h1, o, ho, he⟩ := hobj j p hp
    exact (eqOn_sound he (hR.obj _ _ ho)).1
  · obtain ⟨h1, o, ho, he⟩ := hobj j p hp
    have := (eqOn_sound he (hR.obj _ _ ho)).2.2.1
    exact hR.own _ o ho (by rw [← this]; exact hro)
  · obtain ⟨h1, o, ho, he⟩ := hobj i pi hi
    obtain ⟨g1, o', ho', he'⟩ := hobj j pj hj
    have := (eqOn_sound he (hR.obj _ _ ho)).2.2.1
    exact hR.sep _ _ o o' ho ho' (fun e => hne (hinj i j pi pj hi hj e)) (by rw [← this]; exact hro)
  · obtain ⟨h1, o, ho, he⟩ := hobj g p hp
    have hs := hlow g (Nat.lt_of_lt_of_le hg hng)
    rw [hs] at ho
    have q := (eqOn_sound (by have := he; exact this) (hR.obj _ _ (by rw [hs]; exact ho))).2.2.1
    obtain ⟨a, b⟩ := hR.glob g o hg ho
    exact ⟨by rw [q]; exact a, by simp only [Corr.ren]; rw [hs]; exact b⟩
  · obtain ⟨_, o, ho, _⟩ := hobj j p hp
    exact hR.apin _ o ho
  · obtain ⟨h1, o, ho, he⟩ := hobj id p hp
    have hs := hlow id hid
    have q := eqOn_sound he (hR.obj _ _ ho)
    rw [hs] at ho
    rcases htag id p o hid hp ho with e | ⟨t, e, hge⟩
    · obtain ⟨o0, k1, k2, k3, k4, k5⟩ := hS.keep id o hid ho (fun t h => ht t (by rw [e]; exact h))
      exact ⟨o0, k1, k2.trans e.symm, k3.trans q.2.2.2.1.symm, by simp only [Corr.ren]; rw [hs]; exact k4, by simp only [Corr.ren]; rw [hs]; exact k5⟩
    · have := ht t e
      omega
  · have := (hS.fix id hid hl).1
    rw [hlp id hid] at this
    cases this
theorem ACalls.renum {P : Program} {f : FuncId} {args : List Value} {nx0 : Nat} {H0 : Heap} {Q Q' : Value → Nat → Heap → Prop} (h : ACalls P W0 f args nx0 H0 Q)
    (hq : ∀ v n1 G1, Q v n1 G1 → Q' v n1 G1 ∨ ∃ v2 n2 G2 τ, nx0 ≤ n2 ∧ eqVn G1 G2 τ n2 8 v v2 = true ∧ (∀ j p, G2 j = some p → j < n2 ∧ ∃ o, G1 (τ j) = some o ∧ eqOn G1 G2 τ n2 o p = true) ∧
      (∀ i j pi pj, G2 i = some pi → G2 j = some pj → τ i = τ j → i = j) ∧ (∀ j, j < nx0 → τ j = j) ∧ (∀ j p o, j < nx0 → G2 j = some p → G1 j = some o → p.tag = o.tag ∨ ∃ t, p.tag = some t ∧ nx0 ≤ t) ∧
      (∀ m, m < nx0 → isLoop (G1 m) = false) ∧ Q' v2 n2 G2) : ACalls P W0 f args nx0 H0 Q' := by
  intro C w args' hR ha
  refine (h C w args' hR ha).mono ?_
  rintro e w' ⟨v, v', C', n1, G1, he, hv, hR1, hvr, hS⟩
  rcases hq v n1 G1 hv with hq' | ⟨v2, n2, G2, τ, q1, q2, q3, q4, q5, q6, q7, q8⟩
  · exact ⟨v, v', C', n1, G1, he, hq', hR1, hvr, hS⟩
  · obtain ⟨a, b, c⟩ := renum_core hR1 hvr hS hR.base q1 q2 q3 q4 q5 q6 q7
    exact ⟨v2, v', _, n2, G2, he, q8, a, b, c⟩
end
end Go.Am
