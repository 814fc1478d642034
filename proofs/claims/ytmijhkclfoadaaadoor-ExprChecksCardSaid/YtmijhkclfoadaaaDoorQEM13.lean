import Derived.Test.YtmijhkclfoadaaaDoorQEM12
import Derived.Orders
namespace Go.Am
set_option linter.unusedSimpArgs false
set_option linter.unusedVariables false
open Go.RowKit
def opTs (o : Oper) : List Tmp := o.op.operands.toList.filterMap fun | .tmp t => some t | _ => none
def evR (ts : List Tmp) (tm : Nat → Value) : Operand → Option Value
  | .tmp t => if ts.contains t then some (tm t) else none
  | .const v => if plainC v then some v else none
  | .func f => some (.func (.func f) #[] #[])
  | .global g => cond (Nat.blt g NG) (some (.pointer (some ⟨g, 0, none⟩))) none
def gdst (ops : Array Oper) (o : Oper) : Option Tmp :=
  match o.guard with
  | none => none
  | some (j, _) => (ops[j]?).bind (·.dst)
def wantsT (ops : Array Oper) (tm : Nat → Value) (o : Oper) : Bool :=
  match o.guard with
  | none => true
  | some (_, want) =>
    match gdst ops o with
    | some d => match tm d with
      | .bool b => b == want
      | _ => false
    | none => false
def calleeE (ev : Operand → Option Value) (o : Oper) : Option (FuncId × List Value) :=
  match o.op with
  | .call c =>
    match c.callee with
    | .value x =>
      match ev x, evAll ev c.args.toList with
      | some (.func (.func f) first captured), some l => some (f, (first.toList ++ l) ++ captured.toList)
      | _, _ => none
    | _ => none
  | _ => none
theorem evR_congr {ts : List Tmp} {tm tm' : Nat → Value} (h : ∀ t ∈ ts, tm t = tm' t) : evR ts tm = evR ts tm' := by
  funext x
  cases x with
  | tmp t =>
    simp only [evR]
    split
    · rename_i hc; rw [h t (List.contains_iff_mem.1 hc)]
    · rfl
  | _ => rfl
def dep (o : Oper) (j : Nat) : Prop := ∃ e ∈ o.after, Region.binds .any e = true ∧ e.on = j
def yieldE (ev : Operand → Option Value) (o : Oper) : Option (Nat × List Value) :=
  match o.op with
  | .call c =>
    match c.callee with
    | .value x =>
      match ev x, evAll ev c.args.toList with
      | some (.chan (some l)), some args => some (l, args)
      | _, _ => none
    | _ => none
  | _ => none
def AYields (P : Program) (W0 : World) (l : Nat) (args : List Value) (nx : Nat) (H : Heap) (Q : Value → Nat → Heap → Prop) : Prop :=
  ∀ C w args', Rel W0 C nx H w → VRs nx H C args args' → ∃ fn tmps asg body, (Instr.yield (C.loc l).1 args'.toArray).run P w = .ok (.round (C.loc l).1 fn tmps asg body) w ∧
    RoundIn Fence.wide 0 P (C.loc l).1 fn tmps asg body w fun e w' => ∃ v v' C' nx' H', e = .returned v' ∧ Q v nx' H' ∧ Rel W0 C' nx' H' w' ∧ VR nx' H' C' v v' ∧ Stp nx H C nx' H' C'
def YB : Nat := 2000000000
def XB : Nat := 1500000000
def calleeG (ev : Operand → Option Value) (o : Oper) : Option (FuncId × List Value) :=
  match o.op with
  | .call c =>
    match c.callee with
    | .value x =>
      match ev x, evAll ev c.args.toList with
      | some (.func (.func f) first captured), some l => cond (Nat.blt f XB) (some (f, (first.toList ++ l) ++ captured.toList)) none
      | some (.chan (some l)), some args => some (YB + l, args)
      | _, _ => none
    | _ => none
  | _ => none
def GCalls (P : Program) (W0 : World) (f : FuncId) (args : List Value) (nx : Nat) (H : Heap) (Q : Value → Nat → Heap → Prop) : Prop :=
  (f < YB ∧ Enters P f ∧ ACalls P W0 f args nx H Q) ∨ (∃ l, f = YB + l ∧ isLoop (H l) = true ∧ AYields P W0 l args nx H Q)
theorem calleeG_cases {ev : Operand → Option Value} {o : Oper} {f : FuncId} {args : List Value} (h : calleeG ev o = some (f, args)) : (f < XB ∧ calleeE ev o = some (f, args)) ∨ ∃ l, f = YB + l ∧ yieldE ev o = some (l, args) := by
  unfold calleeG at h
  cases ho : o.op with
  | call c =>
    simp only [ho] at h
    cases hc : c.callee with
    | value x =>
      simp only [hc] at h
      split at h
      · rename_i g a b l h1 h2
        cases hb : Nat.blt g XB with
        | false => rw [hb] at h; cases h
        | true =>
          rw [hb] at h
          simp only [cond_true, Option.some.injEq, Prod.mk.injEq] at h
          obtain ⟨rfl, rfl⟩ := h
          left
          refine ⟨by rw [Nat.blt_eq] at hb; exact hb, ?_⟩
          unfold calleeE
          simp only [ho, hc, h1, h2]
      · rename_i l aas h1 h2
        right
        simp only [Option.some.injEq, Prod.mk.injEq] at h
        obtain ⟨rfl, rfl⟩ := h
        refine ⟨l, rfl, ?_⟩
        unfold yieldE
        simp only [ho, hc, h1, h2]
      · cases h
    | _ => simp only [hc] at h; cases h
  | _ => simp only [ho] at h; cases h
theorem evAll_up {st : ASt} {ev : Operand → Option Value} (hev : ∀ x v, ev x = some v → st.ev x = some v) : ∀ (l : List Operand) (r : List Value), evAll ev l = some r → evAll st.ev l = some r := by
  intro l
  induction l with
  | nil => intro r h; exact h
  | cons x l ih =>
    intro r h
    simp only [evAll] at h ⊢
    split at h
    · rename_i v l' hv hl
      rw [hev x v hv, ih l' hl]
      exact h
    · cases h
theorem yield_run {P : Program} {W0 : World} {C : Corr} {st : ASt} {a : Act} {w : World} (hs : SRel W0 C st a w) {ev : Operand → Option Value} (hev : ∀ x v, ev x = some v → st.ev x = some v) {o : Oper} {l : Nat} {args : List Value} (h : yieldE ev o = some (l, args)) (hl : isLoop (st.H l) = true) :
    ∃ args' : List Value, VRs st.nx st.H C args args' ∧ ∀ ro, (o.semAt ro a.eval).run P w = (Instr.yield (C.loc l).1 args'.toArray).run P w := by
  unfold yieldE at h
  split at h
  · rename_i c hc
    split at h
    · rename_i x hx
      split at h
      · rename_i l' aas h1 h2
        simp only [Option.some.injEq, Prod.mk.injEq] at h
        obtain ⟨rfl, rfl⟩ := h
        have ha := evAll_sound hs.ev _ _ (evAll_up hev _ _ h2)
        have hv := hs.ev x _ (hev _ _ h1)
        obtain ⟨ob, hob, hot⟩ : ∃ ob, st.H l' = some ob ∧ ob.tag = none := by
          cases hq : st.H l' with
          | none => rw [hq] at hl; cases hl
          | some ob => cases ob <;> first | exact ⟨_, rfl, rfl⟩ | (rw [hq] at hl; cases hl)
        generalize hu : a.eval x = u at hv
        cases hv with
        | yld _ b' q1 q2 =>
          refine ⟨c.args.toList.map a.eval, ha, fun ro => ?_⟩
          rw [Oper.semAt_eq ro a.eval o (fun d hd => by rw [hc] at hd; cases hd)]
          have e : (c.args.toList.map a.eval).toArray = c.args.map a.eval := by apply Array.ext'; simp
          rw [e, ← q2 ob hob hot]
          simp only [execOp, hc, resolve, hx, Deferred.ofValue, hu, Sem.run_bind, Sem.run_pure, Result.andThen_ok, invoke, Array.empty_append]
      · cases h
    · cases h
  · cases h
def DStep (P : Program) (W0 : World) (ops : Array Oper) (tm : Nat → Value) (n : Nat) (H : Heap) (nx : Nat) (o : Oper) (v : Value) (H' : Heap) (nx' : Nat) : Prop :=
  (∀ d, o.dst = some d → d < n) ∧
  ((wantsT ops tm o = false ∧ v = undef ∧ H' = H ∧ nx' = nx) ∨
   (wantsT ops tm o = true ∧ ((∃ e, aop P H nx (evR (opTs o) tm) o = some (v, e) ∧ H' = e.H nx H ∧ nx' = e.nx nx) ∨
     (∃ f args, calleeE (evR (opTs o) tm) o = some (f, args) ∧ Enters P f ∧ ACalls P W0 f args nx H fun v1 n1 H1 => v1 = v ∧ n1 = nx' ∧ H1 = H') ∨
     (∃ f args, calleeG (evR (opTs o) tm) o = some (f, args) ∧ GCalls P W0 f args nx H fun v1 n1 H1 => v1 = v ∧ n1 = nx' ∧ H1 = H'))))
section
variable {P : Program} {W0 : World} {ops : Array Oper}
theorem wantsT_congr {tm tm' : Nat → Value} {o : Oper} (h : ∀ d, gdst ops o = some d → tm d = tm' d) : wantsT ops tm o = wantsT ops tm' o := by
  unfold wantsT
  cases hg : o.guard with
  | none => rfl
  | some g =>
    simp only
    cases hd : gdst ops o with
    | none => rfl
    | some d => simp only [h d hd]
theorem DStep.congr {tm tm' : Nat → Value} {n : Nat} {H : Heap} {nx : Nat} {o : Oper} {v : Value} {H' : Heap} {nx' : Nat} (h : DStep P W0 ops tm n H nx o v H' nx') (h1 : ∀ t ∈ opTs o, tm t = tm' t) (h2 : ∀ d, gdst ops o = some d → tm d = tm' d) :
    DStep P W0 ops tm' n H nx o v H' nx' := by
  unfold DStep at *
  rw [← wantsT_congr h2, ← evR_congr h1]
  exact h
theorem wantsT_wants (st : ASt) (o : Oper) : wantsT ops st.tm o = wants ops st o := by
  unfold wantsT wants gdst
  cases o.guard with
  | none => rfl
  | some g => rfl
theorem evR_sound {C : Corr} {st : ASt} {a : Act} {w : World} (hs : SRel W0 C st a w) (ts : List Tmp) : ∀ x v, evR ts st.tm x = some v → VR st.nx st.H C v (a.eval x) := by
  intro x v hv
  apply hs.ev x v
  cases x with
  | tmp t =>
    simp only [evR] at hv
    split at hv
    · exact hv
    · cases hv
  | _ => exact hv
theorem calleeE_sound {C : Corr} {st : ASt} {a : Act} {w : World} (hs : SRel W0 C st a w) {ev : Operand → Option Value} (hev : ∀ x v, ev x = some v → st.ev x = some v) {o : Oper} {f : FuncId} {args : List Value} (h : calleeE ev o = some (f, args)) : callee st o = some (f, args) := by
  have hall : ∀ (l : List Operand) (r : List Value), evAll ev l = some r → evAll st.ev l = some r := by
    intro l
    induction l with
    | nil => intro r h; exact h
    | cons x l ih =>
      intro r h
      simp only [evAll] at h ⊢
      split at h
      · rename_i v l' hv hl
        rw [hev x v hv, ih l' hl]
        exact h
      · cases h
  unfold calleeE at h
  unfold callee
  cases ho : o.op <;> simp only [ho] at h ⊢ <;> try (cases h; done)
  rename_i c
  cases hc : c.callee <;> simp only [hc] at h ⊢ <;> try (cases h; done)
  rename_i x
  split at h
  · rename_i f' first captured l hx hl
    rw [hev x _ hx, hall _ _ hl]
    exact h
  · cases h
theorem evR_ev (st : ASt) (ts : List Tmp) : ∀ x v, evR ts st.tm x = some v → st.ev x = some v := by
  intro x v hv
  cases x with
  | tmp t =>
    simp only [evR] at hv
    split at hv
    · exact hv
    · cases hv
  | _ => exact hv
theorem GCalls.wp {ρ : Option Nat} {C : Corr} {st : ASt} {a : Act} {w : World} {ev : Operand → Option Value} {o : Oper} {f : FuncId} {args : List Value} {R : Value → Nat → Heap → Prop} {next : Act → World → Prop} {Q : Exit → Act → World → Prop}
    (hs : SRel W0 C st a w) (hev : ∀ x v, ev x = some v → st.ev x = some v) (hd : ∀ d, o.dst = some d → d < st.n) (hc : calleeG ev o = some (f, args)) (hg : GCalls P W0 f args st.nx st.H R)
    (hk : ∀ v v' C' nx' H' w', R v nx' H' → SRel W0 C' ⟨tmPut st.tm o.dst v, st.n, H', nx'⟩ (a.put o.dst v') w' → Stp st.nx st.H C nx' H' C' → next (a.put o.dst v') w') : o.wpIn (rf ρ) 0 P a w next Q := by
  refine ⟨fun _ _ => trivial, ?_⟩
  rcases calleeG_cases hc with ⟨hfl, hE⟩ | ⟨l, rfl, hY⟩
  · rcases hg with ⟨_, hf, hcall⟩ | ⟨l, rfl, hl, _⟩
    · have hE' := calleeE_sound hs hev hE
      obtain ⟨args', hrun, hargs⟩ := callee_sound hs hE' hf
      rw [show (rf ρ).round = ρ from rfl, callee_semAt hE', hrun]
      refine ⟨fun h => (by cases h), callsIn_rf ((hcall C w args' hs.rel hargs).mono ?_)⟩
      rintro e w'' ⟨v0, v', C', nx1, H1, rfl, hr, hR, hv, hS⟩
      exact hk v0 v' C' nx1 H1 w'' hr (hs.put hd hR hS hv) hS
    · exact absurd (Nat.lt_trans hfl (by decide : XB < YB)) (Nat.not_lt.2 (Nat.le_add_right YB l))
  · rcases hg with ⟨hlt, _, _⟩ | ⟨l', e, hl, hy⟩
    · exact absurd hlt (Nat.not_lt.2 (Nat.le_add_right YB l))
    · obtain rfl : l = l' := Nat.add_left_cancel e
      obtain ⟨args', ha, hrun⟩ := yield_run (P := P) hs hev hY hl
      rw [hrun]
      obtain ⟨fn, tmps, asg, body, h1, h2⟩ := hy C w args' hs.rel ha
      rw [h1]
      have h3 : RoundIn (rf ρ) (0 - 1) P (C.loc l).1 fn tmps asg body w fun e w' => ∃ v v' C' nx' H', e = .returned v' ∧ R v nx' H' ∧ Rel W0 C' nx' H' w' ∧ VR nx' H' C' v v' ∧ Stp st.nx st.H C nx' H' C' := h2
      refine ⟨fun h => (by cases h), h3.mono ?_⟩
      rintro e w'' ⟨v0, v', C', nx1, H1, rfl, hr, hR, hv, hS⟩
      exact hk v0 v' C' nx1 H1 w'' hr (hs.put hd hR hS hv) hS
theorem DStep.wp {ρ : Option Nat} {C : Corr} {tm : Nat → Value} {n : Nat} {H : Heap} {nx : Nat} {o : Oper} {v : Value} {H' : Heap} {nx' : Nat} {a : Act} {w : World} {i : Nat} {K : Act → World → Prop} {Q : Exit → Act → World → Prop} (hs : SRel W0 C ⟨tm, n, H, nx⟩ a w)
    (h : DStep P W0 ops tm n H nx o v H' nx') (ho : ops[i]? = some o)
    (hk : ∀ C' v' w', SRel W0 C' ⟨tmPut tm o.dst v, n, H', nx'⟩ (a.put o.dst v') w' → Stp nx H C nx' H' C' → K (a.put o.dst v') w') : wpOpIn (rf ρ) 0 P ops Q i K a w := by
  obtain ⟨hd, h⟩ := h
  have hww := wants_sound hs ops o
  rw [← wantsT_wants] at hww
  unfold wpOpIn
  rw [ho]
  simp only [hww]
  rcases h with ⟨hw, rfl, rfl, rfl⟩ | ⟨hw, h⟩
  · simp only [hw, Bool.false_eq_true, if_false]
    exact ⟨fun _ _ => trivial, hk C undef w (hs.put hd hs.rel (Stp.refl _ _ _) undef_VR) (Stp.refl _ _ _)⟩
  · simp only [hw, if_true]
    rcases h with ⟨e, hop, rfl, rfl⟩ | ⟨f, args, hc, hf, hcall⟩ | ⟨f, args, hc, hg⟩
    · refine ⟨fun _ _ => trivial, ?_⟩
      obtain ⟨nn, v', w', C', hrun, hn, hR, hS, hv⟩ := aop_sound hs.rel (evR_sound hs _) hop
      rw [aop_semAt hop, hrun]
      have := hk C' v' w' (hs.put hd hR hS hv) hS
      rcases hn with rfl | ⟨rfl, rfl⟩
      · exact this
      · exact this
    · refine ⟨fun _ _ => trivial, ?_⟩
      have hE' := calleeE_sound hs (evR_ev _ _) hc
      obtain ⟨args', hrun, hargs⟩ := callee_sound hs hE' hf
      rw [callee_semAt hE', hrun]
      refine ⟨fun h => (by cases h), callsIn_rf ((hcall C w args' hs.rel hargs).mono ?_)⟩
      rintro e w'' ⟨v0, v', C', nx1, H1, rfl, ⟨rfl, rfl, rfl⟩, hR, hv, hS⟩
      exact hk C' v' w'' (hs.put hd hR hS hv) hS
    · exact hg.wp hs (evR_ev _ _) hd hc (fun v1 v' C' nx1 H1 w' hr hs' hS => by obtain ⟨rfl, rfl, rfl⟩ := hr; exact hk C' v' w' hs' hS)
def depN (ops : Array Oper) : Nat → Oper → Nat → Prop
  | 0, o, i => dep o i
  | n + 1, o, i => dep o i ∨ ∃ m om, ops[m]? = some om ∧ dep o m ∧ depN ops n om i
structure Drawn (P : Program) (W0 : World) (ops : Array Oper) (st : ASt) (tms : Nat → Nat → Value) (vs : Nat → Value) (Hs : Nat → Heap) (ns : Nat → Nat) (isE : Nat → Bool) : Prop where
  t0 : tms 0 = st.tm
  h0 : Hs 0 = st.H
  n0 : ns 0 = st.nx
  tstep : ∀ (i : Nat) (o : Oper), ops[i]? = some o → tms (i + 1) = tmPut (tms i) o.dst (vs i)
  step : ∀ (i : Nat) (o : Oper), ops[i]? = some o → DStep P W0 ops (tms i) st.n (Hs i) (ns i) o (vs i) (Hs (i + 1)) (ns (i + 1))
  still : ∀ i, isE i = false → Hs (i + 1) = Hs i ∧ ns (i + 1) = ns i
  lex : ∀ (i : Nat) (o : Oper), ops[i]? = some o → ∀ j, dep o j → j < i
  one : ∀ (i j : Nat) (oi oj : Oper) (d : Tmp), ops[i]? = some oi → ops[j]? = some oj → oi.dst = some d → oj.dst = some d → i = j
  read : ∀ (i j : Nat) (oi oj : Oper) (t : Tmp), ops[i]? = some oi → ops[j]? = some oj → (t ∈ opTs oi ∨ gdst ops oi = some t) → oj.dst = some t → (j < i → dep oi j) ∧ (i < j → dep oj i)
  chain : ∀ (i j : Nat) (oj : Oper), isE i = true → isE j = true → ops[j]? = some oj → i < j → (∀ k, i < k → k < j → isE k = false) → ∃ n, depN ops n oj i
  stable : ∀ (i : Nat) (oi : Oper) (p : Nat), ops[i]? = some oi → isE i = false → wantsT ops (tms i) oi = true → (p = 0 ∨ ∃ e, p = e + 1 ∧ isE e = true) → p ≤ ops.size → (∀ j, isE j = true → dep oi j → j < p) →
    (∀ (e : Nat) (oe : Oper), isE e = true → e < p → ops[e]? = some oe → ¬ dep oe i) → aop P (Hs p) (ns p) (evR (opTs oi) (tms i)) oi = some (vs i, .none)
  inE : ∀ i, isE i = true → i < ops.size
variable {st : ASt} {tms : Nat → Nat → Value} {vs : Nat → Value} {Hs : Nat → Heap} {ns : Nat → Nat} {isE : Nat → Bool}
structure DInv (ops : Array Oper) (st : ASt) (vs : Nat → Value) (isE : Nat → Bool) (listed : Array Bool) (tm : Nat → Value) (p : Nat) : Prop where
  size : listed.size = ops.size
  down : ∀ (i : Nat) (o : Oper), ops[i]? = some o → listed.getD i false = true → ∀ j, dep o j → listed.getD j false = true
  pin : p = 0 ∨ ∃ e, p = e + 1 ∧ isE e = true
  ple : p ≤ ops.size
  pE : ∀ e, isE e = true → (listed.getD e false = true ↔ e < p)
  put : ∀ (i : Nat) (o : Oper) (d : Tmp), ops[i]? = some o → o.dst = some d → listed.getD i false = true → tm d = vs i
  old : ∀ t, (∀ (i : Nat) (o : Oper), ops[i]? = some o → o.dst = some t → listed.getD i false = false) → tm t = st.tm t
theorem Drawn.tms_put (h : Drawn P W0 ops st tms vs Hs ns isE) : ∀ i, i ≤ ops.size → (∀ (j : Nat) (o : Oper) (d : Tmp), j < i → ops[j]? = some o → o.dst = some d → tms i d = vs j) ∧ (∀ t, (∀ (j : Nat) (o : Oper), j < i → ops[j]? = some o → o.dst ≠ some t) → tms i t = st.tm t) := by
  intro i
  induction i with
  | zero => exact fun _ => ⟨fun j o d hj => by omega, fun t _ => by rw [h.t0]⟩
  | succ i ih =>
    intro hi
    obtain ⟨h1, h2⟩ := ih (by omega)
    have ho : ops[i]? = some ops[i] := by simp
    have ht := h.tstep i _ ho
    refine ⟨fun j o d hj hoj hd => ?_, fun t hn => ?_⟩
    · rw [ht]
      by_cases e : j = i
      · subst e
        rw [ho] at hoj
        cases hoj
        simp [tmPut, hd]
      · have hne : ops[i].dst ≠ some d := fun x => e (h.one _ _ _ _ d hoj ho hd x)
        have := h1 j o d (by omega) hoj hd
        cases hdi : ops[i].dst with
        | none => simpa [tmPut] using this
        | some d' =>
          have : d ≠ d' := fun x => hne (by rw [hdi, x])
          simp only [tmPut, this, if_false]
          exact h1 j o d (by omega) hoj hd
    · rw [ht]
      have hne := hn i _ (by omega) ho
      have := h2 t (fun j o hj hoj => hn j o (by omega) hoj)
      cases hdi : ops[i].dst with
      | none => simpa [tmPut] using this
      | some d' =>
        have hx : t ≠ d' := fun x => hne (by rw [hdi, x])
        simp only [tmPut, hx, if_false]
        exact this
theorem Drawn.reads (h : Drawn P W0 ops st tms vs Hs ns isE) {listed : Array Bool} {tm : Nat → Value} {p : Nat} (hi : DInv ops st vs isE listed tm p) {i : Nat} {o : Oper} (ho : ops[i]? = some o) (hun : listed.getD i false = false)
    (hall : ∀ j, dep o j → listed.getD j false = true) {t : Nat} (ht : t ∈ opTs o ∨ gdst ops o = some t) : tms i t = tm t := by
  have hlt : i < ops.size := (Array.getElem?_eq_some_iff.1 ho).1
  obtain ⟨h1, h2⟩ := h.tms_put i (by omega)
  by_cases hw : ∃ (j : Nat) (oj : Oper), ops[j]? = some oj ∧ oj.dst = some t
  · obtain ⟨j, oj, hj, hd⟩ := hw
    obtain ⟨r1, r2⟩ := h.read i j o oj t ho hj ht hd
    by_cases hji : j < i
    · rw [h1 j oj t hji hj hd, hi.put j oj t hj hd (hall j (r1 hji))]
    · have hnl : listed.getD j false = false := by
        by_cases e : j = i
        · subst e; exact hun
        · have hdep := r2 (by omega)
          cases hl : listed.getD j false with
          | false => rfl
          | true => have := hi.down j oj hj hl i hdep; rw [hun] at this; cases this
      rw [h2 t (fun k ok hk hok hdk => by have := h.one k j ok oj t hok hj hdk hd; omega)]
      exact (hi.old t (fun k ok hok hdk => by rw [h.one k j ok oj t hok hj hdk hd]; exact hnl)).symm
  · rw [h2 t (fun j oj hj hoj hd => hw ⟨j, oj, hoj, hd⟩), hi.old t (fun j oj hj hd => absurd ⟨j, oj, hj, hd⟩ hw)]
theorem still_range (h : Drawn P W0 ops st tms vs Hs ns isE) : ∀ (k p : Nat), (∀ j, p ≤ j → j < p + k → isE j = false) → Hs (p + k) = Hs p ∧ ns (p + k) = ns p := by
  intro k
  induction k with
  | zero => intro p _; exact ⟨rfl, rfl⟩
  | succ k ih =>
    intro p hp
    obtain ⟨a, b⟩ := ih p (fun j h1 h2 => hp j h1 (by omega))
    obtain ⟨c, d⟩ := h.still (p + k) (hp (p + k) (by omega) (by omega))
    exact ⟨by rw [← Nat.add_assoc, c, a], by rw [← Nat.add_assoc, d, b]⟩
theorem getD_set_self {listed : Array Bool} {i : Nat} (h : i < listed.size) (d : Bool) : (listed.setIfInBounds i true).getD i d = true := by
  rw [Array.getD_eq_getD_getElem?, Array.getElem?_setIfInBounds_self_of_lt h]; rfl
theorem getD_lt {listed : Array Bool} {i : Nat} (h : i < listed.size) (d e : Bool) : listed.getD i d = listed.getD i e := by
  rw [Array.getD_eq_getD_getElem?, Array.getD_eq_getD_getElem?, Array.getElem?_eq_getElem h]; rfl
theorem drawn_any (h : Drawn P W0 ops st tms vs Hs ns isE) {ρ : Option Nat} {C0 : Corr} {df : List Deferred} {Q : Exit → Act → World → Prop}
    (hq : ∀ C a w, SRel W0 C ⟨tms ops.size, st.n, Hs ops.size, ns ops.size⟩ a w → Stp st.nx st.H C0 (ns ops.size) (Hs ops.size) C → a.defers = df → Q .normal a w) :
    ∀ (fuel : Nat) (listed : Array Bool) (tm : Nat → Value) (p : Nat) (C : Corr) (a : Act) (w : World), DInv ops st vs isE listed tm p → ((List.range ops.size).filter fun i => !listed.getD i false).length = fuel →
      SRel W0 C ⟨tm, st.n, Hs p, ns p⟩ a w → Stp st.nx st.H C0 (ns p) (Hs p) C → a.defers = df → wpAnyIn (rf ρ) 0 P .any ops Q fuel listed a w := by
  intro fuel
  induction fuel with
  | zero =>
    intro listed tm p C a w hi hf hs hS hdf
    have hall : ∀ i, i < ops.size → listed.getD i false = true := by
      intro i hlt
      cases hl : listed.getD i false with
      | true => rfl
      | false =>
        have : i ∈ (List.range ops.size).filter fun i => !listed.getD i false := List.mem_filter.2 ⟨List.mem_range.2 hlt, by rw [hl]; rfl⟩
        rw [List.length_eq_zero_iff.1 hf] at this
        cases this
    refine ⟨?_, ?_⟩
    · cases hr : Region.ready .any ops listed with
      | nil => rfl
      | cons j r =>
        have hj : j ∈ Region.ready .any ops listed := by rw [hr]; exact List.mem_cons_self ..
        obtain ⟨h0, o, ho, _⟩ := mem_ready.1 hj
        have hlt : j < ops.size := (Array.getElem?_eq_some_iff.1 ho).1
        have := hall j hlt
        rw [getD_lt (by rw [hi.size]; exact hlt) false true, h0] at this
        cases this
    · have hp : ∀ e, isE e = true → e < p := fun e he => (hi.pE e he).1 (hall e (h.inE e he))
      have hple := hi.ple
      obtain ⟨k, hk⟩ : ∃ k, ops.size = p + k := ⟨ops.size - p, by omega⟩
      obtain ⟨e1, e2⟩ := still_range h k p (fun j h1 h2 => by
        cases hj : isE j with
        | false => rfl
        | true => have := hp j hj; omega)
      rw [← hk] at e1 e2
      have htm : tm = tms ops.size := by
        funext t
        obtain ⟨q1, q2⟩ := h.tms_put ops.size (Nat.le_refl _)
        by_cases hw : ∃ (j : Nat) (oj : Oper), ops[j]? = some oj ∧ oj.dst = some t
        · obtain ⟨j, oj, hj, hd⟩ := hw
          have hlt : j < ops.size := (Array.getElem?_eq_some_iff.1 hj).1
          rw [q1 j oj t hlt hj hd, hi.put j oj t hj hd (hall j hlt)]
        · rw [q2 t (fun j oj _ hoj hd => hw ⟨j, oj, hoj, hd⟩), hi.old t (fun j oj hj hd => absurd ⟨j, oj, hj, hd⟩ hw)]
      refine hq C a w ?_ ?_ hdf
      · rw [e1, e2, ← htm]; exact hs
      · rw [e1, e2]; exact hS
  | succ fuel ih =>
    intro listed tm p C a w hi hf hs hS hdf
    refine ⟨?_, ?_⟩
    · -- one is ready
      intro hr
      exfalso
      -- the least that has not come up
      have hex : ∃ i, i < ops.size ∧ listed.getD i false = false ∧ ∀ j, j < i → listed.getD j false = true := by
        have : ∃ i, i < ops.size ∧ listed.getD i false = false := by
          cases hl : (List.range ops.size).filter fun i => !listed.getD i false with
          | nil => rw [hl] at hf; simp at hf
          | cons i r =>
            have : i ∈ (List.range ops.size).filter fun i => !listed.getD i false := by rw [hl]; exact List.mem_cons_self ..
            obtain ⟨h1, h2⟩ := List.mem_filter.1 this
            exact ⟨i, List.mem_range.1 h1, by simpa using h2⟩
        obtain ⟨i, h1, h2⟩ := this
        induction i using Nat.strongRecOn with
        | _ i ihh =>
          by_cases hm : ∃ j, j < i ∧ listed.getD j false = false
          · obtain ⟨j, hj1, hj2⟩ := hm
            exact ihh j hj1 (by omega) hj2
          · refine ⟨i, h1, h2, fun j hj => ?_⟩
            cases hl : listed.getD j false with
            | true => rfl
            | false => exact absurd ⟨j, hj, hl⟩ hm
      obtain ⟨i, hlt, hun, hmin⟩ := hex
      have ho : ops[i]? = some ops[i] := by simp
      have : i ∈ Region.ready .any ops listed := mem_ready.2 ⟨by rw [getD_lt (by rw [hi.size]; exact hlt) true false]; exact hun, _, ho, fun e he hb => hmin _ (h.lex i _ ho e.on ⟨e, he, hb, rfl⟩)⟩
      rw [hr] at this
      cases this
    · intro i hir
      obtain ⟨h0, o, ho, hall0⟩ := mem_ready.1 hir
      have hlt : i < ops.size := (Array.getElem?_eq_some_iff.1 ho).1
      have hlts : i < listed.size := by rw [hi.size]; exact hlt
      have hun : listed.getD i false = false := by rw [getD_lt hlts false true]; exact h0
      have hall : ∀ j, dep o j → listed.getD j false = true := fun j ⟨e, he, hb, hj⟩ => hj ▸ hall0 e he hb
      have hrd := fun t ht => h.reads hi ho hun hall (t := t) ht
      have hcount : ((List.range ops.size).filter fun j => !(listed.setIfInBounds i true).getD j false).length = fuel := by
        have key : ∀ (l : List Nat), l.Nodup → i ∈ l → ((l.filter fun j => !(listed.setIfInBounds i true).getD j false).length + 1 = (l.filter fun j => !listed.getD j false).length) := by
          intro l
          induction l with
          | nil => intro _ hm; cases hm
          | cons x l ihl =>
            intro hnd hm
            rw [List.nodup_cons] at hnd
            by_cases e : x = i
            · subst e
              have hsame : (l.filter fun j => !(listed.setIfInBounds x true).getD j false) = (l.filter fun j => !listed.getD j false) := by
                apply List.filter_congr
                intro y hy
                rw [getD_set_ne false (fun z : x = y => hnd.1 (by rw [z]; exact hy))]
              rw [List.filter_cons, List.filter_cons]
              simp only [getD_set_self hlts, hun, Bool.not_true, Bool.not_false, Bool.false_eq_true, if_false, if_true, List.length_cons, hsame]
            · have hm' : i ∈ l := by
                cases hm with
                | head => exact absurd rfl e
                | tail _ hm => exact hm
              have := ihl hnd.2 hm'
              rw [List.filter_cons, List.filter_cons, getD_set_ne false (Ne.symm e)]
              split
              · simp only [List.length_cons]; omega
              · exact this
        have := key (List.range ops.size) List.nodup_range (List.mem_range.2 hlt)
        omega
      have hdown' : ∀ (k : Nat) (ok : Oper), ops[k]? = some ok → (listed.setIfInBounds i true).getD k false = true → ∀ j, dep ok j → (listed.setIfInBounds i true).getD j false = true := by
        intro k ok hok hk j hj
        apply getD_set_true
        by_cases e : i = k
        · subst e
          rw [ho] at hok
          cases hok
          exact hall j hj
        · rw [getD_set_ne false e] at hk
          exact hi.down k ok hok hk j hj
      have hput' : ∀ (k : Nat) (ok : Oper) (d : Tmp), ops[k]? = some ok → ok.dst = some d → (listed.setIfInBounds i true).getD k false = true → tmPut tm o.dst (vs i) d = vs k := by
        intro k ok d hok hd hk
        by_cases e : i = k
        · subst e
          rw [ho] at hok
          cases hok
          simp [tmPut, hd]
        · rw [getD_set_ne false e] at hk
          have := hi.put k ok d hok hd hk
          cases hdo : o.dst with
          | none => simpa [tmPut] using this
          | some d' =>
            have hne : d ≠ d' := fun x => e (h.one i k o ok d ho hok (by rw [hdo, x]) hd)
            simp only [tmPut, hne, if_false]
            exact this
      have hold' : ∀ t, (∀ (k : Nat) (ok : Oper), ops[k]? = some ok → ok.dst = some t → (listed.setIfInBounds i true).getD k false = false) → tmPut tm o.dst (vs i) t = st.tm t := by
        intro t ht
        have hne : o.dst ≠ some t := fun x => by
          have := ht i o ho x
          rw [getD_set_self hlts] at this
          cases this
        have := hi.old t (fun k ok hok hd => by
          have := ht k ok hok hd
          by_cases e : i = k
          · subst e; exact hun
          · rwa [getD_set_ne false e] at this)
        cases hdo : o.dst with
        | none => simpa [tmPut] using this
        | some d' =>
          have hx : t ≠ d' := fun x => hne (by rw [hdo, x])
          simp only [tmPut, hx, if_false]
          exact this
      cases hE : isE i with
      | false =>
        have hds : DStep P W0 ops tm st.n (Hs p) (ns p) o (vs i) (Hs p) (ns p) := by
          have hc := h.step i o ho
          have hw : wantsT ops (tms i) o = wantsT ops tm o := wantsT_congr (fun d hd => hrd d (.inr hd))
          refine ⟨hc.1, ?_⟩
          cases hwt : wantsT ops tm o with
          | false =>
            rcases hc.2 with ⟨_, x, _⟩ | ⟨x, _⟩
            · exact .inl ⟨rfl, x, rfl, rfl⟩
            · rw [hw, hwt] at x; cases x
          | true =>
            refine .inr ⟨rfl, .inl ⟨.none, ?_, rfl, rfl⟩⟩
            rw [← evR_congr (fun t ht => hrd t (.inl ht))]
            refine h.stable i o p ho hE (by rw [hw, hwt]) hi.pin hi.ple (fun j hj hd => (hi.pE j hj).1 (hall j hd)) ?_
            intro e oe he hep hoe hd
            have := hi.down e oe hoe ((hi.pE e he).2 hep) i hd
            rw [hun] at this
            cases this
        refine hds.wp hs ho ?_
        intro C' v' w' hs' hS'
        refine ih (listed.setIfInBounds i true) (tmPut tm o.dst (vs i)) p C' _ w' ⟨by simp [hi.size], hdown', hi.pin, hi.ple, ?_, hput', hold'⟩ hcount hs' (hS.trans hS') ((put_defers _ _ _).trans hdf)
        intro e he
        have hne : i ≠ e := fun x => by rw [x, he] at hE; cases hE
        rw [getD_set_ne false hne]
        exact hi.pE e he
      | true =>
        -- all that act ahead of it have come up, none behind it
        have hip : ¬ i < p := fun x => by
          have := (hi.pE i hE).2 x
          rw [hun] at this
          cases this
        have hbetween : ∀ j, p ≤ j → j < i → isE j = false := by
          intro j hpj hji
          cases hj : isE j with
          | false => rfl
          | true =>
            exfalso
            -- the last that acts ahead of i has come up
            have hlast : ∃ k, isE k = true ∧ j ≤ k ∧ k < i ∧ ∀ m, k < m → m < i → isE m = false := by
              have : ∀ d k, isE k = true → j ≤ k → k < i → i - k ≤ d → ∃ k, isE k = true ∧ j ≤ k ∧ k < i ∧ ∀ m, k < m → m < i → isE m = false := by
                intro d
                induction d with
                | zero => intro k _ _ hk hd; omega
                | succ d ihd =>
                  intro k hk1 hk2 hk3 hd
                  by_cases hm : ∃ m, k < m ∧ m < i ∧ isE m = true
                  · obtain ⟨m, m1, m2, m3⟩ := hm
                    exact ihd m m3 (by omega) m2 (by omega)
                  · refine ⟨k, hk1, hk2, hk3, fun m m1 m2 => ?_⟩
                    cases hm3 : isE m with
                    | false => rfl
                    | true => exact absurd ⟨m, m1, m2, hm3⟩ hm
              exact this (i - j) j hj (Nat.le_refl _) hji (Nat.le_refl _)
            obtain ⟨k, k1, k2, k3, k4⟩ := hlast
            obtain ⟨dn, hd⟩ := h.chain k i o k1 hE ho k3 k4
            have reach : ∀ (n : Nat) (o : Oper) (i : Nat), (∀ j, dep o j → listed.getD j false = true) → depN ops n o i → listed.getD i false = true := by
              intro n
              induction n with
              | zero => intro o i ha hd; exact ha i hd
              | succ n ihn =>
                intro o i ha hd
                rcases hd with hd | ⟨m, om, hom, hdm, hd⟩
                · exact ha i hd
                · exact ihn om i (fun j hj => hi.down m om hom (ha m hdm) j hj) hd
            have := (hi.pE k k1).1 (reach dn o k hall hd)
            omega
        obtain ⟨m, hm⟩ : ∃ m, i = p + m := ⟨i - p, by omega⟩
        obtain ⟨e1, e2⟩ := still_range h m p (fun j h1 h2 => hbetween j h1 (by omega))
        rw [← hm] at e1 e2
        have hds : DStep P W0 ops tm st.n (Hs p) (ns p) o (vs i) (Hs (i + 1)) (ns (i + 1)) := by
          rw [← e1, ← e2]
          exact (h.step i o ho).congr (fun t ht => hrd t (.inl ht)) (fun d hd => hrd d (.inr hd))
        refine hds.wp hs ho ?_
        intro C' v' w' hs' hS'
        refine ih (listed.setIfInBounds i true) (tmPut tm o.dst (vs i)) (i + 1) C' _ w' ⟨by simp [hi.size], hdown', .inr ⟨i, rfl, hE⟩, by omega, ?_, hput', hold'⟩ hcount hs' (hS.trans hS') ((put_defers _ _ _).trans hdf)
        intro e he
        by_cases x : i = e
        · subst x
          rw [getD_set_self hlts]
          simp
        · rw [getD_set_ne false x]
          constructor
          · intro hl; have := (hi.pE e he).1 hl; omega
          · intro hl
            by_cases hep : e < p
            · exact (hi.pE e he).2 hep
            · have := hbetween e (by omega) (by omega)
              rw [he] at this
              cases this
theorem Trip.drawn {id : Nat} {Q : AExit → ASt → Prop} (hm : P.follows .mixedOrders = true) (h : Drawn P W0 ops st tms vs Hs ns isE) (hq : Q .normal ⟨tms ops.size, st.n, Hs ops.size, ns ops.size⟩) : Trip P W0 (.region id ops true) st Q := by
  intro ρ C a w hr hs
  have hs' : SRel W0 C st a w.drew := ⟨hs.tm, hs.sz, hs.rel.drew⟩
  refine wpIn_region_any hm (drawn_any h (C0 := C) (df := a.defers) (fun C' a' w' hs' hS hdf => ⟨.normal, _, C', rfl, hq, hs', hS, rfl, .of_eq hdf⟩) ops.size (Array.replicate ops.size false) st.tm 0 C a _ ?_ ?_ ?_ ?_ rfl)
  · have hfalse : ∀ i, (Array.replicate ops.size false).getD i false = false := fun i => by
      rw [Array.getD_eq_getD_getElem?, Array.getElem?_replicate]; split <;> rfl
    exact ⟨by simp, fun i o _ hl => (by rw [hfalse] at hl; cases hl), .inl rfl, by omega, fun e _ => (by rw [hfalse]; simp), fun i o d _ _ hl => (by rw [hfalse] at hl; cases hl), fun t _ => rfl⟩
  · have hfalse : ∀ i, (Array.replicate ops.size false).getD i false = false := fun i => by
      rw [Array.getD_eq_getD_getElem?, Array.getElem?_replicate]; split <;> rfl
    have : ((List.range ops.size).filter fun i => !(Array.replicate ops.size false).getD i false) = List.range ops.size := by
      rw [List.filter_eq_self]
      intro i _
      rw [hfalse]; rfl
    rw [this, List.length_range]
  · rw [h.h0, h.n0]; exact hs'
  · rw [h.h0, h.n0]; exact Stp.refl _ _ _
end
end Go.Am
