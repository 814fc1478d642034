/-
  The abstract machine: a region, code, a call; and that it tells what the model does.
-/
import Derived.Test.YtnoakjddgllbfaaGreatAmI
namespace Go.Am
set_option linter.unusedSimpArgs false
set_option linter.unusedVariables false
open Go.RowKit

/-! ### states -/

structure ASt where
  tm : Nat → Value
  n : Nat
  H : Heap
  nx : Nat

structure SRel (W0 : World) (C : Corr) (st : ASt) (a : Act) (w : World) : Prop where
  tm : ∀ t, VR st.nx st.H C (st.tm t) (a.tmps.getD t undef)
  sz : a.tmps.size = st.n
  df : a.defers = []
  rel : Rel W0 C st.nx st.H w

def ASt.ev (st : ASt) : Operand → Option Value
  | .tmp t => some (st.tm t)
  | .const v => if plain1 v then some v else none
  | .func f => some (.func (.func f) #[] #[])
  | .global _ => none

def tmPut (tm : Nat → Value) (dst : Option Tmp) (v : Value) : Nat → Value :=
  match dst with
  | some d => fun t => if t = d then v else tm t
  | none => tm

def ASt.put (st : ASt) (dst : Option Tmp) (v : Value) (e : Eff) : ASt := ⟨tmPut st.tm dst v, st.n, e.H st.nx st.H, e.nx st.nx⟩

section
variable {P : Program} {W0 : World} {C : Corr} {st : ASt} {a : Act} {w : World}

theorem SRel.ev (h : SRel W0 C st a w) : ∀ x v, st.ev x = some v → VR st.nx st.H C v (a.eval x) := by
  intro x v hv
  cases x with
  | tmp t => simp only [ASt.ev, Option.some.injEq] at hv; subst hv; exact h.tm t
  | const u =>
    simp only [ASt.ev] at hv
    split at hv
    · rename_i hp; simp only [Option.some.injEq] at hv; subst hv; exact plain1_VR hp
    · cases hv
  | func f =>
    simp only [ASt.ev, Option.some.injEq] at hv
    subst hv
    exact .func _ _ _ _ _ rfl rfl (fun i h => absurd h (by simp)) (fun i h => absurd h (by simp))
  | global g => simp [ASt.ev] at hv

theorem SRel.put (h : SRel W0 C st a w) {dst : Option Tmp} {v v' : Value} {nx' : Nat} {H' : Heap} {C' : Corr} {w' : World} (hd : ∀ d, dst = some d → d < st.n) (hR : Rel W0 C' nx' H' w') (hS : Stp st.nx st.H C nx' H' C') (hv : VR nx' H' C' v v') :
    SRel W0 C' ⟨tmPut st.tm dst v, st.n, H', nx'⟩ (a.put dst v') w' := by
  refine ⟨fun t => ?_, ?_, ?_, hR⟩
  · cases dst with
    | none => exact (h.tm t).mono hS
    | some d =>
      have hd' := hd d rfl
      simp only [Act.put, tmPut]
      by_cases e : t = d
      · subst e
        simp only [if_true]
        have : (a.tmps.setIfInBounds t v').getD t undef = v' := by
          rw [Array.getD_eq_getD_getElem?, Array.getElem?_setIfInBounds_self_of_lt (by rw [h.sz]; exact hd')]
          rfl
        rw [this]
        exact hv
      · simp only [e, if_false]
        have : (a.tmps.setIfInBounds d v').getD t undef = a.tmps.getD t undef := by
          rw [Array.getD_eq_getD_getElem?, Array.getD_eq_getD_getElem?, Array.getElem?_setIfInBounds_ne (Ne.symm e)]
        rw [this]
        exact (h.tm t).mono hS
  · cases dst <;> simp [Act.put, h.sz]
  · cases dst <;> simp [Act.put, h.df]

end

/-! ### exits, triples, calls -/

inductive AExit where
  | normal
  | exit (id : Nat)
  | goto (l : Nat)
  | ret

def AExit.to : AExit → Exit
  | .normal => .normal
  | .exit id => .exit id
  | .goto l => .goto l
  | .ret => .ret

/-- Behind the code: the exit, the state that it ends in. -/
def Post (W0 : World) (C : Corr) (st : ASt) (Q : AExit → ASt → Prop) : Exit → Act → World → Prop := fun e a w =>
  ∃ x st' C', e = x.to ∧ Q x st' ∧ SRel W0 C' st' a w ∧ Stp st.nx st.H C st'.nx st'.H C' ∧ st'.n = st.n

def Trip (P : Program) (W0 : World) (c : Code) (st : ASt) (Q : AExit → ASt → Prop) : Prop :=
  ∀ C a w, SRel W0 C st a w → c.wp P (Post W0 C st Q) a w

/-- A call of a function: what it answers, the objects behind it. -/
def ACalls (P : Program) (W0 : World) (f : FuncId) (args : List Value) (nx : Nat) (H : Heap) (Q : Value → Nat → Heap → Prop) : Prop :=
  ∀ C w args', Rel W0 C nx H w → VRs nx H C args args' → Calls P f args'.toArray w fun e w' =>
    ∃ v v' C' nx' H', e = .returned v' ∧ Q v nx' H' ∧ Rel W0 C' nx' H' w' ∧ VR nx' H' C' v v' ∧ Stp nx H C nx' H' C'

section
variable {P : Program} {W0 : World} {st : ASt} {Q : AExit → ASt → Prop}

theorem Trip.mono {c : Code} {Q' : AExit → ASt → Prop} (h : Trip P W0 c st Q) (hq : ∀ x s, Q x s → Q' x s) : Trip P W0 c st Q' := fun C a w hs =>
  wp_mono (h C a w hs) fun e a w ⟨x, s, C', h1, h2, h3⟩ => ⟨x, s, C', h1, hq _ _ h2, h3⟩

theorem Post.trans {C C1 : Corr} {st1 : ASt} {Q : AExit → ASt → Prop} {e : Exit} {a : Act} {w : World} (h : Post W0 C1 st1 Q e a w) (hS : Stp st.nx st.H C st1.nx st1.H C1) (hn : st1.n = st.n) : Post W0 C st Q e a w := by
  obtain ⟨x, s, C', h1, h2, h3, h4, h5⟩ := h
  exact ⟨x, s, C', h1, h2, h3, hS.trans h4, h5.trans hn⟩

theorem Trip.skip (h : Q .normal st) : Trip P W0 .skip st Q := fun C _ _ hs => wp_skip ⟨.normal, st, C, rfl, h, hs, Stp.refl _ _ _, rfl⟩
theorem Trip.label {l : Nat} (h : Q .normal st) : Trip P W0 (.label l) st Q := fun C _ _ hs => wp_label ⟨.normal, st, C, rfl, h, hs, Stp.refl _ _ _, rfl⟩
theorem Trip.exit {id : Nat} (h : Q (.exit id) st) : Trip P W0 (.exit id) st Q := fun C _ _ hs => wp_exit ⟨.exit id, st, C, rfl, h, hs, Stp.refl _ _ _, rfl⟩
theorem Trip.goto {l : Nat} (h : Q (.goto l) st) : Trip P W0 (.goto l) st Q := fun C _ _ hs => wp_goto ⟨.goto l, st, C, rfl, h, hs, Stp.refl _ _ _, rfl⟩
theorem Trip.ret (h : Q .ret st) : Trip P W0 .ret st Q := fun C _ _ hs => wp_ret ⟨.ret, st, C, rfl, h, hs, Stp.refl _ _ _, rfl⟩

theorem Trip.seq {x y : Code} (h : Trip P W0 x st fun e s => match e with | .normal => Trip P W0 y s Q | e => Q e s) : Trip P W0 (.seq x y) st Q := by
  intro C a w hs
  refine wp_seq (wp_mono (h C a w hs) ?_)
  rintro e a1 w1 ⟨x1, s1, C1, rfl, hq, hs1, hS, hn⟩
  cases x1 with
  | normal => exact wp_mono (hq C1 a1 w1 hs1) fun e a w hp => Post.trans hp hS hn
  | exit id => exact ⟨.exit id, s1, C1, rfl, hq, hs1, hS, hn⟩
  | goto l => exact ⟨.goto l, s1, C1, rfl, hq, hs1, hS, hn⟩
  | ret => exact ⟨.ret, s1, C1, rfl, hq, hs1, hS, hn⟩

theorem Trip.cond {c : Operand} {x y : Code} {b : Bool} (hc : st.ev c = some (.bool b)) (h : Trip P W0 (if b then x else y) st Q) : Trip P W0 (.cond c x y) st Q := by
  intro C a w hs
  have := hs.ev c _ hc
  have he : a.eval c = .bool b := by
    generalize a.eval c = u at this
    cases this; rfl
  exact wp_cond he (h C a w hs)

def blockExit (id : Nat) (Q : AExit → ASt → Prop) : AExit → ASt → Prop
  | .exit id', s => if id' = id then Q .normal s else Q (.exit id') s
  | e, s => Q e s

theorem Trip.block {id : Nat} {c : Code} (h : Trip P W0 c st (blockExit id Q)) : Trip P W0 (.block id c) st Q := by
  intro C a w hs
  refine wp_block (wp_mono (h C a w hs) ?_)
  rintro e a1 w1 ⟨x1, s1, C1, rfl, hq, hs1, hS, hn⟩
  cases x1 with
  | normal => exact ⟨.normal, s1, C1, rfl, hq, hs1, hS, hn⟩
  | exit id' =>
    simp only [AExit.to, Exit.inBlock]
    simp only [blockExit] at hq
    split
    · rename_i hid; rw [if_pos hid] at hq; exact ⟨.normal, s1, C1, rfl, hq, hs1, hS, hn⟩
    · rename_i hid; rw [if_neg hid] at hq; exact ⟨.exit id', s1, C1, rfl, hq, hs1, hS, hn⟩
  | goto l => exact ⟨.goto l, s1, C1, rfl, hq, hs1, hS, hn⟩
  | ret => exact ⟨.ret, s1, C1, rfl, hq, hs1, hS, hn⟩

/-- So many rounds of a loop's body. -/
def Rnd (P : Program) (W0 : World) (c : Code) (Q : AExit → ASt → Prop) : Nat → ASt → Prop
  | 0, _ => False
  | n + 1, st => Trip P W0 c st fun e s => match e with | .normal => Rnd P W0 c Q n s | e => Q e s

theorem Rnd.rounds {c : Code} : ∀ (n : Nat) (st0 st : ASt) (C0 C : Corr) (a : Act) (w : World), Rnd P W0 c Q n st → SRel W0 C st a w → Stp st0.nx st0.H C0 st.nx st.H C → st.n = st0.n → Code.rounds P c (Post W0 C0 st0 Q) n a w := by
  intro n
  induction n with
  | zero => intro _ _ _ _ _ _ h; exact h.elim
  | succ n ih =>
    intro st0 st C0 C a w h hs hS hn
    rw [rounds_succ]
    refine wp_mono (h C a w hs) ?_
    rintro e a1 w1 ⟨x1, s1, C1, rfl, hq, hs1, hS1, hn1⟩
    cases x1 with
    | normal => exact ih st0 s1 C0 C1 a1 w1 hq hs1 (hS.trans hS1) (hn1.trans hn)
    | exit id => exact ⟨.exit id, s1, C1, rfl, hq, hs1, hS.trans hS1, hn1.trans hn⟩
    | goto l => exact ⟨.goto l, s1, C1, rfl, hq, hs1, hS.trans hS1, hn1.trans hn⟩
    | ret => exact ⟨.ret, s1, C1, rfl, hq, hs1, hS.trans hS1, hn1.trans hn⟩

theorem Trip.loop {c : Code} (n : Nat) (h : Rnd P W0 c Q n st) : Trip P W0 (.loop c) st Q := fun C a w hs =>
  wp_loop_rounds n (h.rounds n st st C C a w hs (Stp.refl _ _ _) rfl)

/-- A loop, by what holds ahead of each round, and what each round makes less. -/
theorem Trip.while {c : Code} (I : ASt → Prop) (μ : ASt → Nat) (h0 : I st) (h : ∀ s, I s → Trip P W0 c s fun e s' => match e with | .normal => I s' ∧ μ s' < μ s | e => Q e s') : Trip P W0 (.loop c) st Q := by
  have key : ∀ n s, I s → μ s < n → Rnd P W0 c Q n s := by
    intro n
    induction n with
    | zero => intro s _ hm; omega
    | succ n ih =>
      intro s hi hm
      refine Trip.mono (h s hi) ?_
      intro e s' hq
      cases e with
      | normal => exact ih s' hq.1 (by have := hq.2; omega)
      | exit id => exact hq
      | goto l => exact hq
      | ret => exact hq
  exact Trip.loop (μ st + 1) (key _ st h0 (by omega))

/-- So many jumps in a scope. -/
def scopeRounds (P : Program) (b : Code) (Q : Exit → Act → World → Prop) : Nat → Code → Act → World → Prop
  | 0, _, _, _ => False
  | n + 1, c, a, w => c.wp P (fun e a w => match e with
    | .goto l => (match findLabel b l with
      | some rest => scopeRounds P b Q n rest a w
      | none => Q (.goto l) a w)
    | e => Q e a w) a w

theorem wp_scope_rounds {P : Program} {Q : Exit → Act → World → Prop} {a : Act} {w : World} {b : Code} (n : Nat) (h : scopeRounds P b Q n b a w) : (Code.scope b).wp P Q a w := by
  intro fr k cs
  have key : ∀ n c a w, scopeRounds P b Q n c a w → ∃ e a' w', Q e a' w' ∧ Arrives P (lone (fr.at a (.code c :: .inScope b :: k)) cs w) fr k cs e a' w' := by
    intro n
    induction n with
    | zero => intro c a w h; exact h.elim
    | succ n ih =>
      intro c a w h
      obtain ⟨e, a₁, w₁, hq, harr⟩ := h fr (.inScope b :: k) cs
      cases e with
      | normal => exact ⟨.normal, a₁, w₁, hq, Steps.trans harr (.one step_inScope)⟩
      | exit id => exact ⟨.exit id, a₁, w₁, hq, fun k' hk => harr k' (by simp [exitTo, hk])⟩
      | goto l =>
        simp only at hq
        split at hq
        · rename_i rest hf
          obtain ⟨e₂, a₂, w₂, hq₂, harr₂⟩ := ih rest a₁ w₁ hq
          exact ⟨e₂, a₂, w₂, hq₂, .of_steps (harr _ (by simp [gotoIn, hf])) harr₂⟩
        · rename_i hf
          exact ⟨.goto l, a₁, w₁, hq, fun k' hk => harr k' (by simp [gotoIn, hf, hk])⟩
      | ret => exact ⟨_, a₁, w₁, hq, harr⟩
      | panic ch => exact ⟨_, a₁, w₁, hq, harr⟩
      | outgrown => exact ⟨_, a₁, w₁, hq, harr⟩
  obtain ⟨e, a', w', hq, harr⟩ := key n b a w h
  exact ⟨e, a', w', hq, .of_steps (.one step_scope) harr⟩

def Scp (P : Program) (W0 : World) (b : Code) (Q : AExit → ASt → Prop) : Nat → Code → ASt → Prop
  | 0, _, _ => False
  | n + 1, c, st => Trip P W0 c st fun e s => match e with
    | .goto l => (match findLabel b l with
      | some rest => Scp P W0 b Q n rest s
      | none => Q (.goto l) s)
    | e => Q e s

theorem Scp.rounds {b : Code} : ∀ (n : Nat) (c : Code) (st0 st : ASt) (C0 C : Corr) (a : Act) (w : World), Scp P W0 b Q n c st → SRel W0 C st a w → Stp st0.nx st0.H C0 st.nx st.H C → st.n = st0.n → scopeRounds P b (Post W0 C0 st0 Q) n c a w := by
  intro n
  induction n with
  | zero => intro _ _ _ _ _ _ _ h; exact h.elim
  | succ n ih =>
    intro c st0 st C0 C a w h hs hS hn
    refine wp_mono (h C a w hs) ?_
    rintro e a1 w1 ⟨x1, s1, C1, rfl, hq, hs1, hS1, hn1⟩
    cases x1 with
    | normal => exact ⟨.normal, s1, C1, rfl, hq, hs1, hS.trans hS1, hn1.trans hn⟩
    | exit id => exact ⟨.exit id, s1, C1, rfl, hq, hs1, hS.trans hS1, hn1.trans hn⟩
    | goto l =>
      simp only [AExit.to] at hq ⊢
      split at hq
      · exact ih _ st0 s1 C0 C1 a1 w1 hq hs1 (hS.trans hS1) (hn1.trans hn)
      · exact ⟨.goto l, s1, C1, rfl, hq, hs1, hS.trans hS1, hn1.trans hn⟩
    | ret => exact ⟨.ret, s1, C1, rfl, hq, hs1, hS.trans hS1, hn1.trans hn⟩

theorem Trip.scope {b : Code} (n : Nat) (h : Scp P W0 b Q n b st) : Trip P W0 (.scope b) st Q := fun C a w hs =>
  wp_scope_rounds n (h.rounds n b st st C C a w hs (Stp.refl _ _ _) rfl)

/-! ### a region in the order of its text -/

/-- Is the operation wanted? -/
def wants (ops : Array Oper) (st : ASt) (o : Oper) : Bool :=
  match o.guard with
  | none => true
  | some (j, want) =>
    match (ops[j]?).bind (·.dst) with
    | some d => match st.tm d with
      | .bool b => b == want
      | _ => false
    | none => false

theorem wants_sound {C : Corr} {a : Act} {w : World} (hs : SRel W0 C st a w) (ops : Array Oper) (o : Oper) : Region.wanted o (yielded ops a.tmps) = wants ops st o := by
  unfold Region.wanted wants
  cases o.guard with
  | none => rfl
  | some g =>
    obtain ⟨j, want⟩ := g
    simp only [yielded]
    cases hd : (ops[j]?).bind (·.dst) with
    | none => simp
    | some d =>
      have := hs.tm d
      rw [Array.getD_eq_getD_getElem?] at this
      simp only [Option.bind_some]
      cases hg : a.tmps[d]? with
      | none =>
        rw [hg] at this
        simp only [Option.getD_none] at this
        generalize st.tm d = u at this
        cases u <;> first | rfl | (cases this; done)
      | some x =>
        rw [hg] at this
        simp only [Option.getD_some] at this
        generalize st.tm d = u at this ⊢
        cases this <;> rfl

def dstOk (st : ASt) (o : Oper) : Bool :=
  match o.dst with
  | some d => decide (d < st.n)
  | none => true

theorem dstOk_spec {o : Oper} (h : dstOk st o = true) : ∀ d, o.dst = some d → d < st.n := by
  intro d hd
  simpa [dstOk, hd] using h

/-- The operations of a region, one behind the other. -/
def Ops (P : Program) (W0 : World) (ops : Array Oper) (l : List Nat) (st : ASt) (Q : ASt → Prop) : Prop :=
  ∀ C a w, SRel W0 C st a w → wpOps P ops (Post W0 C st fun e s => e = .normal ∧ Q s) l a w

theorem wpOps_mono' {Q Q' : Exit → Act → World → Prop} (hm : ∀ e a w, Q e a w → Q' e a w) : ∀ (l : List Nat) (ops : Array Oper) (a : Act) (w : World), wpOps P ops Q l a w → wpOps P ops Q' l a w := by
  intro l
  induction l with
  | nil => intro ops a w h; exact hm _ _ _ h
  | cons i l ih =>
    intro ops a w h
    simp only [wpOps] at h ⊢
    split
    · rename_i he; simp only [he] at h; exact ih ops a w h
    · rename_i o he
      simp only [he] at h
      split
      · rename_i hw
        rw [if_pos hw] at h
        rcases h with h | ⟨h1, a0, w0, h2⟩
        · left
          unfold Oper.wp at *
          generalize (execOp a.eval o).run P w = r at *
          cases r with
          | ok n w' =>
            cases n <;> simp only [Oper.upon] at h ⊢ <;> first
              | exact ih ops _ _ h
              | exact Calls.mono h (fun e w'' he => by cases e <;> first | exact ih ops _ _ he | exact hm _ _ _ he | (obtain ⟨a0, w0, h2⟩ := he; exact ⟨a0, w0, hm _ _ _ h2⟩))
              | exact Rows.mono h (fun _ _ he => ih ops _ _ he)
          | halt x w' => cases x <;> simp only [Oper.upon] at h ⊢ <;> first | exact hm _ _ _ h | exact h
        · exact .inr ⟨h1, a0, w0, hm _ _ _ h2⟩
      · rename_i hw
        rw [if_neg hw] at h
        exact ih ops _ _ h

theorem Post.ops {C C1 : Corr} {st1 : ASt} {Q : AExit → ASt → Prop} (hS : Stp st.nx st.H C st1.nx st1.H C1) (hn : st1.n = st.n) (l : List Nat) (ops : Array Oper) (a : Act) (w : World) (h : wpOps P ops (Post W0 C1 st1 Q) l a w) : wpOps P ops (Post W0 C st Q) l a w :=
  wpOps_mono' (fun _ _ _ hp => Post.trans hp hS hn) l ops a w h

theorem Ops.nil {ops : Array Oper} {Q : ASt → Prop} (h : Q st) : Ops P W0 ops [] st Q := fun C a w hs => ⟨.normal, st, C, rfl, ⟨rfl, h⟩, hs, Stp.refl _ _ _, rfl⟩

theorem Ops.skip {ops : Array Oper} {i : Nat} {l : List Nat} {o : Oper} {Q : ASt → Prop} (ho : ops[i]? = some o) (hw : wants ops st o = false) (hd : dstOk st o = true) (h : Ops P W0 ops l (st.put o.dst undef .none) Q) : Ops P W0 ops (i :: l) st Q := by
  intro C a w hs
  simp only [wpOps, ho, wants_sound hs ops o, hw, Bool.false_eq_true, if_false]
  have hs' := hs.put (dst := o.dst) (v := undef) (v' := undef) (dstOk_spec hd) hs.rel (Stp.refl _ _ _) undef_VR
  exact h C _ w hs'

theorem Ops.step {ops : Array Oper} {i : Nat} {l : List Nat} {o : Oper} {v : Value} {e : Eff} {Q : ASt → Prop} (ho : ops[i]? = some o) (hw : wants ops st o = true) (hd : dstOk st o = true) (hop : aop P st.H st.nx st.ev o = some (v, e))
    (h : Ops P W0 ops l (st.put o.dst v e) Q) : Ops P W0 ops (i :: l) st Q := by
  intro C a w hs
  simp only [wpOps, ho, wants_sound hs ops o, hw, if_true]
  left
  obtain ⟨n, v', w', C', hrun, hn, hR, hS, hv⟩ := aop_sound hs.rel hs.ev hop
  have hs' := hs.put (dst := o.dst) (dstOk_spec hd) hR hS hv
  have hnext : wpOps P ops (Post W0 C st fun e s => e = .normal ∧ Q s) l (a.put o.dst v') w' := Post.ops (st1 := st.put o.dst v e) hS rfl l ops _ w' (h C' _ w' hs')
  unfold Oper.wp
  rw [hrun]
  rcases hn with rfl | ⟨rfl, rfl⟩
  · exact hnext
  · exact hnext

/-- What is called, and with what. -/
def callee (st : ASt) (o : Oper) : Option (FuncId × List Value) :=
  match o.op with
  | .call c =>
    match c.callee with
    | .value x =>
      match st.ev x, evAll st.ev c.args.toList with
      | some (.func (.func f) first captured), some l => some (f, (first.toList ++ l) ++ captured.toList)
      | _, _ => none
    | _ => none
  | _ => none

/-- A function that may be entered. -/
def Enters (P : Program) (f : FuncId) : Prop := ∃ fn, P.funcs[f]? = some fn ∧ (fn.name == "runtime.NumGoroutine") = false ∧ fn.body.isNone = false

theorem callee_sound {C : Corr} {a : Act} {w : World} (hs : SRel W0 C st a w) {o : Oper} {f : FuncId} {args : List Value} (h : callee st o = some (f, args)) (hf : Enters P f) :
    ∃ args' : List Value, (execOp a.eval o).run P w = .ok (.enter f args'.toArray) w ∧ VRs st.nx st.H C args args' := by
  unfold callee at h
  split at h
  · rename_i c ho
    split at h
    · rename_i x hc
      split at h
      · rename_i f' first captured l hx hl
        simp only [Option.some.injEq, Prod.mk.injEq] at h
        obtain ⟨rfl, rfl⟩ := h
        have hv := hs.ev x _ hx
        have ha := evAll_sound hs.ev _ _ hl
        obtain ⟨fn, h1, h2, h3⟩ := hf
        generalize hu : a.eval x = u at hv
        cases hv with
        | func _ _ a' _ b' q1 q2 q3 q4 =>
        refine ⟨(a'.toList ++ c.args.toList.map a.eval) ++ b'.toList, ?_, ((agg_VRs q1 q3).append ha).append (agg_VRs q2 q4)⟩
        have e : ((a'.toList ++ c.args.toList.map a.eval) ++ b'.toList).toArray = (a' ++ c.args.map a.eval) ++ b' := by apply Array.ext'; simp
        rw [e]
        simp only [execOp, ho, resolve, hc, Deferred.ofValue, hu, Sem.run_bind, Sem.run_pure, Result.andThen_ok, invoke, callFunc, run_program, h1, h2, h3, Bool.false_eq_true, if_false]
      · cases h
    · cases h
  · cases h

theorem Ops.call {ops : Array Oper} {i : Nat} {l : List Nat} {o : Oper} {f : FuncId} {args : List Value} {R : Value → Nat → Heap → Prop} {Q : ASt → Prop} (ho : ops[i]? = some o) (hw : wants ops st o = true) (hd : dstOk st o = true)
    (hc : callee st o = some (f, args)) (hf : Enters P f) (hcall : ACalls P W0 f args st.nx st.H R)
    (h : ∀ v nx' H', R v nx' H' → Ops P W0 ops l ⟨tmPut st.tm o.dst v, st.n, H', nx'⟩ Q) : Ops P W0 ops (i :: l) st Q := by
  intro C a w hs
  simp only [wpOps, ho, wants_sound hs ops o, hw, if_true]
  left
  obtain ⟨args', hrun, hargs⟩ := callee_sound hs hc hf
  unfold Oper.wp
  rw [hrun]
  refine (hcall C w args' hs.rel hargs).mono ?_
  rintro e w'' ⟨v, v', C', nx', H', rfl, hr, hR, hv, hS⟩
  have hs' := hs.put (dst := o.dst) (dstOk_spec hd) hR hS hv
  exact Post.ops (st1 := ⟨tmPut st.tm o.dst v, st.n, H', nx'⟩) hS rfl l ops _ w'' (h v nx' H' hr C' _ w'' hs')

theorem Trip.region {id : Nat} {ops : Array Oper} (h : Ops P W0 ops (List.range ops.size) st (Q .normal)) : Trip P W0 (.region id ops false) st Q := fun C a w hs =>
  wp_region (wpOps_mono' (fun e a w ⟨x, s, C', h1, ⟨hx, h2⟩, h3⟩ => by subst hx; exact ⟨.normal, s, C', h1, h2, h3⟩) _ _ _ _ (h C a w hs))

end
end Go.Am
