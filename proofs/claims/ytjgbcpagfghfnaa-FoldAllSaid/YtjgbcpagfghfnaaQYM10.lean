import Derived.Test.YtjgbcpagfghfnaaQYM9
import Derived.RangeFuncLeaves
import Derived.LoopNIn
import Derived.OrdersIn
set_option linter.unusedVariables false
set_option linter.unusedSimpArgs false
set_option linter.unnecessarySimpa false
namespace Go.Am
open Go.RowKit
def z7z : Value → Bool
 | .agg cs => cs.toList.all zK
 | v => zK v
theorem zcT {nx : Nat} {H : Heap} {C : Corr} {v : Value} (h : z7z v = true) : VR nx H C v v := by
 unfold z7z at h;split at h
 ·rename_i cs;have := (z2f (nx := nx) (H := H) (C := C) h).agg;simpa using this
 ·exact z3j h
structure ASt where
 tm : Nat → Value
 n : Nat
 H : Heap
 nx : Nat
structure SRel (W0 : World) (C : Corr) (st : ASt) (a : Act) (w : World) : Prop where
 tm : ∀ t, VR st.nx st.H C (st.tm t) (a.tmps.getD t undef)
 sz : a.tmps.size = st.n
 rel : Rel W0 C st.nx st.H w
def ASt.ev (st : ASt) : Operand → Option Value
 | .tmp t => some (st.tm t)
 | .const v => if z7z v then some v else none
 | .func f => some (.func (.func f) #[] #[])
 | .global g => cond (Nat.blt g NG) (some (.pointer (some ⟨g, 0, none⟩))) none
def zb (tm : Nat → Value) (dst : Option Tmp) (v : Value) : Nat → Value :=
 match dst with
 | some d => fun t => if t = d then v else tm t
 | none => tm
def ASt.put (st : ASt) (dst : Option Tmp) (v : Value) (e : Eff) : ASt := ⟨zb st.tm dst v, st.n, e.H st.nx st.H, e.nx st.nx⟩
section
variable {P : Program} {W0 : World} {C : Corr} {st : ASt} {a : Act} {w : World}
theorem SRel.ev (h : SRel W0 C st a w) : ∀ x v, st.ev x = some v → VR st.nx st.H C v (a.eval x) := by
 intro x v hv;cases x with
 | tmp t => simp only [ASt.ev, Option.some.injEq] at hv; subst hv; exact h.tm t
 | const u =>
  simp only [ASt.ev] at hv;split at hv
  ·rename_i hp; simp only [Option.some.injEq] at hv; subst hv; exact zcT hp
  ·cases hv
 | func f =>
  simp only [ASt.ev, Option.some.injEq] at hv;subst hv;exact .func _ _ _ _ _ rfl rfl (fun i h => absurd h (by simp)) (fun i h => absurd h (by simp))
 | global g =>
  simp only [ASt.ev] at hv;cases hb : Nat.blt g NG with
  | false => rw [hb] at hv; cases hv
  | true =>
   rw [hb] at hv;simp only [cond_true, Option.some.injEq] at hv;subst hv;exact h.rel.globPtr (by rw [Nat.blt_eq] at hb; exact hb)
theorem SRel.put (h : SRel W0 C st a w) {dst : Option Tmp} {v v' : Value} {nx' : Nat} {H' : Heap} {C' : Corr} {w' : World} (hd : ∀ d, dst = some d → d < st.n) (hR : Rel W0 C' nx' H' w') (hS : Stp st.nx st.H C nx' H' C') (hv : VR nx' H' C' v v') :
  SRel W0 C' ⟨zb st.tm dst v, st.n, H', nx'⟩ (a.put dst v') w' := by
 refine ⟨fun t => ?_, ?_, hR⟩
 ·cases dst with
  | none => exact (h.tm t).mono hS
  | some d =>
   have hd' := hd d rfl;simp only [Act.put, zb];by_cases e : t = d
   ·subst e;simp only [if_true]
    have : (a.tmps.setIfInBounds t v').getD t undef = v' := by
     rw [Array.getD_eq_getD_getElem?, Array.getElem?_setIfInBounds_self_of_lt (by rw [h.sz]; exact hd')];rfl
    rw [this];exact hv
   ·simp only [e, if_false]
    have : (a.tmps.setIfInBounds d v').getD t undef = a.tmps.getD t undef := by
     rw [Array.getD_eq_getD_getElem?, Array.getD_eq_getD_getElem?, Array.getElem?_setIfInBounds_ne (Ne.symm e)]
    rw [this];exact (h.tm t).mono hS
 ·cases dst <;> simp [Act.put, h.sz]
end
inductive AExit where
 | normal
 | exit (id : Nat)
 | goto (l : Nat)
 | ret
def AExit.to : AExit → Exit
 | .normal => .normal
 | .exit id => .exit id
 | .goto l => .goto l
 | .ret => .ret
def rf (ρ : Option Nat) : Fence := { Fence.wide with round := ρ }
def RndOk (ρ : Option Nat) (C : Corr) (nx : Nat) (H : Heap) : Prop := ∀ c, ρ = some c → ∃ l, l < nx ∧ z6y (H l) = true ∧ (C.loc l).1 = c
theorem RndOk.next {ρ : Option Nat} {C C' : Corr} {nx nx' : Nat} {H H' : Heap} (h : RndOk ρ C nx H) (k : Stp nx H C nx' H' C') : RndOk ρ C' nx' H' := fun c hc => by
 obtain ⟨l, h1, h2, h3⟩ := h c hc;obtain ⟨k1, k2⟩ := k.fix l h1 h2;exact ⟨l, Nat.lt_of_lt_of_le h1 k.le, k1, by rw [k2]; exact h3⟩
def zh0 (D : Nat) : Deferred := { target := .collected D, args := #[] }
def Mks (C C' : Corr) (df df' : List Deferred) : Prop := ∃ ds : List Nat, df' = ds.map zh0 ++ df ∧ ds.Nodup ∧ ∀ D ∈ ds, C.pin D = none ∧ C'.pin D = some (.deferred (some []))
theorem Mks.same {C C' : Corr} {df : List Deferred} : Mks C C' df df := ⟨[], rfl, List.nodup_nil, fun _ h => by cases h⟩
theorem Mks.of_eq {C C' : Corr} {df df' : List Deferred} (h : df' = df) : Mks C C' df df' := by subst h; exact .same
theorem Mks.trans {C C1 C2 : Corr} {df df1 df2 : List Deferred} (h : Mks C C1 df df1) (k : Mks C1 C2 df1 df2) (p1 : ∀ k o, C.pin k = some o → C1.pin k = some o) (p2 : ∀ k o, C1.pin k = some o → C2.pin k = some o) : Mks C C2 df df2 := by
 obtain ⟨d1, rfl, n1, h1⟩ := h;obtain ⟨d2, rfl, n2, h2⟩ := k;refine ⟨d2 ++ d1, by simp, ?_, fun D hD => ?_⟩
 ·rw [List.nodup_append];refine ⟨n2, n1, fun x hx y hy e => ?_⟩;subst e;have := (h1 x hy).2;rw [(h2 x hx).1] at this;cases this
 ·rcases List.mem_append.1 hD with hD | hD
  ·refine ⟨?_, (h2 D hD).2⟩;cases hq : C.pin D with
   | none => rfl
   | some o => have := p1 _ _ hq; rw [(h2 D hD).1] at this; cases this
  ·exact ⟨(h1 D hD).1, p2 _ _ (h1 D hD).2⟩
def Post (W0 : World) (C : Corr) (st : ASt) (df : List Deferred) (Q : AExit → ASt → Prop) : Exit → Act → World → Prop := fun e a w =>
 ∃ x st' C', e = x.to ∧ Q x st' ∧ SRel W0 C' st' a w ∧ Stp st.nx st.H C st'.nx st'.H C' ∧ st'.n = st.n ∧ Mks C C' df a.defers
def Trip (P : Program) (W0 : World) (c : Code) (st : ASt) (Q : AExit → ASt → Prop) : Prop :=
 ∀ ρ C a w, RndOk ρ C st.nx st.H → SRel W0 C st a w → c.wpIn (rf ρ) 0 P (Post W0 C st a.defers Q) a w
def ACalls (P : Program) (W0 : World) (f : FuncId) (args : List Value) (nx : Nat) (H : Heap) (Q : Value → Nat → Heap → Prop) : Prop :=
 ∀ C w args', Rel W0 C nx H w → VRs nx H C args args' → Calls P f args'.toArray w fun e w' =>
  ∃ v v' C' nx' H', e = .returned v' ∧ Q v nx' H' ∧ Rel W0 C' nx' H' w' ∧ VR nx' H' C' v v' ∧ Stp nx H C nx' H' C'
theorem z4E {P : Program} {ρ : Option Nat} {n : Nat} {f : FuncId} {args : Array Value} {w : World} {R : Ending → World → Prop} (h : Calls P f args w R) : CallsIn (rf ρ) n P f args w R := by
 have : CallsIn Fence.wide n P f args w R := callsIn_wide.2 h;cases ρ with
 | none => exact this
 | some l => exact this
section
variable {P : Program} {W0 : World} {st : ASt} {Q : AExit → ASt → Prop}
theorem Trip.mono {c : Code} {Q' : AExit → ASt → Prop} (h : Trip P W0 c st Q) (hq : ∀ x s, Q x s → Q' x s) : Trip P W0 c st Q' := fun ρ C a w hr hs =>
 wpIn_mono (h ρ C a w hr hs) fun e a w ⟨x, s, C', h1, h2, h3⟩ => ⟨x, s, C', h1, hq _ _ h2, h3⟩
theorem Post.trans {C C1 : Corr} {st1 : ASt} {df df1 : List Deferred} {Q : AExit → ASt → Prop} {e : Exit} {a : Act} {w : World} (h : Post W0 C1 st1 df1 Q e a w) (hS : Stp st.nx st.H C st1.nx st1.H C1) (hn : st1.n = st.n)
  (hm : Mks C C1 df df1) : Post W0 C st df Q e a w := by
 obtain ⟨x, s, C', h1, h2, h3, h4, h5, h6⟩ := h;exact ⟨x, s, C', h1, h2, h3, hS.trans h4, h5.trans hn, hm.trans h6 hS.pin h4.pin⟩
theorem Trip.skip (h : Q .normal st) : Trip P W0 .skip st Q := fun ρ C _ _ _ hs => wpIn_skip ⟨.normal, st, C, rfl, h, hs, Stp.refl _ _ _, rfl, .same⟩
theorem Trip.exit {id : Nat} (h : Q (.exit id) st) : Trip P W0 (.exit id) st Q := fun ρ C _ _ _ hs => wpIn_exit ⟨.exit id, st, C, rfl, h, hs, Stp.refl _ _ _, rfl, .same⟩
theorem Trip.ret (h : Q .ret st) : Trip P W0 .ret st Q := fun ρ C _ _ _ hs => wpIn_ret ⟨.ret, st, C, rfl, h, hs, Stp.refl _ _ _, rfl, .same⟩
theorem Trip.seq {x y : Code} (h : Trip P W0 x st fun e s => match e with | .normal => Trip P W0 y s Q | e => Q e s) : Trip P W0 (.seq x y) st Q := by
 intro ρ C a w hr hs;refine wpIn_seq (wpIn_mono (h ρ C a w hr hs) ?_);rintro e a1 w1 ⟨x1, s1, C1, rfl, hq, hs1, hS, hn, hm⟩;cases x1 with
 | normal => exact wpIn_mono (hq ρ C1 a1 w1 (hr.next hS) hs1) fun e a w hp => Post.trans hp hS hn hm
 | exit id => exact ⟨.exit id, s1, C1, rfl, hq, hs1, hS, hn, hm⟩
 | goto l => exact ⟨.goto l, s1, C1, rfl, hq, hs1, hS, hn, hm⟩
 | ret => exact ⟨.ret, s1, C1, rfl, hq, hs1, hS, hn, hm⟩
theorem Trip.cond {c : Operand} {x y : Code} {b : Bool} (hc : st.ev c = some (.bool b)) (h : Trip P W0 (if b then x else y) st Q) : Trip P W0 (.cond c x y) st Q := by
 intro ρ C a w hr hs;have := hs.ev c _ hc
 have he : a.eval c = .bool b := by
  generalize a.eval c = u at this;cases this; rfl
 exact wpIn_cond he (h ρ C a w hr hs)
def zt (id : Nat) (Q : AExit → ASt → Prop) : AExit → ASt → Prop
 | .exit id', s => if id' = id then Q .normal s else Q (.exit id') s
 | e, s => Q e s
theorem Trip.block {id : Nat} {c : Code} (h : Trip P W0 c st (zt id Q)) : Trip P W0 (.block id c) st Q := by
 intro ρ C a w hr hs;refine wpIn_block (wpIn_mono (h ρ C a w hr hs) ?_);rintro e a1 w1 ⟨x1, s1, C1, rfl, hq, hs1, hS, hn, hm⟩;cases x1 with
 | normal => exact ⟨.normal, s1, C1, rfl, hq, hs1, hS, hn, hm⟩
 | exit id' =>
  simp only [AExit.to, Exit.inBlock];simp only [zt] at hq;split
  ·rename_i hid; rw [if_pos hid] at hq; exact ⟨.normal, s1, C1, rfl, hq, hs1, hS, hn, hm⟩
  ·rename_i hid; rw [if_neg hid] at hq; exact ⟨.exit id', s1, C1, rfl, hq, hs1, hS, hn, hm⟩
 | goto l => exact ⟨.goto l, s1, C1, rfl, hq, hs1, hS, hn, hm⟩
 | ret => exact ⟨.ret, s1, C1, rfl, hq, hs1, hS, hn, hm⟩
def Rnd (P : Program) (W0 : World) (c : Code) (Q : AExit → ASt → Prop) : Nat → ASt → Prop
 | 0, _ => False
 | n + 1, st => Trip P W0 c st fun e s => match e with | .normal => Rnd P W0 c Q n s | e => Q e s
theorem Rnd.rounds {c : Code} : ∀ (n : Nat) (st0 st : ASt) (ρ : Option Nat) (C0 C : Corr) (df : List Deferred) (a : Act) (w : World), Rnd P W0 c Q n st → RndOk ρ C st.nx st.H → SRel W0 C st a w → Stp st0.nx st0.H C0 st.nx st.H C → st.n = st0.n → Mks C0 C df a.defers →
  Code.roundsIn (rf ρ) 0 P c (Post W0 C0 st0 df Q) n a w := by
 intro n
 induction n with
 | zero => intro _ _ _ _ _ _ _ _ h; exact h.elim
 | succ n ih =>
  intro st0 st ρ C0 C df a w h hr hs hS hn hm;rw [roundsIn_succ];refine wpIn_mono (h ρ C a w hr hs) ?_;rintro e a1 w1 ⟨x1, s1, C1, rfl, hq, hs1, hS1, hn1, hm1⟩;have hm2 := hm.trans hm1 hS.pin hS1.pin;cases x1 with
  | normal => exact ih st0 s1 ρ C0 C1 df a1 w1 hq (hr.next hS1) hs1 (hS.trans hS1) (hn1.trans hn) hm2
  | exit id => exact ⟨.exit id, s1, C1, rfl, hq, hs1, hS.trans hS1, hn1.trans hn, hm2⟩
  | goto l => exact ⟨.goto l, s1, C1, rfl, hq, hs1, hS.trans hS1, hn1.trans hn, hm2⟩
  | ret => exact ⟨.ret, s1, C1, rfl, hq, hs1, hS.trans hS1, hn1.trans hn, hm2⟩
theorem Trip.loop {c : Code} (n : Nat) (h : Rnd P W0 c Q n st) : Trip P W0 (.loop c) st Q := fun ρ C a w hr hs =>
 wpIn_loop_rounds n (h.rounds n st st ρ C C a.defers a w hr hs (Stp.refl _ _ _) rfl .same)
def z18 (ops : Array Oper) (st : ASt) (o : Oper) : Bool :=
 match o.guard with
 | none => true
 | some (j, want) =>
  match (ops[j]?).bind (·.dst) with
  | some d => match st.tm d with
   | .bool b => b == want
   | _ => false
  | none => false
theorem z1S {C : Corr} {a : Act} {w : World} (hs : SRel W0 C st a w) (ops : Array Oper) (o : Oper) : Region.wanted o (yielded ops a.tmps) = z18 ops st o := by
 unfold Region.wanted z18;cases o.guard with
 | none => rfl
 | some g =>
  obtain ⟨j, want⟩ := g;simp only [yielded];cases hd : (ops[j]?).bind (·.dst) with
  | none => simp
  | some d =>
   have := hs.tm d;rw [Array.getD_eq_getD_getElem?] at this;simp only [Option.bind_some];cases hg : a.tmps[d]? with
   | none =>
    rw [hg] at this;simp only [Option.getD_none] at this;generalize st.tm d = u at this;cases u <;> first | rfl | (cases this; done)
   | some x =>
    rw [hg] at this;simp only [Option.getD_some] at this;generalize st.tm d = u at this ⊢;cases this <;> rfl
def z1B (st : ASt) (o : Oper) : Bool :=
 match o.dst with
 | some d => decide (d < st.n)
 | none => true
theorem z1t {o : Oper} (h : z1B st o = true) : ∀ d, o.dst = some d → d < st.n := by
 intro d hd;simpa [z1B, hd] using h
def Ops (P : Program) (W0 : World) (ops : Array Oper) (l : List Nat) (st : ASt) (Q : ASt → Prop) : Prop :=
 ∀ ρ C a w, RndOk ρ C st.nx st.H → SRel W0 C st a w → wpOpsIn (rf ρ) 0 P ops (Post W0 C st a.defers fun e s => e = .normal ∧ Q s) l a w
theorem z5h {F : Fence} {Q Q' : Exit → Act → World → Prop} (hm : ∀ e a w, Q e a w → Q' e a w) : ∀ (l : List Nat) (ops : Array Oper) (a : Act) (w : World), wpOpsIn F 0 P ops Q l a w → wpOpsIn F 0 P ops Q' l a w := by
 intro l
 induction l with
 | nil => intro ops a w h; exact hm _ _ _ h
 | cons i l ih =>
  intro ops a w h;simp only [wpOpsIn] at h ⊢;split
  ·rename_i he; simp only [he] at h; exact ih ops a w h
  ·rename_i o he;simp only [he] at h;split
   ·rename_i hw;rw [if_pos hw] at h;refine ⟨h.1, ?_⟩;have h := h.2;generalize (o.semAt F.round a.eval).run P w = r at *;cases r with
    | ok n w' =>
     cases n <;> simp only [Oper.uponIn] at h ⊢ <;> first
      | exact ih ops _ _ h
      | exact ⟨h.1, CallsIn.mono h.2 (fun e w'' he => by cases e <;> first | exact ih ops _ _ he | exact hm _ _ _ he | (obtain ⟨a0, w0, h2⟩ := he; exact ⟨a0, w0, hm _ _ _ h2⟩))⟩
      | exact ⟨h.1, RowsIn.mono h.2 (fun _ _ he => ih ops _ _ he)⟩
      | exact ⟨h.1, RoundIn.mono h.2 (fun e w'' he => by cases e <;> first | exact ih ops _ _ he | exact hm _ _ _ he | (obtain ⟨a0, w0, h2⟩ := he; exact ⟨a0, w0, hm _ _ _ h2⟩))⟩
    | halt x w' => cases x <;> simp only [Oper.uponIn] at h ⊢ <;> first | exact hm _ _ _ h | exact h
   ·rename_i hw;rw [if_neg hw] at h;exact ⟨h.1, ih ops _ _ h.2⟩
theorem z6s {F : Fence} {C C1 : Corr} {st1 : ASt} {df df1 : List Deferred} {Q : AExit → ASt → Prop} (hS : Stp st.nx st.H C st1.nx st1.H C1) (hn : st1.n = st.n) (hm : Mks C C1 df df1) (l : List Nat) (ops : Array Oper) (a : Act) (w : World)
  (h : wpOpsIn F 0 P ops (Post W0 C1 st1 df1 Q) l a w) : wpOpsIn F 0 P ops (Post W0 C st df Q) l a w :=
 z5h (fun _ _ _ hp => Post.trans hp hS hn hm) l ops a w h
theorem z1q (a : Act) (dst : Option Tmp) (v : Value) : (a.put dst v).defers = a.defers := by cases dst <;> rfl
theorem Ops.nil {ops : Array Oper} {Q : ASt → Prop} (h : Q st) : Ops P W0 ops [] st Q := fun ρ C a w _ hs => ⟨.normal, st, C, rfl, ⟨rfl, h⟩, hs, Stp.refl _ _ _, rfl, .same⟩
theorem Ops.skip {ops : Array Oper} {i : Nat} {l : List Nat} {o : Oper} {Q : ASt → Prop} (ho : ops[i]? = some o) (hw : z18 ops st o = false) (hd : z1B st o = true) (h : Ops P W0 ops l (st.put o.dst undef .none) Q) : Ops P W0 ops (i :: l) st Q := by
 intro ρ C a w hr hs;simp only [wpOpsIn, ho, z1S hs ops o, hw, Bool.false_eq_true, if_false];refine ⟨fun _ _ => trivial, ?_⟩;have hs' := hs.put (dst := o.dst) (v := undef) (v' := undef) (z1t hd) hs.rel (Stp.refl _ _ _) z3z;have := h ρ C _ w hr hs';rw [z1q] at this;exact this
theorem z9h {nx : Nat} {H : Heap} {ev : Operand → Option Value} {o : Oper} {r : Value × Eff} (h : aop P H nx ev o = some r) (ρ : Option Nat) (e : Operand → Value) : o.semAt ρ e = execOp e o := by
 refine Oper.semAt_eq ρ e o fun c hc => ?_;unfold aop at h;rw [hc] at h;cases h
theorem Ops.step {ops : Array Oper} {i : Nat} {l : List Nat} {o : Oper} {v : Value} {e : Eff} {Q : ASt → Prop} (ho : ops[i]? = some o) (hw : z18 ops st o = true) (hd : z1B st o = true) (hop : aop P st.H st.nx st.ev o = some (v, e))
  (h : Ops P W0 ops l (st.put o.dst v e) Q) : Ops P W0 ops (i :: l) st Q := by
 intro ρ C a w hr hs;simp only [wpOpsIn, ho, z1S hs ops o, hw, if_true];refine ⟨fun _ _ => trivial, ?_⟩;obtain ⟨n, v', w', C', hrun, hn, hR, hS, hv⟩ := z9g hs.rel hs.ev hop;have hs' := hs.put (dst := o.dst) (z1t hd) hR hS hv
 have hnext : wpOpsIn (rf ρ) 0 P ops (Post W0 C st a.defers fun e s => e = .normal ∧ Q s) l (a.put o.dst v') w' := by
  have := z6s (st1 := st.put o.dst v e) (df := a.defers) hS rfl (.of_eq (z1q a o.dst v')) l ops _ w' (h ρ C' _ w' (hr.next hS) hs');exact this
 rw [z9h hop, hrun];rcases hn with rfl | ⟨rfl, rfl⟩
 ·exact hnext
 ·exact hnext
def z1z (st : ASt) (o : Oper) : Option (FuncId × List Value) :=
 match o.op with
 | .call c =>
  match c.callee with
  | .value x =>
   match st.ev x, z1k st.ev c.args.toList with
   | some (.func (.func f) first captured), some l => some (f, (first.toList ++ l) ++ captured.toList)
   | _, _ => none
  | _ => none
 | _ => none
theorem z3d {o : Oper} {f : FuncId} {args : List Value} (h : z1z st o = some (f, args)) (ρ : Option Nat) (e : Operand → Value) : o.semAt ρ e = execOp e o := by
 refine Oper.semAt_eq ρ e o fun c hc => ?_;unfold z1z at h;rw [hc] at h;cases h
def z1G (P : Program) (f : FuncId) : Prop := ∃ fn, P.funcs[f]? = some fn ∧ (fn.name == "runtime.NumGoroutine") = false ∧ fn.body.isNone = false
theorem z3c {C : Corr} {a : Act} {w : World} (hs : SRel W0 C st a w) {o : Oper} {f : FuncId} {args : List Value} (h : z1z st o = some (f, args)) (hf : z1G P f) :
  ∃ args' : List Value, (execOp a.eval o).run P w = .ok (.enter f args'.toArray) w ∧ VRs st.nx st.H C args args' := by
 unfold z1z at h;split at h
 ·rename_i c ho;split at h
  ·rename_i x hc;split at h
   ·rename_i f' first captured l hx hl
    simp only [Option.some.injEq, Prod.mk.injEq] at h;obtain ⟨rfl, rfl⟩ := h;have hv := hs.ev x _ hx;have ha := z34 hs.ev _ _ hl;obtain ⟨fn, h1, h2, h3⟩ := hf;generalize hu : a.eval x = u at hv;cases hv with
    | func _ _ a' _ b' q1 q2 q3 q4 =>
    refine ⟨(a'.toList ++ c.args.toList.map a.eval) ++ b'.toList, ?_, ((z3y q1 q3).append ha).append (z3y q2 q4)⟩;have e : ((a'.toList ++ c.args.toList.map a.eval) ++ b'.toList).toArray = (a' ++ c.args.map a.eval) ++ b' := by apply Array.ext'; simp
    rw [e];simp only [execOp, ho, resolve, hc, Deferred.ofValue, hu, Sem.run_bind, Sem.run_pure, Result.andThen_ok, invoke, callFunc, run_program, h1, h2, h3, Bool.false_eq_true, if_false]
   ·cases h
  ·cases h
 ·cases h
theorem Ops.call {ops : Array Oper} {i : Nat} {l : List Nat} {o : Oper} {f : FuncId} {args : List Value} {R : Value → Nat → Heap → Prop} {Q : ASt → Prop} (ho : ops[i]? = some o) (hw : z18 ops st o = true) (hd : z1B st o = true)
  (hc : z1z st o = some (f, args)) (hf : z1G P f) (hcall : ACalls P W0 f args st.nx st.H R)
  (h : ∀ v nx' H', R v nx' H' → Ops P W0 ops l ⟨zb st.tm o.dst v, st.n, H', nx'⟩ Q) : Ops P W0 ops (i :: l) st Q := by
 intro ρ C a w hr hs;simp only [wpOpsIn, ho, z1S hs ops o, hw, if_true];refine ⟨fun _ _ => trivial, ?_⟩;obtain ⟨args', hrun, hargs⟩ := z3c hs hc hf;rw [z3d hc, hrun];refine ⟨fun h => (by cases h), z4E ((hcall C w args' hs.rel hargs).mono ?_)⟩;rintro e w'' ⟨v, v', C', nx', H', rfl, hq, hR, hv, hS⟩;have hs' := hs.put (dst := o.dst) (z1t hd) hR hS hv;exact z6s (st1 := ⟨zb st.tm o.dst v, st.n, H', nx'⟩) hS rfl (.of_eq (z1q a o.dst v')) l ops _ w'' (h v nx' H' hq ρ C' _ w'' (hr.next hS) hs')
theorem Trip.region {id : Nat} {ops : Array Oper} (h : Ops P W0 ops (List.range ops.size) st (Q .normal)) : Trip P W0 (.region id ops false) st Q := fun ρ C a w hr hs =>
 wpIn_region (z5h (fun e a w ⟨x, s, C', h1, ⟨hx, h2⟩, h3⟩ => by subst hx; exact ⟨.normal, s, C', h1, h2, h3⟩) _ _ _ _ (h ρ C a w hr hs))
end
end Go.Am
