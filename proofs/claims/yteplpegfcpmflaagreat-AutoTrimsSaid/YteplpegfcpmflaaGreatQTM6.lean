import Derived.ProofKit
import Derived.OpenShut
import Derived.Carry
import Derived.Test.YteplpegfcpmflaaGreatRows
import Derived.Lib.Hide
import Derived.Test.YteplpegfcpmflaaGreatQTM5
set_option linter.unusedSimpArgs false
set_option linter.unusedVariables false
set_option maxRecDepth 100000
set_option maxHeartbeats 64000000
namespace Go.Am
open Go.RowKit
def zbe (ops : Array Oper) (j i : Nat) : Bool := match ops[j]? with | some oj => zbl ops 4 oj i | none => false
def z8e (ops : Array Oper) (j i : Nat) : Bool := match ops[j]? with | some oj => z9x oj i | none => false
def z3B (ops : Array Oper) (l : List Nat) (i : Nat) : Bool := l.all fun j => !z8e ops i j
def z39 (ops : Array Oper) : Bool :=
 z1A (fun _ oi => z1A (fun j oj => match oj.dst with
  | some t => if (z35 oi).contains t || z6x ops oi == some t then z9x oi j else true
  | none => true) 0 ops.toList) 0 ops.toList
def zbk (ops : Array Oper) (acts : List Nat) (i : Nat) (o : Oper) (l : List Nat) : Bool := z4C o.op || l.all fun j => !acts.contains j || zbe ops j i
def ActStep (P : Program) (W0 : World) (ops : Array Oper) (acts : List Nat) (K : Nat → Heap → Prop) (i : Nat) (st : ASt) (N : ASt → Prop) : Prop :=
 ∃ o, ops[i]? = some o ∧ z1c st o = true ∧ acts.contains i = true ∧
  ((z10 ops st o = false ∧ N (st.put o.dst undef .none)) ∨
   (z10 ops st o = true ∧
    ((∃ v e, aop P st.H st.nx st.ev o = some (v, e) ∧ K (e.nx st.nx) (e.H st.nx st.H) ∧ N (st.put o.dst v e)) ∨
    (∃ f args R, z0O st o = some (f, args) ∧ z0F P f ∧ ACalls P W0 f args st.nx st.H R ∧ ∀ v nx' H', R v nx' H' → K nx' H' ∧ N ⟨z9 st.tm o.dst v, st.n, H', nx'⟩))))
def OpsR (P : Program) (W0 : World) (ops : Array Oper) (acts : List Nat) (K : Nat → Heap → Prop) : Nat → List Nat → ASt → (ASt → Prop) → Prop
 | _, [], st, Q => Q st
 | 0, _ :: _, _, _ => False
 | m + 1, i :: l, st, Q =>
  (acts.contains i = false ∧ z3B ops l i = true ∧ ∃ o, ops[i]? = some o ∧ z1c st o = true ∧
   ((z10 ops st o = false ∧ OpsR P W0 ops acts K m l (st.put o.dst undef .none) Q) ∨
    (z10 ops st o = true ∧ ∃ v, aop P st.H st.nx st.ev o = some (v, .none) ∧ (zbk ops acts i o l = true ∨ ∀ H' nx', K nx' H' → aop P H' nx' st.ev o = some (v, .none)) ∧ OpsR P W0 ops acts K m l (st.put o.dst v .none) Q))) ∨
  (∀ j ∈ i :: l, z3B ops ((i :: l).erase j) j = true → ActStep P W0 ops acts K j st fun s => OpsR P W0 ops acts K m ((i :: l).erase j) s Q)
section
variable {P : Program} {W0 : World} {ops : Array Oper} {acts : List Nat} {K : Nat → Heap → Prop}
theorem z3F {st : ASt} {o : Oper} {H : Heap} {nx : Nat} : aop P H nx (evR (z35 o) st.tm) o = aop P H nx st.ev o :=
 z65 (fun x hx => z7p (n := st.n) (nx := st.nx) (H := st.H) (fun t ht => z5A (by rw [← ht]; exact hx)))
theorem z3M (h : z39 ops = true) {i j : Nat} {oi oj : Oper} {t : Tmp} (hi : ops[i]? = some oi) (hj : ops[j]? = some oj) (ht : t ∈ z35 oi ∨ z6x ops oi = some t) (hd : oj.dst = some t) : dep oi j := by
 unfold z39 at h;have h1 := zX _ _ (zX _ _ h i oi (by simpa using hi)) j oj (by simpa using hj);simp only [Nat.zero_add, hd] at h1;rw [if_pos] at h1
 ·exact z0E.1 h1
 ·rcases ht with ht | ht
  ·simp [ht]
  ·simp [ht]
theorem z2v {l : List Nat} {i : Nat} : z3B ops l i = true ↔ ∀ j ∈ l, z8e ops i j = false := by
 unfold z3B;rw [List.all_eq_true];constructor
 ·intro h j hj; have := h j hj; simpa using this
 ·intro h j hj; simp [h j hj]
def zeR (P : Program) (ops : Array Oper) (acts : List Nat) (K : Nat → Heap → Prop) (L : List Nat) (T : Nat → Value) (n : Nat) (H : Heap) (nx : Nat) (i : Nat) (o : Oper) : Prop :=
 (∀ d, o.dst = some d → d < n) ∧ ∃ val, (∀ d, o.dst = some d → T d = val) ∧ ((z1K ops T o = false ∧ val = undef) ∨
  (z1K ops T o = true ∧ aop P H nx (evR (z35 o) T) o = some (val, .none) ∧ ((∀ j ∈ L, acts.contains j = true → zbe ops j i = true) ∨ ∀ H' nx', K nx' H' → aop P H' nx' (evR (z35 o) T) o = some (val, .none))))
structure RInv (P : Program) (ops : Array Oper) (acts : List Nat) (K : Nat → Heap → Prop) (D L : List Nat) (listed : Array Bool) (tm T : Nat → Value) (n : Nat) (H : Heap) (nx : Nat) : Prop where
 size : listed.size = ops.size
 down : ∀ (i : Nat) (o : Oper), ops[i]? = some o → listed.getD i false = true → ∀ j, dep o j → listed.getD j false = true
 unl : ∀ i ∈ L, listed.getD i false = false
 all : ∀ i, i < ops.size → i ∈ D ∨ i ∈ L
 disj : ∀ p ∈ D, ∀ i ∈ L, p ≠ i
 topo : ∀ p ∈ D, ∀ i ∈ L, z8e ops p i = false
 nd : L.Nodup
 lt : ∀ i ∈ L, i < ops.size
 pend : ∀ i ∈ D, listed.getD i false = false → ∃ o, ops[i]? = some o ∧ zeR P ops acts K L T n H nx i o
 eqv : ∀ t, (∀ (i : Nat) (o : Oper), ops[i]? = some o → i ∈ D → listed.getD i false = false → o.dst ≠ some t) → tm t = T t
variable {D L : List Nat} {listed : Array Bool} {tm T : Nat → Value} {n nx : Nat} {H : Heap}
theorem z8Z (down : ∀ (i : Nat) (o : Oper), ops[i]? = some o → listed.getD i false = true → ∀ j, dep o j → listed.getD j false = true) : ∀ (m : Nat) (o : Oper) (i : Nat), (∀ j, dep o j → listed.getD j false = true) → zgC ops m o i → listed.getD i false = true := by
 intro m
 induction m with
 | zero => intro o i ha hd; exact ha i hd
 | succ m ihm =>
  intro o i ha hd;rcases hd with hd | ⟨k, ok, hok, hdk, hd⟩
  ·exact ha i hd
  ·exact ihm ok i (fun j hj => down k ok hok (ha k hdk) j hj) hd
theorem z6i (down : ∀ (i : Nat) (o : Oper), ops[i]? = some o → listed.getD i false = true → ∀ j, dep o j → listed.getD j false = true) {i j : Nat} {o : Oper} (ho : ops[j]? = some o) (hall : ∀ k, dep o k → listed.getD k false = true) (h : zbe ops j i = true) : listed.getD i false = true := by
 unfold zbe at h;rw [ho] at h;exact z8Z down 4 o i hall (z8P _ _ _ h)
theorem RInv.reads (hr : z39 ops = true) (hi : RInv P ops acts K D L listed tm T n H nx) {i : Nat} {o : Oper} (ho : ops[i]? = some o) (hall : ∀ j, dep o j → listed.getD j false = true) {t : Tmp} (ht : t ∈ z35 o ∨ z6x ops o = some t) : tm t = T t := by
 refine hi.eqv t fun p op hop hp hun hd => ?_;have := hall p (z3M hr ho hop ht hd);rw [hun] at this;cases this
theorem zaP (hr : z39 ops = true) (hone : ∀ (i j : Nat) (oi oj : Oper) (d : Tmp), ops[i]? = some oi → ops[j]? = some oj → oi.dst = some d → oj.dst = some d → i = j) {i p : Nat} {o op : Oper} {H' : Heap} {nx' : Nat} (ho : ops[i]? = some o) (hop : ops[p]? = some op) (hpi : p ≠ i) (hni : z8e ops p i = false) (v : Value)
  {L' : List Nat} (hsub : ∀ j ∈ L', j ∈ L) (hil : i ∈ L) (h : zeR P ops acts K L T n H nx p op) (hk : (H' = H ∧ nx' = nx) ∨ (acts.contains i = true ∧ zbe ops i p = false ∧ K nx' H')) : zeR P ops acts K L' (z9 T o.dst v) n H' nx' p op := by
 obtain ⟨h2, val, h3, h4⟩ := h
 have hsame : ∀ t, (t ∈ z35 op ∨ z6x ops op = some t) → z9 T o.dst v t = T t := fun t ht => by
  cases hd : o.dst with
  | none => rfl
  | some d =>
   have hne : t ≠ d := fun e => by
    subst e;have := z0E.2 (z3M hr hop ho ht hd);unfold z8e at hni;rw [hop] at hni;simp only at hni;rw [hni] at this;cases this
   simp only [z9, hne, if_false]
 refine ⟨h2, val, fun d hd => ?_, ?_⟩
 ·rw [← h3 d hd]
  cases hod : o.dst with
  | none => rfl
  | some d' =>
   have hne : d ≠ d' := fun e => hpi (hone p i op o d hop ho hd (by rw [hod, e]));simp only [z9, hne, if_false]
 ·rw [z0a (tm' := T) (fun d hd => hsame d (.inr hd)), z0u (tm' := T) (fun t ht => hsame t (.inl ht))]
  rcases h4 with h4 | ⟨h5, h6, h7⟩
  ·exact .inl h4
  ·refine .inr ⟨h5, ?_, ?_⟩
   ·rcases hk with ⟨rfl, rfl⟩ | ⟨he, hno, hK⟩
    ·exact h6
    ·rcases h7 with h7 | h7
     ·have := h7 i hil he
      rw [hno] at this; cases this
     ·exact h7 _ _ hK
   ·rcases h7 with h7 | h7
    ·exact .inl fun j hj => h7 j (hsub j hj)
    ·exact .inr h7
theorem z3I (hr : z39 ops = true) (hlex : ∀ (i : Nat) (o : Oper), ops[i]? = some o → ∀ j, dep o j → j < i) {i : Nat} {o : Oper} (ho : ops[i]? = some o) (v : Value) {t : Tmp} (ht : t ∈ z35 o ∨ z6x ops o = some t) : z9 T o.dst v t = T t := by
 cases hod : o.dst with
 | none => rfl
 | some d =>
  have hne : t ≠ d := fun e => by
   subst e;exact absurd (hlex i o ho i (z3M hr ho ho ht hod)) (Nat.lt_irrefl _)
  simp only [z9, hne, if_false]
theorem RInv.advance (hr : z39 ops = true) (hlex : ∀ (i : Nat) (o : Oper), ops[i]? = some o → ∀ j, dep o j → j < i) (hone : ∀ (i j : Nat) (oi oj : Oper) (d : Tmp), ops[i]? = some oi → ops[j]? = some oj → oi.dst = some d → oj.dst = some d → i = j) {i m : Nat} {Q : ASt → Prop} (hi : RInv P ops acts K D (i :: L) listed tm T n H nx) (hfr : z3B ops L i = true)
  (h : ∃ o, ops[i]? = some o ∧ z1c ⟨T, n, H, nx⟩ o = true ∧
   ((z10 ops ⟨T, n, H, nx⟩ o = false ∧ OpsR P W0 ops acts K m L (ASt.put ⟨T, n, H, nx⟩ o.dst undef .none) Q) ∨
    (z10 ops ⟨T, n, H, nx⟩ o = true ∧ ∃ v, aop P H nx (ASt.ev ⟨T, n, H, nx⟩) o = some (v, .none) ∧ (zbk ops acts i o L = true ∨ ∀ H' nx', K nx' H' → aop P H' nx' (ASt.ev ⟨T, n, H, nx⟩) o = some (v, .none)) ∧ OpsR P W0 ops acts K m L (ASt.put ⟨T, n, H, nx⟩ o.dst v .none) Q))) :
  ∃ T', RInv P ops acts K (i :: D) L listed tm T' n H nx ∧ OpsR P W0 ops acts K m L ⟨T', n, H, nx⟩ Q := by
 obtain ⟨o, ho, hd, h⟩ := h;have hl : ∀ j ∈ L, i ≠ j ∧ z8e ops i j = false := fun j hj => ⟨fun e => (List.nodup_cons.1 hi.nd).1 (e ▸ hj), z2v.1 hfr j hj⟩;have hdn := z0U hd
 have key : ∃ v, zeR P ops acts K L (z9 T o.dst v) n H nx i o ∧ OpsR P W0 ops acts K m L ⟨z9 T o.dst v, n, H, nx⟩ Q := by
  have hown : ∀ v d, o.dst = some d → z9 T o.dst v d = v := fun v d hd => by simp [z9, hd]
  rcases h with ⟨hw, h⟩ | ⟨hw, v, hop, hedge, h⟩
  ·refine ⟨undef, ⟨hdn, undef, hown undef, .inl ⟨?_, rfl⟩⟩, h⟩
   rw [z0a (tm' := T) (fun d hd => z3I hr hlex ho _ (.inr hd))];exact (z09 ⟨T, n, H, nx⟩ o).trans hw
  ·refine ⟨v, ⟨hdn, v, hown v, .inr ⟨?_, ?_, ?_⟩⟩, h⟩
   ·rw [z0a (tm' := T) (fun d hd => z3I hr hlex ho _ (.inr hd))]
    exact (z09 ⟨T, n, H, nx⟩ o).trans hw
   ·rw [z0u (tm' := T) (fun t ht => z3I hr hlex ho _ (.inl ht))]
    exact (z3F (st := ⟨T, n, H, nx⟩)).trans hop
   ·rcases hedge with hedge | hst
    ·unfold zbk at hedge
     rw [Bool.or_eq_true] at hedge;rcases hedge with hf | hf
     ·refine .inr fun H' nx' _ => ?_
      rw [z0u (tm' := T) (fun t ht => z3I hr hlex ho _ (.inl ht)), z2H (H' := H) (nx' := nx) hf];exact (z3F (st := ⟨T, n, H, nx⟩)).trans hop
     ·refine .inl fun j hj hej => ?_
      rw [List.all_eq_true] at hf;have := hf j hj;rw [hej] at this;simpa using this
    ·refine .inr fun H' nx' hK => ?_
     rw [z0u (tm' := T) (fun t ht => z3I hr hlex ho _ (.inl ht))];exact (z3F (st := ⟨T, n, H, nx⟩)).trans (hst H' nx' hK)
 obtain ⟨v, hp, h2⟩ := key;refine ⟨z9 T o.dst v, ⟨hi.size, hi.down, fun j hj => hi.unl j (List.mem_cons_of_mem _ hj), ?_, ?_, ?_, (List.nodup_cons.1 hi.nd).2, fun j hj => hi.lt j (List.mem_cons_of_mem _ hj), ?_, ?_⟩, h2⟩
 ·intro j hj
  rcases hi.all j hj with h | h
  ·exact .inl (List.mem_cons_of_mem _ h)
  ·rcases List.mem_cons.1 h with rfl | h
   ·exact .inl List.mem_cons_self
   ·exact .inr h
 ·intro p hp j hj
  rcases List.mem_cons.1 hp with rfl | hp
  ·exact (hl j hj).1
  ·exact hi.disj p hp j (List.mem_cons_of_mem _ hj)
 ·intro p hp j hj
  rcases List.mem_cons.1 hp with rfl | hp
  ·exact (hl j hj).2
  ·exact hi.topo p hp j (List.mem_cons_of_mem _ hj)
 ·intro p hp2 hun
  rcases List.mem_cons.1 hp2 with rfl | hp2
  ·exact ⟨o, ho, hp⟩
  ·obtain ⟨op, hop, hpe⟩ := hi.pend p hp2 hun
   exact ⟨op, hop, zaP hr hone ho hop (hi.disj p hp2 i List.mem_cons_self) (hi.topo p hp2 i List.mem_cons_self) v (fun j hj => List.mem_cons_of_mem _ hj) List.mem_cons_self hpe (.inl ⟨rfl, rfl⟩)⟩
 ·intro t ht
  have h0 := hi.eqv t (fun p op hop hp hun => ht p op hop (List.mem_cons_of_mem _ hp) hun);have hne := ht i o ho List.mem_cons_self (hi.unl i List.mem_cons_self);rw [h0];cases hod : o.dst with
  | none => rfl
  | some d =>
   have : t ≠ d := fun e => hne (by rw [hod, e]);simp only [z9, this, if_false]
theorem RInv.find (hr : z39 ops = true) (hlex : ∀ (i : Nat) (o : Oper), ops[i]? = some o → ∀ j, dep o j → j < i) (hone : ∀ (i j : Nat) (oi oj : Oper) (d : Tmp), ops[i]? = some oi → ops[j]? = some oj → oi.dst = some d → oj.dst = some d → i = j) {Q : ASt → Prop} {i : Nat} {o : Oper} (ho : ops[i]? = some o) (hall : ∀ j, dep o j → listed.getD j false = true) :
  ∀ (m : Nat) (L D : List Nat) (T : Nat → Value), RInv P ops acts K D L listed tm T n H nx → OpsR P W0 ops acts K m L ⟨T, n, H, nx⟩ Q → i ∈ L → ∃ m' D' L' T', RInv P ops acts K D' L' listed tm T' n H nx ∧ ((i ∈ D' ∧ OpsR P W0 ops acts K m' L' ⟨T', n, H, nx⟩ Q) ∨ (i ∈ L' ∧ z3B ops (L'.erase i) i = true ∧ ActStep P W0 ops acts K i ⟨T', n, H, nx⟩ fun s => OpsR P W0 ops acts K m' (L'.erase i) s Q)) := by
 intro m
 induction m with
 | zero =>
  intro L D T hi h hm;cases L with
  | nil => cases hm
  | cons k L => exact h.elim
 | succ m ih =>
  intro L D T hi h hm;cases L with
  | nil => cases hm
  | cons k L =>
   rcases h with ⟨_, hfr, h⟩ | h
   ·obtain ⟨T', hi', h'⟩ := hi.advance hr hlex hone hfr h
    by_cases hk : k = i
    ·subst hk
     exact ⟨m, _, _, T', hi', .inl ⟨List.mem_cons_self, h'⟩⟩
    ·have hm2 : i ∈ L := by
      rcases List.mem_cons.1 hm with e | hm
      ·exact absurd e.symm hk
      ·exact hm
     exact ih _ _ _ hi' h' hm2
   ·have hfr : z3B ops ((k :: L).erase i) i = true := z2v.2 fun j hj => by
     cases hd : z8e ops i j with
     | false => rfl
     | true =>
      have hjl := hi.unl j (List.mem_of_mem_erase hj);unfold z8e at hd;rw [ho] at hd;have := hall j (z0E.1 hd);rw [hjl] at this;cases this
    exact ⟨m, D, _, T, hi, .inr ⟨hm, hfr, h i hm hfr⟩⟩
theorem zb4 {ρ : Option Nat} {C : Corr} {o : Oper} {f : FuncId} {args : List Value} {R : Value → Nat → Heap → Prop} {a : Act} {w : World} {i : Nat} {KK : Act → World → Prop} {Q : Exit → Act → World → Prop} (hs : SRel W0 C ⟨tm, n, H, nx⟩ a w) (hd : ∀ d, o.dst = some d → d < n) (hw : z1K ops tm o = true)
  (hc : z3E (evR (z35 o) tm) o = some (f, args)) (hf : z0F P f) (hcall : ACalls P W0 f args nx H R) (ho : ops[i]? = some o)
  (hk : ∀ v nx' H' C' v' w', R v nx' H' → SRel W0 C' ⟨z9 tm o.dst v, n, H', nx'⟩ (a.put o.dst v') w' → Stp nx H C nx' H' C' → KK (a.put o.dst v') w') : wpOpIn (rf ρ) 0 P ops Q i KK a w := by
 have hww := z1S hs ops o;rw [← z09] at hww;unfold wpOpIn;rw [ho];simp only [hww, hw, if_true];refine ⟨fun _ _ => trivial, ?_⟩;have hE' := z3u hs (zcw _ _) hc;obtain ⟨args', hrun, hargs⟩ := z2J hs hE' hf;rw [z2K hE', hrun];refine ⟨fun h => (by cases h), z43 ((hcall C w args' hs.rel hargs).mono ?_)⟩;rintro e w'' ⟨v0, v', C', nx1, H1, rfl, hr, hR, hv, hS⟩;exact hk v0 nx1 H1 C' v' w'' hr (hs.put hd hR hS hv) hS
theorem ze4 (hr : z39 ops = true) (hlex : ∀ (i : Nat) (o : Oper), ops[i]? = some o → ∀ j, dep o j → j < i) (hone : ∀ (i j : Nat) (oi oj : Oper) (d : Tmp), ops[i]? = some oi → ops[j]? = some oj → oi.dst = some d → oj.dst = some d → i = j) {ρ : Option Nat} {nx0 : Nat} {H0 : Heap} {C0 : Corr} {df : List Deferred} {Q' : ASt → Prop} {Q : Exit → Act → World → Prop}
  (hq : ∀ T H nx C a w, Q' ⟨T, n, H, nx⟩ → SRel W0 C ⟨T, n, H, nx⟩ a w → Stp nx0 H0 C0 nx H C → a.defers = df → Q .normal a w) :
  ∀ (fuel : Nat) (listed : Array Bool) (tm : Nat → Value) (m : Nat) (D L : List Nat) (T : Nat → Value) (H : Heap) (nx : Nat) (C : Corr) (a : Act) (w : World), RInv P ops acts K D L listed tm T n H nx → ((List.range ops.size).filter fun i => !listed.getD i false).length = fuel →
   SRel W0 C ⟨tm, n, H, nx⟩ a w → Stp nx0 H0 C0 nx H C → a.defers = df → K nx H → OpsR P W0 ops acts K m L ⟨T, n, H, nx⟩ Q' → wpAnyIn (rf ρ) 0 P .any ops Q fuel listed a w := by
 intro fuel
 induction fuel with
 | zero =>
  intro listed tm m D L T H nx C a w hi hf hs hS hdf hK h
  have hall : ∀ i, i < ops.size → listed.getD i false = true := by
   intro i hlt;cases hl : listed.getD i false with
   | true => rfl
   | false =>
    have : i ∈ (List.range ops.size).filter fun i => !listed.getD i false := List.mem_filter.2 ⟨List.mem_range.2 hlt, by rw [hl]; rfl⟩;rw [List.length_eq_zero_iff.1 hf] at this;cases this
  refine ⟨?_, ?_⟩
  ·cases hrr : Region.ready .any ops listed with
   | nil => rfl
   | cons j r =>
    have hj : j ∈ Region.ready .any ops listed := by rw [hrr]; exact List.mem_cons_self ..
    obtain ⟨h0, o, ho, _⟩ := mem_ready.1 hj;have hlt : j < ops.size := (Array.getElem?_eq_some_iff.1 ho).1;have := hall j hlt;rw [z3b (by rw [hi.size]; exact hlt) false true, h0] at this;cases this
  ·cases L with
   | cons k L =>
    have := hi.unl k List.mem_cons_self;rw [hall k (hi.lt k List.mem_cons_self)] at this;cases this
   | nil =>
    have h : Q' ⟨T, n, H, nx⟩ := by cases m <;> exact h
    have htm : tm = T := by
     funext t;refine hi.eqv t fun p op hop hp hun => ?_;rw [hall p (Array.getElem?_eq_some_iff.1 hop).1] at hun;cases hun
    subst htm;exact hq _ _ _ C a w h hs hS hdf
 | succ fuel ih =>
  intro listed tm m D L T H nx C a w hi hf hs hS hdf hK h;refine ⟨?_, ?_⟩
  ·intro hrd
   exfalso
   have hex : ∃ i, i < ops.size ∧ listed.getD i false = false ∧ ∀ j, j < i → listed.getD j false = true := by
    have : ∃ i, i < ops.size ∧ listed.getD i false = false := by
     cases hl : (List.range ops.size).filter fun i => !listed.getD i false with
     | nil => rw [hl] at hf; simp at hf
     | cons i r =>
      have : i ∈ (List.range ops.size).filter fun i => !listed.getD i false := by rw [hl]; exact List.mem_cons_self ..
      obtain ⟨h1, h2⟩ := List.mem_filter.1 this;exact ⟨i, List.mem_range.1 h1, by simpa using h2⟩
    obtain ⟨i, h1, h2⟩ := this
    induction i using Nat.strongRecOn with
    | _ i ihh =>
     by_cases hm : ∃ j, j < i ∧ listed.getD j false = false
     ·obtain ⟨j, hj1, hj2⟩ := hm
      exact ihh j hj1 (by omega) hj2
     ·refine ⟨i, h1, h2, fun j hj => ?_⟩
      cases hl : listed.getD j false with
      | true => rfl
      | false => exact absurd ⟨j, hj, hl⟩ hm
   obtain ⟨i, hlt, hun, hmin⟩ := hex;have ho : ops[i]? = some ops[i] := by simp
   have : i ∈ Region.ready .any ops listed := mem_ready.2 ⟨by rw [z3b (by rw [hi.size]; exact hlt) true false]; exact hun, _, ho, fun e he hb => hmin _ (hlex i _ ho e.on ⟨e, he, hb, rfl⟩)⟩;rw [hrd] at this;cases this
  ·intro i hir
   obtain ⟨h0, o, ho, hall0⟩ := mem_ready.1 hir;have hlt : i < ops.size := (Array.getElem?_eq_some_iff.1 ho).1;have hlts : i < listed.size := by rw [hi.size]; exact hlt
   have hun : listed.getD i false = false := by rw [z3b hlts false true]; exact h0
   have hall : ∀ j, dep o j → listed.getD j false = true := fun j ⟨e, he, hb, hj⟩ => hj ▸ hall0 e he hb
   have hcount : ((List.range ops.size).filter fun j => !(listed.setIfInBounds i true).getD j false).length = fuel := by
    have key : ∀ (l : List Nat), l.Nodup → i ∈ l → ((l.filter fun j => !(listed.setIfInBounds i true).getD j false).length + 1 = (l.filter fun j => !listed.getD j false).length) := by
     intro l
     induction l with
     | nil => intro _ hm; cases hm
     | cons x l ihl =>
      intro hnd hm;rw [List.nodup_cons] at hnd;by_cases e : x = i
      ·subst e
       have hsame : (l.filter fun j => !(listed.setIfInBounds x true).getD j false) = (l.filter fun j => !listed.getD j false) := by
        apply List.filter_congr;intro y hy;rw [getD_set_ne false (fun z : x = y => hnd.1 (by rw [z]; exact hy))]
       rw [List.filter_cons, List.filter_cons];simp only [z0e hlts, hun, Bool.not_true, Bool.not_false, Bool.false_eq_true, if_false, if_true, List.length_cons, hsame]
      ·have hm' : i ∈ l := by
        cases hm with
        | head => exact absurd rfl e
        | tail _ hm => exact hm
       have := ihl hnd.2 hm';rw [List.filter_cons, List.filter_cons, getD_set_ne false (Ne.symm e)];split
       ·simp only [List.length_cons]; omega
       ·exact this
    have := key (List.range ops.size) List.nodup_range (List.mem_range.2 hlt);omega
   have hdown' : ∀ (k : Nat) (ok : Oper), ops[k]? = some ok → (listed.setIfInBounds i true).getD k false = true → ∀ j, dep ok j → (listed.setIfInBounds i true).getD j false = true := by
    intro k ok hok hk j hj;apply getD_set_true;by_cases e : i = k
    ·subst e
     rw [ho] at hok;cases hok;exact hall j hj
    ·rw [getD_set_ne false e] at hk
     exact hi.down k ok hok hk j hj
   have hwalk : ∃ m' D' L' T', RInv P ops acts K D' L' listed tm T' n H nx ∧ ((i ∈ D' ∧ OpsR P W0 ops acts K m' L' ⟨T', n, H, nx⟩ Q') ∨ (i ∈ L' ∧ z3B ops (L'.erase i) i = true ∧ ActStep P W0 ops acts K i ⟨T', n, H, nx⟩ fun s => OpsR P W0 ops acts K m' (L'.erase i) s Q')) := by
    rcases hi.all i hlt with hD | hL
    ·exact ⟨m, D, L, T, hi, .inl ⟨hD, h⟩⟩
    ·exact RInv.find hr hlex hone ho hall m L D T hi h hL
   clear hi h T D L m;obtain ⟨m, D, L, T, hi, hcase⟩ := hwalk;have hrd : ∀ t, (t ∈ z35 o ∨ z6x ops o = some t) → tm t = T t := fun t ht => hi.reads hr ho hall ht;rcases hcase with ⟨hD, h⟩ | ⟨hL, hfr, h⟩
   ·-- one that waits comes up
    obtain ⟨o', ho', hp⟩ := hi.pend i hD hun;rw [ho] at ho';cases ho';obtain ⟨p2, val, p3, p4⟩ := hp
    have hds : DStep P W0 ops tm n H nx o val H nx := by
     refine ⟨p2, ?_⟩;rw [z0a (tm' := T) (fun d hd => hrd d (.inr hd)), z0u (tm' := T) (fun t ht => hrd t (.inl ht))];rcases p4 with ⟨q1, q2⟩ | ⟨q1, q2, _⟩
     ·exact .inl ⟨q1, q2, rfl, rfl⟩
     ·exact .inr ⟨q1, .inl ⟨.none, q2, rfl, rfl⟩⟩
    refine hds.wp hs ho ?_;intro C' v' w' hs' hS';refine ih (listed.setIfInBounds i true) (z9 tm o.dst val) m D L T H nx C' _ w' ⟨by simp [hi.size], hdown', ?_, hi.all, hi.disj, hi.topo, hi.nd, hi.lt, ?_, ?_⟩ hcount hs' (hS.trans hS') ((z0T _ _ _).trans hdf) hK h
    ·intro j hj
     rw [getD_set_ne false (hi.disj i hD j hj)];exact hi.unl j hj
    ·intro p hp hpu
     by_cases e : i = p
     ·subst e
      rw [z0e hlts] at hpu;cases hpu
     ·rw [getD_set_ne false e] at hpu
      exact hi.pend p hp hpu
    ·intro t ht
     by_cases hdt : o.dst = some t
     ·simp only [z9, hdt, if_true]
      exact (p3 t hdt).symm
     ·have hb : tm t = T t := hi.eqv t fun p op hop hp hpu => by
       by_cases e : i = p
       ·subst e
        rw [ho] at hop;cases hop;exact hdt
       ·exact ht p op hop hp (by rw [getD_set_ne false e]; exact hpu)
      rw [← hb];cases hod : o.dst with
      | none => rfl
      | some d =>
       have : t ≠ d := fun e => hdt (by rw [hod, e]);simp only [z9, this, if_false]
   ·-- one that acts
    obtain ⟨o', ho', hd, hE, h⟩ := h;rw [ho] at ho';cases ho';have hdn := z0U hd;have hmE : ∀ j ∈ L.erase i, j ∈ L := fun j hj => List.mem_of_mem_erase hj;have hl : ∀ j ∈ L.erase i, i ≠ j ∧ z8e ops i j = false := fun j hj => ⟨fun e => by subst e; exact absurd hj (fun hx => (hi.nd.mem_erase_iff.1 hx).1 rfl), z2v.1 hfr j hj⟩
    have hnodep : ∀ p ∈ D, listed.getD p false = false → zbe ops i p = false := by
     intro p hp hpu;cases hx : zbe ops i p with
     | false => rfl
     | true =>
      have := z6i hi.down ho hall hx;rw [hpu] at this;cases this
    have hnext : ∀ (v : Value) (H' : Heap) (nx' : Nat) (C' : Corr) (v' : Value) (w' : World), ((H' = H ∧ nx' = nx) ∨ K nx' H') → OpsR P W0 ops acts K m (L.erase i) ⟨z9 T o.dst v, n, H', nx'⟩ Q' → SRel W0 C' ⟨z9 tm o.dst v, n, H', nx'⟩ (a.put o.dst v') w' → Stp nx H C nx' H' C' → wpAnyIn (rf ρ) 0 P .any ops Q fuel (listed.setIfInBounds i true) (a.put o.dst v') w' := by
     intro v H' nx' C' v' w' hK' h' hs' hS';refine ih (listed.setIfInBounds i true) (z9 tm o.dst v) m (i :: D) (L.erase i) (z9 T o.dst v) H' nx' C' _ w' ⟨by simp [hi.size], hdown', ?_, ?_, ?_, ?_, hi.nd.erase i, fun j hj => hi.lt j (hmE j hj), ?_, ?_⟩ hcount hs' (hS.trans hS') ((z0T _ _ _).trans hdf) (by rcases hK' with ⟨rfl, rfl⟩ | hK'; exact hK; exact hK') h'
     ·intro j hj
      rw [getD_set_ne false (hl j hj).1];exact hi.unl j (hmE j hj)
     ·intro j hj
      rcases hi.all j hj with h | h
      ·exact .inl (List.mem_cons_of_mem _ h)
      ·by_cases e : j = i
       ·exact .inl (e ▸ List.mem_cons_self)
       ·exact .inr ((List.mem_erase_of_ne e).2 h)
     ·intro p hp j hj
      rcases List.mem_cons.1 hp with rfl | hp
      ·exact (hl j hj).1
      ·exact hi.disj p hp j (hmE j hj)
     ·intro p hp j hj
      rcases List.mem_cons.1 hp with rfl | hp
      ·exact (hl j hj).2
      ·exact hi.topo p hp j (hmE j hj)
     ·intro p hp hpu
      rcases List.mem_cons.1 hp with rfl | hp
      ·rw [z0e hlts] at hpu
       cases hpu
      ·have hne : i ≠ p := fun e => hi.disj p hp i hL e.symm
       rw [getD_set_ne false hne] at hpu;obtain ⟨op, hop, hpe⟩ := hi.pend p hp hpu;refine ⟨op, hop, zaP hr hone ho hop (Ne.symm hne) (hi.topo p hp i hL) v hmE hL hpe ?_⟩;rcases hK' with hK' | hK'
       ·exact .inl hK'
       ·exact .inr ⟨hE, hnodep p hp hpu, hK'⟩
     ·intro t ht
      by_cases hdt : o.dst = some t
      ·simp only [z9, hdt, if_true]
      ·have hb : tm t = T t := hi.eqv t fun p op hop hp hpu => ht p op hop (List.mem_cons_of_mem _ hp) (by
        have hne : i ≠ p := fun e => hi.disj p hp i hL e.symm;rw [getD_set_ne false hne]; exact hpu)
       cases hod : o.dst with
       | none => exact hb
       | some d =>
        have : t ≠ d := fun e => hdt (by rw [hod, e]);simp only [z9, this, if_false];exact hb
    have hwT : z1K ops tm o = z10 ops ⟨T, n, H, nx⟩ o := by
     rw [z0a (tm' := T) (fun d hd => hrd d (.inr hd))];exact z09 ⟨T, n, H, nx⟩ o
    have hevT : evR (z35 o) tm = evR (z35 o) T := z0u (fun t ht => hrd t (.inl ht));rcases h with ⟨hw, h⟩ | ⟨hw, ⟨v, e, hop, hKe, h⟩ | ⟨f, args, R, hc, hf2, hcall, h⟩⟩
    ·have hds : DStep P W0 ops tm n H nx o undef H nx := ⟨hdn, .inl ⟨hwT.trans hw, rfl, rfl, rfl⟩⟩
     exact hds.wp hs ho fun C' v' w' hs' hS' => hnext undef H nx C' v' w' (.inl ⟨rfl, rfl⟩) h hs' hS'
    ·have hds : DStep P W0 ops tm n H nx o v (e.H nx H) (e.nx nx) := ⟨hdn, .inr ⟨hwT.trans hw, .inl ⟨e, by rw [hevT]; exact (z3F (st := ⟨T, n, H, nx⟩)).trans hop, rfl, rfl⟩⟩⟩
     exact hds.wp hs ho fun C' v' w' hs' hS' => hnext v _ _ C' v' w' (.inr hKe) h hs' hS'
    ·refine zb4 hs hdn (hwT.trans hw) (by rw [hevT]; exact (z3v (st := ⟨T, n, H, nx⟩)).trans hc) hf2 hcall ho ?_
     intro v nx' H' C' v' w' hRv hs' hS';obtain ⟨hK', h'⟩ := h v nx' H' hRv;exact hnext v H' nx' C' v' w' (.inr hK') h' hs' hS'
theorem OpsR.drawn {id : Nat} {st : ASt} {Q : AExit → ASt → Prop} (acts : List Nat) (hm : P.follows .mixedOrders = true) (hs : z6X ops = true) (hr : z39 ops = true) (perm : List Nat) (hperm : ((List.range ops.size).all perm.contains && perm.all (fun i => decide (i < ops.size)) && decide perm.Nodup) = true) (h0 : K st.nx st.H) (h : OpsR P W0 ops acts K perm.length perm st (Q .normal)) : Trip P W0 (.region id ops true) st Q := by
 obtain ⟨b1, b2, _⟩ := z3l hs;simp only [Bool.and_eq_true, decide_eq_true_eq] at hperm;obtain ⟨⟨hp1, hp2⟩, hp3⟩ := hperm;intro ρ C a w hrr hss;have hs' : SRel W0 C st a w.drew := ⟨hss.tm, hss.sz, hss.rel.drew⟩
 have hfalse : ∀ i, (Array.replicate ops.size false).getD i false = false := fun i => by
  rw [Array.getD_eq_getD_getElem?, Array.getElem?_replicate]; split <;> rfl
 refine wpIn_region_any hm (ze4 (P := P) (W0 := W0) (K := K) (n := st.n) (nx0 := st.nx) (H0 := st.H) (C0 := C) (df := a.defers) (Q' := Q .normal) hr b1 b2 (fun T H nx C' a' w' hq hs' hS hdf => ⟨.normal, _, C', rfl, hq, hs', hS, rfl, .of_eq hdf⟩) ops.size (Array.replicate ops.size false) st.tm perm.length [] perm st.tm st.H st.nx C a _ ?_ ?_ hs' (Stp.refl _ _ _) rfl h0 h)
 ·refine ⟨by simp, fun i o _ hl => (by rw [hfalse] at hl; cases hl), fun i _ => hfalse i, fun i hi => .inr ?_, fun p hp => (by cases hp), fun p hp => (by cases hp), hp3, fun i hi => (by have := List.all_eq_true.1 hp2 i hi; simpa using this), fun i hi => (by cases hi), fun t _ => rfl⟩
  have := List.all_eq_true.1 hp1 i (List.mem_range.2 hi);simpa using this
 ·have : ((List.range ops.size).filter fun i => !(Array.replicate ops.size false).getD i false) = List.range ops.size := by
   rw [List.filter_eq_self];intro i _;rw [hfalse]; rfl
  rw [this, List.length_range]
theorem OpsR.nil {m : Nat} {st : ASt} {Q : ASt → Prop} (h : Q st) : OpsR P W0 ops acts K m [] st Q := by cases m <;> exact h
theorem OpsR.one {m i : Nat} {l : List Nat} {o : Oper} {st : ASt} {Q : ASt → Prop} (ho : ops[i]? = some o) (hn : acts.contains i = false) (he : z1Z o.op = false) (hk : (z3B ops l i && zbk ops acts i o l) = true) (h : OpsL P W0 ops [o] st fun s => OpsR P W0 ops acts K m l s Q) : OpsR P W0 ops acts K (m + 1) (i :: l) st Q := by
 rw [Bool.and_eq_true] at hk;obtain ⟨hd, h⟩ := h;refine .inl ⟨hn, hk.1, o, ho, hd, ?_⟩;rcases h with ⟨hw, h⟩ | ⟨hw, ⟨v, e, hop, h⟩ | ⟨f, args, R, hc, _⟩⟩
 ·exact .inl ⟨hw, h⟩
 ·have := z32 he hop
  subst this;exact .inr ⟨hw, v, hop, .inl hk.2, h⟩
 ·have := z4Y (z2l hc)
  rw [he] at this;cases this
theorem zD {m i : Nat} {l : List Nat} {d : Tmp} {op : Op} {type : TypeId} {pos : String} {after : Array Edge} {tm : Nat → Value} {n nx : Nat} {H : Heap} {v : Value} {Q : ASt → Prop} (ho : ops[i]? = some ⟨some d, op, type, pos, after, none⟩) (he : (!acts.contains i && z3B ops l i) = true) (hd : d < n) (hK : K nx H)
  (hop : ∀ H' nx', K nx' H' → aop P H' nx' (ASt.ev ⟨tm, n, H, nx⟩) ⟨some d, op, type, pos, after, none⟩ = some (v, .none)) (h : OpsR P W0 ops acts K m l ⟨z9 tm (some d) v, n, H, nx⟩ Q) : OpsR P W0 ops acts K (m + 1) (i :: l) ⟨tm, n, H, nx⟩ Q := by
 simp only [Bool.and_eq_true, Bool.not_eq_true'] at he;exact .inl ⟨he.1, he.2, _, ho, by simp [z1c, hd], .inr ⟨rfl, v, hop H nx hK, .inr hop, h⟩⟩
def z7m (ops : Array Oper) (l all : List Nat) : Bool := l.all fun j => (all.erase j).any fun k => z8e ops j k
theorem z5f {l all : List Nat} (h : z7m ops l all = true) {j : Nat} (hj : j ∈ l) : z3B ops (all.erase j) j = false := by
 unfold z7m at h;rw [List.all_eq_true] at h;have := h j hj;rw [List.any_eq_true] at this;obtain ⟨k, hk, hd⟩ := this;cases hf : z3B ops (all.erase j) j with
 | false => rfl
 | true => rw [z2v.1 hf k hk] at hd; cases hd
theorem zZ {m i : Nat} {l : List Nat} {st : ASt} {Q : ASt → Prop} (hw : z7m ops l (i :: l) = true) (h : ActStep P W0 ops acts K i st fun s => OpsR P W0 ops acts K m l s Q) : OpsR P W0 ops acts K (m + 1) (i :: l) st Q := by
 refine .inr fun j hj hf => ?_;by_cases e : j = i
 ·subst e
  rw [List.erase_cons_head];exact h
 ·have hj2 : j ∈ l := by
   rcases List.mem_cons.1 hj with h | h
   ·exact absurd h e
   ·exact h
  rw [z5f hw hj2] at hf;cases hf
theorem z15 {m i k : Nat} {l : List Nat} {st : ASt} {Q : ASt → Prop} (hw : (z7m ops l (i :: k :: l) && !Nat.beq i k) = true) (h1 : ActStep P W0 ops acts K i st fun s => OpsR P W0 ops acts K m (k :: l) s Q) (h2 : ActStep P W0 ops acts K k st fun s => OpsR P W0 ops acts K m (i :: l) s Q) : OpsR P W0 ops acts K (m + 1) (i :: k :: l) st Q := by
 simp only [Bool.and_eq_true, Bool.not_eq_true'] at hw;have hne : k ≠ i := fun e => by have := hw.2; rw [e] at this; simp at this
 refine .inr fun j hj hf => ?_;by_cases e : j = i
 ·subst e
  rw [List.erase_cons_head];exact h1
 ·by_cases e2 : j = k
  ·subst e2
   rw [List.erase_cons_tail (by simpa using Ne.symm hne), List.erase_cons_head];exact h2
  ·have hj2 : j ∈ l := by
    rcases List.mem_cons.1 hj with h | h
    ·exact absurd h e
    ·rcases List.mem_cons.1 h with h | h
     ·exact absurd h e2
     ·exact h
   rw [z5f hw.1 hj2] at hf;cases hf
section
variable {i : Nat} {d : Tmp} {ts : Array TypeId} {type : TypeId} {pos : String} {after : Array Edge} {tm : Nat → Value} {n nx : Nat} {H : Heap} {f : FuncId} {R : Value → Nat → Heap → Prop} {N : ASt → Prop}
theorem z3x {c x : Operand} {a : Value} (ho : ops[i]? = some ⟨some d, .call ⟨.value c, #[x], ts⟩, type, pos, after, none⟩) (he : acts.contains i = true) (hd : d < n) (hf' : ASt.ev ⟨tm, n, H, nx⟩ c = some (.func (.func f) #[] #[])) (hx : ASt.ev ⟨tm, n, H, nx⟩ x = some a) (hf : z0F P f) (hcall : ACalls P W0 f [a] nx H R)
  (h : ∀ v nx' H', R v nx' H' → K nx' H' ∧ N ⟨z9 tm (some d) v, n, H', nx'⟩) : ActStep P W0 ops acts K i ⟨tm, n, H, nx⟩ N :=
 ⟨_, ho, by simp [z1c, hd], he, .inr ⟨rfl, .inr ⟨f, [a], R, by simp [z0O, hf', z0q, hx], hf, hcall, h⟩⟩⟩
theorem zH {c x y : Operand} {a b : Value} (ho : ops[i]? = some ⟨some d, .call ⟨.value c, #[x, y], ts⟩, type, pos, after, none⟩) (he : acts.contains i = true) (hd : d < n) (hf' : ASt.ev ⟨tm, n, H, nx⟩ c = some (.func (.func f) #[] #[])) (hx : ASt.ev ⟨tm, n, H, nx⟩ x = some a) (hy : ASt.ev ⟨tm, n, H, nx⟩ y = some b) (hf : z0F P f) (hcall : ACalls P W0 f [a, b] nx H R)
  (h : ∀ v nx' H', R v nx' H' → K nx' H' ∧ N ⟨z9 tm (some d) v, n, H', nx'⟩) : ActStep P W0 ops acts K i ⟨tm, n, H, nx⟩ N :=
 ⟨_, ho, by simp [z1c, hd], he, .inr ⟨rfl, .inr ⟨f, [a, b], R, by simp [z0O, hf', z0q, hx, hy], hf, hcall, h⟩⟩⟩
end
end
end Go.Am
namespace Go.Am
open Go.RowKit Go.ChangeShapes Go.WideShapes Go.ChangeAt
section
variable {H : Type} {enc : TypeId × Value → H} {P : Program} {W W' : World}
theorem z7O (hl : laidOutB P = true) (hb : BelD W.heap.size W W') : ∀ (ts : List TypeId) (vs : List Value) (ds : List (DataW H)) (ps : List MemPlace), (ts.all fun t => P.readableRec t && decide (t < P.types.size)) = true →
  DataW.TrodAll enc P W 0 (fun _ => true) true ts vs ds ps → (∀ x ∈ ps, x.block < W.heap.size) → DataW.TrodAll enc P W' 0 (fun b => decide (b < W.heap.size)) true ts vs ds ps := by
 intro ts
 induction ts with
 | nil =>
  intro vs ds ps _ h _;cases vs <;> cases ds <;> first | exact h | exact h.elim
 | cons t ts ih =>
  intro vs ds ps hr h hlt;simp only [List.all_cons, Bool.and_eq_true, decide_eq_true_eq] at hr;obtain ⟨v, vs', d, ds', p, q, rfl, rfl, rfl, h0, h1⟩ := trodAll_cons h;exact trodAll_cons_mk (Below.trod hl hr.1.1 hr.1.2 h0 hb.toB (fun x hx => hlt x (List.mem_append.2 (.inl hx)))) (ih vs' ds' q hr.2 h1 (fun x hx => hlt x (List.mem_append.2 (.inr hx))))
theorem zeb {f : Func} {s : ChangeSpec} {t : TypeId} {args : Array Value} {ds gs : List (DataW H)} {before : List MemPlace} (hl : laidOutB P = true) (hr : (f.params.toList.all fun t => P.readableRec t && decide (t < P.types.size)) = true)
  (hrt : f.resultTypes = #[t]) (ht : P.underlying t = some .bool) (hvars : s.vars = []) (hW : DataW.Whole enc P f.params.toList s.vars false W args.toList ds gs before)
  (hspec : s.fn H (ds ++ gs) = { results := [.lit (.bool true)], args := ds }) (hb : BelD W.heap.size W W') : s.post enc P f false true false false W args (.bool true) W' := by
 have hW' := hW;obtain ⟨p, q, hA, hV, rfl, _, _⟩ := hW;have hlt : ∀ x ∈ p, x.block < W.heap.size := fun x hx => hW'.lt x (List.mem_append.2 (.inl hx));rw [hvars] at hV;obtain ⟨rfl, rfl⟩ := trodVars_none hV;refine ⟨ds, [], _, [], p, [], hW', ?_, ?_, ?_, hb.toB.frame _, fun h => by cases h⟩
 ·rw [hspec, hrt]
  exact trodAll_mk1 (shut_bool ht _)
 ·rw [hspec]
  exact z7O hl hb _ _ _ _ hr hA hlt
 ·rw [hspec, hvars]; rfl
end
end Go.Am
namespace Go.Am
open Go.RowKit Go.ChangeShapes Go.WideShapes Go.ChangeAt
inductive Arg where
 | plain (v : Value)
 | ints (k : IntKind) (xs : List Int)
def NumsAt (H : Heap) (k : IntKind) (v : Value) (xs : List Int) : Prop :=
 (∃ c, v = .slice none 0 c ∧ xs = []) ∨ ∃ a c, v = .slice (some a) xs.length c ∧ ∀ (i : Nat) (h : i < xs.length), zb H ⟨a.block, a.off + i, a.spot⟩ (.int k xs[i])
def zi6 (H : Heap) (v : Value) : Prop := v = .slice none 0 0 ∨ ∃ k n c cs, v = .slice (some ⟨k, 0, none⟩) n c ∧ H k = some (.cells cs 1 none true none) ∧ cs.length = c ∧ n ≤ c
def z5H (W : World) : Arg → Value → Prop
 | .plain u, v => v = u ∧ zk u = true
 | .ints k xs, v => (v = .slice none 0 0 ∧ xs = []) ∨ ∃ (b off len cap : Nat) (zs : List Int) (Cc : Array Value) (el : TypeId) (fr : Nat × Nat), v = .slice (some ⟨b, off, none⟩) len cap ∧ len ≤ cap ∧ zs.length = cap ∧ xs = zs.take len ∧
   W.heap[b]? = some (.cells Cc el fr) ∧ off + cap ≤ Cc.size ∧ ∀ i, i < cap → Cc[off + i]? = some (.int k (zs.getD i 0))
def Arg.at (H : Heap) : Arg → Value → Prop
 | .plain u, v => v = u
 | .ints k xs, v => NumsAt H k v xs ∧ zi6 H v
def All2 {α β : Type} (R : α → β → Prop) : List α → List β → Prop
 | [], [] => True
 | a :: l, b :: l' => R a b ∧ All2 R l l'
 | _, _ => False
theorem All2.cons {α β : Type} {R : α → β → Prop} {a : α} {l : List α} {us : List β} (h : All2 R (a :: l) us) : ∃ b us', us = b :: us' ∧ R a b ∧ All2 R l us' := by
 cases us with
 | nil => exact h.elim
 | cons b us => exact ⟨b, us, rfl, h.1, h.2⟩
theorem All2.nil {α β : Type} {R : α → β → Prop} {us : List β} (h : All2 R [] us) : us = [] := by
 cases us with
 | nil => rfl
 | cons b us => exact h.elim
section
variable {P : Program} {W0 : World} {C : Corr} {nx : Nat} {H : Heap} {w : World}
theorem Rel.read (h : Rel W0 C nx H w) (hpn : ∀ k, C.pin k = none) (hro : ∀ id o, H id = some o → o.ro = true) {c : List Value} {b off : Nat} {Cc : Array Value} {el : TypeId} {fr : Nat × Nat} (hw : w.heap[b]? = some (.cells Cc el fr)) (hle : off + c.length ≤ Cc.size)
  (hp : c.all zk = true) (hc : ∀ i, i < c.length → Cc[off + i]? = c[i]?) :
  Rel W0 (C.put nx (b, off) Cc.size) (nx + 1) (H.put nx (.cells c 1 none true none)) w ∧ Stp nx H C (nx + 1) (H.put nx (.cells c 1 none true none)) (C.put nx (b, off) Cc.size) := by
 have hst : Stp nx H C (nx + 1) (H.put nx (.cells c 1 none true none)) (C.put nx (b, off) Cc.size) := ⟨⟨by omega, fun id o' hid ho' ht => by
  have : id ≠ nx := by omega
  simp only [Heap.put, this, if_false] at ho';exact ⟨o', ho', rfl, rfl, by simp [Corr.put, this], by simp [Corr.put, this]⟩⟩, fun _ _ x => x, fun id hid hl => by
  have : id ≠ nx := by omega
  simp only [Heap.put, this, if_false];exact ⟨hl, by simp [Corr.put, this]⟩⟩
 have hro' : ∀ id o, (H.put nx (.cells c 1 none true none)) id = some o → o.ro = true := by
  intro id o ho;by_cases e : id = nx
  ·simp only [Heap.put, e, if_true, Option.some.injEq] at ho; subst ho; rfl
  ·simp only [Heap.put, e, if_false] at ho; exact hro id o ho
 refine ⟨⟨h.below, ?_, ?_, ?_, ?_, h.pin, Nat.le_succ_of_le h.base, fun g og hg hog => ?_, fun _ _ _ => hpn _⟩, hst⟩
 ·intro id o' ho'
  by_cases e : id = nx
  ·subst e
   simp only [Heap.put, if_true, Option.some.injEq] at ho';subst ho';exact ⟨by omega, fun t ht => by cases ht⟩
  ·simp only [Heap.put, e, if_false] at ho'
   obtain ⟨a, b⟩ := h.lt id o' ho';exact ⟨by omega, fun t ht => by have := b t ht; omega⟩
 ·intro id o' ho'
  by_cases e : id = nx
  ·subst e
   simp only [Heap.put, if_true, Option.some.injEq] at ho';subst ho';refine ⟨Cc, el, fr, by simpa [Corr.put] using hw, by simp [Corr.put], by simpa [Corr.put] using hle, ?_, ⟨fun hh => (by cases hh), fun t ht => (by cases ht), fun hh => (by cases hh), fun hh => (by cases hh)⟩⟩;intro i hi hi';simp only [Corr.put, if_true] at hi' ⊢;have := hc i hi;rw [Array.getElem?_eq_getElem hi', List.getElem?_eq_getElem hi, Option.some.injEq] at this;rw [this];exact z1F (List.all_eq_true.1 hp _ (List.getElem_mem hi))
  ·simp only [Heap.put, e, if_false] at ho'
   exact (h.obj id o' ho').mono hst (by simp [Corr.put, e]) (by simp [Corr.put, e]) rfl
 ·intro id o' ho' hh
  rw [hro' id o' ho'] at hh; cases hh
 ·intro i j oi oj hi _ _ hh
  rw [hro' i oi hi] at hh; cases hh
 ·have e : g ≠ nx := by have := h.base; omega
  simp only [Heap.put, e, if_false] at hog;simpa [Corr.put, e] using h.glob g og hg hog
theorem NumsAt.mono {H' : Heap} {k : IntKind} {v : Value} {xs : List Int} (hh : ∀ id o, H id = some o → H' id = some o) (h : NumsAt H k v xs) : NumsAt H' k v xs := by
 rcases h with h | ⟨a, c, rfl, h⟩
 ·exact .inl h
 ·refine .inr ⟨a, c, rfl, fun i hi => ?_⟩
  have h1 := h i hi;obtain ⟨o, ho⟩ := z62 h1;unfold zb z0L at *;rw [hh _ _ ho];rw [ho] at h1;exact h1
theorem Arg.at_mono {H' : Heap} (hh : ∀ id o, H id = some o → H' id = some o) : ∀ {a : Arg} {v : Value}, a.at H v → a.at H' v := by
 intro a v h;cases a with
 | plain u => exact h
 | ints k xs =>
  refine ⟨h.1.mono hh, ?_⟩;rcases h.2 with h | ⟨k, n, c, cs, h1, h2, h3⟩
  ·exact .inl h
  ·exact .inr ⟨k, n, c, cs, h1, hh _ _ h2, h3⟩
theorem All2.at_mono {H' : Heap} (hh : ∀ id o, H id = some o → H' id = some o) : ∀ {aas : List Arg} {vs : List Value}, All2 (Arg.at H) aas vs → All2 (Arg.at H') aas vs := by
 intro aas
 induction aas with
 | nil => intro vs h; cases vs <;> first | trivial | exact h.elim
 | cons a aas ih =>
  intro vs h;cases vs with
  | nil => exact h.elim
  | cons v vs => exact ⟨Arg.at_mono hh h.1, ih h.2⟩
theorem zhY {T : z71} (W : World) (hT : Tabs T W) : ∀ (aas : List Arg) (vs : List Value), All2 (z5H W) aas vs → ∃ nx H C us, Rel W C nx H W ∧ VRs nx H C us vs ∧ All2 (Arg.at H) aas us ∧ (∀ id o, H id = some o → o.ro = true) ∧ (∀ k, C.pin k = none) ∧ ∀ g o, (z2s T).get g = some o → H g = some o := by
 intro aas
 induction aas with
 | nil =>
  intro vs h;cases vs with
  | nil => exact ⟨NG, (z2s T).get, z3j W, [], z7L hT (BelD.refl _ _), VRs.nil, trivial, fun _ _ h => (by obtain ⟨c, _, rfl⟩ := z1T h; rfl), fun _ => rfl, fun _ _ h => h⟩
  | cons => exact h.elim
 | cons a aas ih =>
  intro vs h;cases vs with
  | nil => exact h.elim
  | cons v vs =>
   obtain ⟨nx, H, C, us, hR, hV, hA, hro, hpn, htb⟩ := ih vs h.2;have hlt := fun id o (ho : H id = some o) => (hR.lt id o ho).1;have h1 := h.1;cases a with
   | plain u =>
    obtain ⟨rfl, hp⟩ := h1;exact ⟨nx, H, C, v :: us, hR, VRs.cons (z1F hp) hV, ⟨rfl, hA⟩, hro, hpn, htb⟩
   | ints k xs =>
    rcases h1 with ⟨rfl, rfl⟩ | ⟨b, off, len, cap, zs, Cc, el, fr, rfl, hlc, hz, rfl, hw, hle, hc⟩
    ·exact ⟨nx, H, C, .slice none 0 0 :: us, hR, VRs.cons (.nils _ _) hV, ⟨⟨.inl ⟨0, rfl, rfl⟩, .inl rfl⟩, hA⟩, hro, hpn, htb⟩
    ·obtain ⟨hR', hS⟩ := hR.read hpn hro (c := zs.map (.int k ·)) hw (by simpa [hz] using hle) (by simp [zk]) (fun i hi => by
      simp only [List.length_map, hz] at hi;rw [hc i hi, List.getElem?_map, List.getElem?_eq_getElem (by omega)];simp [List.getD_eq_getElem?_getD, List.getElem?_eq_getElem (show i < zs.length by omega)])
     have hext : ∀ id o, H id = some o → (H.put nx (.cells (zs.map (.int k ·)) 1 none true none)) id = some o := fun id o ho => by
      have : id ≠ nx := by have := hlt id o ho; omega
      simp only [Heap.put, this, if_false]; exact ho
     refine ⟨nx + 1, _, _, .slice (some ⟨nx, 0, none⟩) len cap :: us, hR', VRs.cons ?_ (hV.mono hS), ⟨⟨.inr ⟨⟨nx, 0, none⟩, cap, by simp [hz]; omega, ?_⟩, .inr ⟨nx, len, cap, zs.map (.int k ·), rfl, by simp [Heap.put], by simpa using hz, hlc⟩⟩, hA.at_mono hext⟩, ?_, hpn, fun g o hg => hext g o (htb g o hg)⟩
     ·exact .slc _ _ _ _ _ ⟨by simp, by simp⟩ (fun o ho _ => ⟨by simp [Corr.at, Corr.put], by simp [z2D]⟩)
     ·intro i hi
      simp only [List.length_take, hz] at hi;have hi' : i < zs.length := by omega
      simp [zb, z0L, Heap.put, hi', List.getElem_take];refine ⟨by omega, ?_⟩;rw [← List.map_drop, ← List.map_take, List.take_one, List.head?_drop, List.getElem?_eq_getElem hi'];rfl
     ·intro id o ho
      by_cases e : id = nx
      ·simp only [Heap.put, e, if_true, Option.some.injEq] at ho; subst ho; rfl
      ·simp only [Heap.put, e, if_false] at ho; exact hro id o ho
theorem zbz {T : z71} {f : FuncId} {ars : List Arg} {vs : List Value} {W : World} (hT : Tabs T W) (hc : All2 (z5H W) ars vs)
  (h : ∀ nx H us, All2 (Arg.at H) ars us → (∀ id o, H id = some o → id < nx) → (∀ g o, (z2s T).get g = some o → H g = some o) → ACalls P W f us nx H fun v _ _ => v = .bool true) :
  Calls P f vs.toArray W fun e w' => e = .returned (.bool true) ∧ BelD W.heap.size W w' := by
 obtain ⟨nx, H, C, us, hR, hV, hA, _, _, htb⟩ := zhY W hT ars vs hc;refine (h nx H us hA (fun id o ho => (hR.lt id o ho).1) htb C W vs hR hV).mono ?_;rintro e w' ⟨v, v', C', nx', H', rfl, rfl, hR', hv, _⟩;cases hv;exact ⟨rfl, hR'.below⟩
theorem zda {f : FuncId} {ars : List Arg} {vs : List Value} {W : World} (hc : All2 (z5H W) ars vs) (h : ∀ nx H us, All2 (Arg.at H) ars us → (∀ id o, H id = some o → id < nx) → ACalls P W f us nx H fun v _ _ => v = .bool true) :
  Calls P f vs.toArray W fun e w' => e = .returned (.bool true) ∧ BelD W.heap.size W w' :=
 zbz Tabs.nil hc fun nx H us h1 h2 _ => h nx H us h1 h2
theorem zdY {fits : TypeId → Bool} : ∀ (d : Nat) (e : TypeId) (count off n : Nat), rowAt P fits d e count off n = true → P.cellsOf e ≠ 0 ∧ off ≤ count * P.cellsOf e := by
 intro d;cases d with
 | zero => intro e count off n h; cases h
 | succ d =>
  intro e count off n h;simp only [rowAt] at h;split at h
  ·cases h
  ·rename_i hs
   refine ⟨hs, ?_⟩;have hd := Nat.div_add_mod off (P.cellsOf e);simp only [Bool.or_eq_true, Bool.and_eq_true, beq_iff_eq, decide_eq_true_eq] at h;rcases h with ⟨⟨h1, h2⟩, _⟩ | ⟨h1, _⟩
   ·have := Nat.mul_le_mul_right (P.cellsOf e) (show off / P.cellsOf e ≤ count by omega)
    rw [h1, Nat.mul_comm] at hd;omega
   ·have := Nat.mul_le_mul_right (P.cellsOf e) (show off / P.cellsOf e + 1 ≤ count by omega)
    have hm := Nat.mod_lt off (Nat.pos_of_ne_zero hs);rw [Nat.add_mul, Nat.mul_comm (off / _)] at this;omega
theorem zd9 : ∀ (d : Nat) (e : TypeId) (count off : Nat) (u : TypeId) (n : Nat), liesAt P d e count off u n = true → off ≤ count * P.cellsOf e := by
 intro d
 induction d with
 | zero => intro e count off u n h; cases h
 | succ d ih =>
  intro e count off u n h;simp only [liesAt, Bool.or_eq_true] at h;rcases h with h | h
  ·exact (zdY _ _ _ _ _ h).2
  ·split at h
   ·exact ih _ _ _ _ _ h
   ·cases h
variable {E : Type} {enc : TypeId × Value → E} {W : World}
theorem z8R {t e : TypeId} {k : IntKind} {r : Reach} {b0 : Nat} {v : Value} {d : DataW E} {ps : List MemPlace} (ht : P.underlying t = some (.slice e)) (he : P.underlying e = some (.int k)) (hc : P.cellsOf e = 1)
  (hval : Value.okWide P W r b0 t v) (h : DataW.Trod enc P W 0 (fun _ => true) true t v d ps) : ∃ xs, z5H W (.ints k xs) v ∧ ∀ x ∈ xs, (Lit.int k x).wf = true := by
 obtain ⟨a0, len0, cap0, rfl⟩ := okWide_slice ht hval;obtain ⟨fuel, hf⟩ := h;simp only [Value.okWide, ht, Cell.okWide] at hval;rcases open_ints ht he hc hf with ⟨h1, _⟩ | ⟨a, len, cap, zs, h1, _, hle, hmax, hz, hx, hcell, hwf⟩
 ·simp [Value.cells] at h1
  obtain ⟨rfl, rfl, rfl⟩ := h1;exact ⟨[], .inl ⟨rfl, rfl⟩, fun x hx => by cases hx⟩
 ·simp [Value.cells] at h1
  obtain ⟨rfl, rfl, rfl⟩ := h1;simp only [if_true] at hz
  have hok : len0 ≤ cap0 ∧ (cap0 : Int) ≤ IntKind.i64.max ∧ W.has P r b0 a e cap0 := by
   simpa [Cell.ok, ht] using hval
  obtain ⟨_, _, _, hsp, row, cells, hsh, hlies⟩ := hok;obtain ⟨b, off, sp⟩ := a;simp only at hsp;subst hsp;simp only [World.shape?] at hsh;split at hsh
  case h_2 => cases hsh
  rename_i Cc el fr hw;simp only [Option.some.injEq, Prod.mk.injEq] at hsh;obtain ⟨rfl, rfl⟩ := hsh
  have hoff : off ≤ Cc.size := by
   have h1 := zd9 _ _ _ _ _ _ hlies;have h2 := Nat.div_mul_le_self Cc.size (P.cellsOf el);exact Nat.le_trans h1 h2
  have hcells : ∀ i, i < cap0 → Cc[off + i]? = some (.int k (zs.getD i 0)) := fun i hi => by
   have := hcell i (by omega);simpa [z0X, World.cell?, hw] using this
  have hle2 : off + cap0 ≤ Cc.size := by
   rcases Nat.eq_zero_or_pos cap0 with h0 | h0
   ·omega
   ·have := hcells (cap0 - 1) (by omega)
    have := (Array.getElem?_eq_some_iff.1 this).1;omega
  exact ⟨zs.take len0, .inr ⟨b, off, len0, cap0, zs, Cc, el, fr, rfl, hle, hz, rfl, hw, hle2, hcells⟩, fun x hx => hwf x (List.mem_of_mem_take hx)⟩
end
end Go.Am
namespace Go.Am
open Go.RowKit
theorem zg {nx : Nat} {H : Heap} {o : AObj} : Ext nx H (nx + 1) (H.put nx o) := (Ext.refl.up (Nat.le_succ _)).put (Nat.le_refl _)
theorem zB {H : Heap} {nx : Nat} {o : AObj} (hok : ∀ id o, H id = some o → id < nx) : ∀ id o', (H.put nx o) id = some o' → id < nx + 1 := fun id o' h => by
 by_cases hi : id = nx
 ·omega
 ·rw [z5 hi] at h
  have := hok id o' h;omega
def RowsAt {α : Type} (enc : α → List Value) (sz : Nat) (H : Heap) (v : Value) (l : List α) : Prop :=
 (∃ c, v = .slice none 0 c ∧ l = []) ∨ ∃ a c, v = .slice (some a) l.length c ∧ ∀ (i : Nat) (h : i < l.length), z0L H ⟨a.block, a.off + i * sz, a.spot⟩ sz = some (enc l[i])
section
variable {α : Type} {enc : α → List Value} {sz : Nat} {H H' : Heap} {nx nx' : Nat} {v : Value} {l : List α}
theorem RowsAt.ext (h : Ext nx H nx' H') (hok : ∀ id o, H id = some o → id < nx) (hr : RowsAt enc sz H v l) : RowsAt enc sz H' v l := by
 rcases hr with h1 | ⟨a, c, rfl, hs⟩
 ·exact .inl h1
 ·exact .inr ⟨a, c, rfl, fun i hi => z0W h hok (hs i hi)⟩
theorem RowsAt.slice (h : RowsAt enc sz H v l) : ∃ a c, v = .slice a l.length c := by
 rcases h with ⟨c, rfl, rfl⟩ | ⟨a, c, rfl, _⟩
 ·exact ⟨none, c, rfl⟩
 ·exact ⟨some a, c, rfl⟩
theorem z7A (hk : ∀ x, (enc x).length = sz) (h0 : 0 < sz) (h : RowsAt enc sz H v l) : z2T H sz v none = some (l.length, l.flatMap enc) := by
 rcases h with ⟨c, rfl, rfl⟩ | ⟨a, c, rfl, hs⟩
 ·rfl
 ·by_cases hl : l.length = 0
  ·have : l = [] := List.eq_nil_of_length_eq_zero hl
   subst this;show (if 0 * sz = 0 then some (0, []) else _) = _;rw [if_pos (by omega)];rfl
  ·have key : ∀ m (hm : m ≤ l.length), z0L H a (m * sz) = some ((l.take m).flatMap enc) := by
    intro m
    induction m with
    | zero =>
     intro _;have h1 := hs 0 (by omega);unfold z0L at h1 ⊢;split at h1
     ·rename_i c' e t r q ho
      simp only [ho];split at h1
      ·rename_i hc
       simp only [Nat.zero_mul, Nat.add_zero] at hc ⊢;rw [if_pos ⟨hc.1, by omega⟩];rfl
      ·cases h1
     all_goals cases h1
    | succ m ih =>
     intro hm;have h1 := hs m (by omega);have h2 := ih (by omega);unfold z0L at h1 h2 ⊢;split at h1
     ·rename_i c' e t r q ho
      simp only [ho] at h2 ⊢;split at h1
      ·rename_i hc
       split at h2
       ·rw [if_pos ⟨hc.1, by have := hc.2; simp only at this; rw [Nat.add_mul]; omega⟩]
        simp only [Option.some.injEq] at h1 h2 ⊢;rw [Nat.add_mul, Nat.one_mul, List.take_add, h2, List.drop_drop, h1, List.take_add_one (l := l) (i := m), List.getElem?_eq_getElem (by omega : m < l.length)];show _ = (l.take m ++ [l[m]]).flatMap enc;rw [List.flatMap_append];simp
       ·cases h2
      ·cases h1
     all_goals cases h1
   show (if l.length * sz = 0 then some (l.length, []) else (z0L H a (l.length * sz)).map (l.length, ·)) = _;have : l.length * sz ≠ 0 := Nat.mul_ne_zero hl (by omega);rw [if_neg this, key l.length (Nat.le_refl _), List.take_length];rfl
theorem z03 (hk : ∀ x, (enc x).length = sz) (l : List α) : (l.flatMap enc).length = l.length * sz := by
 induction l with
 | nil => simp
 | cons x l ih => simp only [List.flatMap_cons, List.length_append, hk, ih, List.length_cons, Nat.add_mul]; omega
theorem z5T (hk : ∀ x, (enc x).length = sz) : ∀ (l : List α) (i : Nat) (h : i < l.length), ((l.flatMap enc).drop (i * sz)).take sz = enc l[i] := by
 intro l
 induction l with
 | nil => intro i h; simp at h
 | cons x l ih =>
  intro i h;cases i with
  | zero => simp [← hk x]
  | succ i =>
   rw [List.flatMap_cons, Nat.add_mul, Nat.one_mul, Nat.add_comm, ← List.drop_drop, List.drop_append_of_le_length (by rw [hk]; exact Nat.le_refl _)];rw [show (enc x).drop sz = [] by rw [List.drop_eq_nil_of_le]; rw [hk]; exact Nat.le_refl _];simpa using ih i (by simpa using h)
def OwnOf (enc : α → List Value) (sz : Nat) (el : TypeId) (H : Heap) (ob : Option (Nat × Nat)) (v : Value) (l : List α) : Prop := OwnRow H ob el sz v (l.flatMap enc) l.length
theorem OwnOf.at (hk : ∀ x, (enc x).length = sz) {el : TypeId} {ob : Option (Nat × Nat)} (h : OwnOf enc sz el H ob v l) : RowsAt enc sz H v l := by
 cases ob with
 | none =>
  obtain ⟨rfl, _, h2⟩ := h;exact .inl ⟨0, rfl, List.eq_nil_of_length_eq_zero h2⟩
 | some bt =>
  obtain ⟨b, t⟩ := bt;obtain ⟨rfl, _, rest, ho⟩ := h;refine .inr ⟨⟨b, 0, some t⟩, l.length, rfl, fun i hi => ?_⟩;have hfl := z03 hk l;have : (i + 1) * sz ≤ l.length * sz := Nat.mul_le_mul_right sz hi;rw [Nat.add_mul, Nat.one_mul] at this;unfold z0L;simp only [ho, Nat.zero_add];rw [if_pos ⟨trivial, by rw [List.length_append, hfl]; omega⟩, List.drop_append_of_le_length (by rw [hfl]; omega), List.take_append_of_le_length (by rw [List.length_drop, hfl]; omega), z5T hk l i hi]
theorem OwnOf.ext {el : TypeId} {ob : Option (Nat × Nat)} (hx : Ext nx H nx' H') (hlt : ∀ b t, ob = some (b, t) → b < nx) (h : OwnOf enc sz el H ob v l) : OwnOf enc sz el H' ob v l := OwnRow.ext hx hlt h
end
structure AppO {α : Type} (enc : α → List Value) (sz : Nat) (el : TypeId) (nx : Nat) (H : Heap) (ob : Option (Nat × Nat)) (l : List α) (v' : Value) (nx' : Nat) (H' : Heap) (ob' : Option (Nat × Nat)) : Prop where
 own : OwnOf enc sz el H' ob' v' l
 blk : ∀ b' t', ob' = some (b', t') → b' < nx' ∧ (b' = nx ∨ ∃ t, ob = some (b', t))
 le : nx ≤ nx'
 same : ∀ i, i < nx → (∀ b t, ob = some (b, t) → i ≠ b) → H' i = H i
 ok : (∀ b t, ob = some (b, t) → b < nx) → (∀ id o, H id = some o → id < nx) → ∀ id o, H' id = some o → id < nx'
section
variable {P : Program} {W0 : World} {H : Heap} {nx n : Nat} {ev : Operand → Option Value} {dst : Option Tmp} {type : TypeId} {pos : String} {after : Array Edge} {guard : Option (Nat × Bool)} {ops : Array Oper} {l : List Oper} {tm : Nat → Value} {QQ : ASt → Prop} {d : Tmp}
theorem z2F {t e : TypeId} {x : Operand} {k c : Nat} (hx : ev x = some (.slice none k c)) (hu : P.underlying t = some (.slice e)) : aop P H nx ev ⟨dst, .call ⟨.builtin .cap, #[x], #[t]⟩, type, pos, after, guard⟩ = some (.int .i64 c, .none) := by
 simp [aop, z0q, hx, z0s, zhM, hu]
theorem z3p {st xt el : TypeId} {kd : IntKind} {k size bytes : Nat} {z : List Value} {x y : Operand} (hx : ev x = some (.slice none 0 0)) (hy : ev y = some (.int .i64 k)) (hst : P.underlying st = some (.slice el)) (hxt : P.underlying xt = some (.int kd)) (hs : z1r P el = some size) (hb : z0n P el = some bytes) (hz : z0M P el = some z) (hzl : z.length = size) (hk : 0 < k) (hle : k ≤ 1099511627776) (hle2 : (2 * k + 192) * bytes ≤ 281474976710656) :
  aop P H nx ev ⟨dst, .call ⟨.builtin .append, #[x, y], #[st, xt]⟩, type, pos, after, guard⟩ = some (.slice (some ⟨nx, 0, some nx⟩) k k, .new (.cells (z0b z k) size (some nx) false (some el))) := by
 have h0 : ¬ ((k : Int) = 0) := by omega
 have h1 : (k : Int) ≤ 1099511627776 := by omega
 have hn : z2U (.int kd) = false := rfl;simp [aop, z0q, hx, hy, z0s, z2t, z5G, hst, hxt, hs, hb, hz, hzl, hn, h1, hle2, show k ≠ 0 by omega]
theorem zR {α : Type} {enc : α → List Value} {sz bytes : Nat} {z : List Value} {el st xt : TypeId} {ob : Option (Nat × Nat)} {v u : Value} {zs us : List α} {x y : Operand} (hk : ∀ x, (enc x).length = sz) (h1 : ∀ x, (enc x).all (·.oneCell') = true) (h0 : 0 < sz) (hd : d < n) (h : OwnOf enc sz el H ob v zs) (hu : RowsAt enc sz H u us) (hx : ASt.ev ⟨tm, n, H, nx⟩ x = some v) (hy : ASt.ev ⟨tm, n, H, nx⟩ y = some u) (hb : ∀ b t, ob = some (b, t) → b < nx)
  (hst : P.underlying st = some (.slice el)) (hxt : P.underlying xt = some (.slice el)) (hsz : z1r P el = some sz) (hby : z0n P el = some bytes) (hz : z0M P el = some z) (hzl : z.length = sz) (hle : zs.length + us.length ≤ 1000000) (hbl : bytes ≤ 1000)
  (hc : ∀ v' nx' H' ob', AppO enc sz el nx H ob (zs ++ us) v' nx' H' ob' → OpsL P W0 ops l ⟨z9 tm (some d) v', n, H', nx'⟩ QQ) :
  OpsL P W0 ops (⟨some d, .call ⟨.builtin .append, #[x, y], #[st, xt]⟩, type, pos, after, none⟩ :: l) ⟨tm, n, H, nx⟩ QQ := by
 have hsrc := z7A hk h0 hu
 have hall : ∀ l : List α, (l.flatMap enc).all (·.oneCell') = true := fun l => by
  rw [List.all_eq_true];intro v hv;obtain ⟨x, _, hx⟩ := List.mem_flatMap.1 hv;exact List.all_eq_true.1 (h1 x) v hx
 have hm1 : (2 * (zs.length + us.length) + 192) * bytes ≤ 281474976710656 := by
  have : (2 * (zs.length + us.length) + 192) * bytes ≤ (2 * (zs.length + us.length) + 192) * 1000 := Nat.mul_le_mul_left _ hbl;omega
 by_cases hl0 : us.length = 0
 ·have : us = [] := List.eq_nil_of_length_eq_zero hl0
  subst this
  have hop : aop P H nx (ASt.ev ⟨tm, n, H, nx⟩) ⟨some d, .call ⟨.builtin .append, #[x, y], #[st, xt]⟩, type, pos, after, none⟩ = some (v, .none) := by
   cases ob with
   | none =>
    obtain ⟨rfl, _, hz0⟩ := h;simp [aop, hx, hy, z0q, z0s, z2t, hst, hxt, hsz, hby, hz, hzl, hsrc, show z2U (.slice el) = true from rfl]
   | some bt =>
    obtain ⟨b, t⟩ := bt;obtain ⟨rfl, hc', rest, ho⟩ := h;simp [aop, hx, hy, z0q, z0s, z2t, hst, hxt, hsz, hby, hz, hzl, hsrc, ho, show z2U (.slice el) = true from rfl]
  refine z20 hd hop (hc v nx H ob ⟨by rw [List.append_nil]; exact h, fun b' t' e => ⟨hb b' t' e, .inr ⟨t', e⟩⟩, Nat.le_refl _, fun _ _ _ => rfl, fun _ h => h⟩)
 ·refine OpsL.append (sz := sz) (bytes := bytes) (k := zs.length) (m := us.length) (cs := zs.flatMap enc) (xs := us.flatMap enc) (ob := ob) (u := u) (xd := .slice el) (v := v) (el := el) (z := z) hd hx hy h hsrc (hall us) hl0 hst hxt rfl hsz hby hz hzl (by omega) hm1 ?_
  refine hc _ _ _ (some (z4A nx ob, nx)) ⟨?_, ?_, Nat.le_succ _, ?_, ?_⟩
  ·refine ⟨by rw [List.length_append], ?_, [], ?_⟩
   ·rw [z03 hk]
   ·rw [z6, List.flatMap_append, List.append_nil]
  ·intro b' t' e
   cases e;cases ob with
   | none => exact ⟨Nat.lt_succ_self _, .inl rfl⟩
   | some bt => exact ⟨Nat.lt_succ_of_lt (hb bt.1 bt.2 rfl), .inr ⟨bt.2, rfl⟩⟩
  ·intro i hi hib
   refine z5 ?_;cases ob with
   | none => simp only [z4A]; omega
   | some bt => exact hib bt.1 bt.2 rfl
  ·intro hb' hok id o ho
   by_cases e : id = z4A nx ob
   ·subst e
    cases ob with
    | none => exact Nat.lt_succ_self _
    | some bt => exact Nat.lt_succ_of_lt (hb' bt.1 bt.2 rfl)
   ·rw [z5 e] at ho
    exact Nat.lt_succ_of_lt (hok id o ho)
end
end Go.Am
namespace Go.Proofs.YteplpegfcpmflaaGreat
open Go.Am Go.RowKit
theorem zcD (a n : Int) (h0 : 0 < n) (h : a.tmod n < 0) : a.tmod n + n = a % n := by
 have e : a % n = _ := @Int.emod_eq_tmod a n;have h3 := Int.emod_nonneg a (by omega : n ≠ 0);split at e <;> omega
theorem zcE (a n : Int) (h0 : 0 < n) (h : ¬ a.tmod n < 0) : a.tmod n = a % n := by
 have h1 := Int.tmod_lt_of_pos a h0;have hd := Int.mul_tdiv_add_tmod a n;have : a % n = (n * a.tdiv n + a.tmod n) % n := by rw [hd]
 rw [this, Int.mul_add_emod_self_left, Int.emod_eq_of_lt (by omega) h1]
theorem z8W (a n : Int) (h0 : 0 < n) (h1 : n ≤ 4611686018427387904) (w : World) : Calls Tryz.prog 23 #[.int .i64 a, .int .i64 n] w fun e w' => e = .returned (.int .i64 (a % n)) ∧ BelD w.heap.size w w' := by
 have g1 := Int.tmod_lt_of_pos a h0;have g2 := Int.lt_tmod_of_pos a h0;have hn : (n == 0) = false := by rw [beq_eq_false_iff_ne]; omega
 by_cases hk : a.tmod n < 0
 ·have e := zcD a n h0 hk
  have E := Lib.hid e;clear e
  go_enter Tryz.func23, Tryz.ntmps23
  go_wp2
  go_ret
  exact ⟨by rw [← E.out]; rfl, BelD.refl _ _⟩
 ·have e := zcE a n h0 hk
  have E := Lib.hid e;clear e
  go_enter Tryz.func23, Tryz.ntmps23
  go_wp2
  go_ret
  exact ⟨by rw [← E.out]; rfl, BelD.refl _ _⟩
theorem z2I : Am.z0F Tryz.prog 23 := ⟨Tryz.f23, Tryz.func23, by kernel_rfl, by kernel_rfl⟩
theorem z9Q (W0 : World) (a n k : Int) (h0 : 0 < n) (h1 : n ≤ 4611686018427387904) (hk : a % n = k) : zaI Tryz.prog W0 (23, [.int .i64 a, .int .i64 n], .int .i64 k) := by
 subst hk;exact z3r z2I rfl rfl (fun w => z8W a n h0 h1 w)
theorem z7N (a n : Int) (h0 : 0 < n) (h1 : n ≤ 4611686018427387904) (w : World) : Calls Tryz.prog 22 #[.int .i64 a, .int .i64 n] w fun e w' => e = .returned (.int .i64 (a % n)) ∧ BelD w.heap.size w w' := by
 have g1 := Int.tmod_lt_of_pos a h0;have g2 := Int.lt_tmod_of_pos a h0;have hn : (n == 0) = false := by rw [beq_eq_false_iff_ne]; omega
 by_cases hk : a.tmod n < 0
 ·have e := zcD a n h0 hk
  have E := Lib.hid e;clear e
  go_enter Tryz.func22, Tryz.ntmps22
  go_wp2
  go_ret
  exact ⟨by rw [← E.out]; rfl, BelD.refl _ _⟩
 ·have e := zcE a n h0 hk
  have E := Lib.hid e;clear e
  go_enter Tryz.func22, Tryz.ntmps22
  go_wp2
  go_ret
  exact ⟨by rw [← E.out]; rfl, BelD.refl _ _⟩
theorem z1h : Am.z0F Tryz.prog 22 := ⟨Tryz.f22, Tryz.func22, by kernel_rfl, by kernel_rfl⟩
theorem z8X (W0 : World) (a n k : Int) (h0 : 0 < n) (h1 : n ≤ 4611686018427387904) (hk : a % n = k) : zaI Tryz.prog W0 (22, [.int .i64 a, .int .i64 n], .int .i64 k) := by
 subst hk;exact z3r z1h rfl rfl (fun w => z7N a n h0 h1 w)
end Go.Proofs.YteplpegfcpmflaaGreat
namespace Go.Proofs.YteplpegfcpmflaaGreat
open Go.Am Go.RowKit
attribute [local irreducible] aop OpsL Trip zC z36
theorem z5Q (W0 : World) {nx : Nat} {H : Heap} (a m : Int) (h0 : 0 < m) (h1 : m ≤ 4611686018427387904) : ACalls Tryz.prog W0 22 [.int .i64 a, .int .i64 m] nx H fun v nx' H' => v = .int .i64 (a % m) ∧ nx' = nx ∧ H' = H :=
 (z8X W0 a m _ h0 h1 rfl).2 nx H
def SymsAt (H : Heap) (v : Value) (ss : List (ByteArray × Int)) : Prop :=
 ∃ a c, v = .slice (some a) ss.length c ∧ ∀ (i : Nat) (h : i < ss.length), z0L H ⟨a.block, a.off + i * 2, a.spot⟩ 2 = some [.string ss[i].1, .int .i64 ss[i].2]
theorem SymsAt.ext {nx nx' : Nat} {H H' : Heap} {v : Value} {ss : List (ByteArray × Int)} (h : Ext nx H nx' H') (hok : ∀ id o, H id = some o → id < nx) (hs : SymsAt H v ss) : SymsAt H' v ss := by
 obtain ⟨a, c, rfl, hs⟩ := hs;exact ⟨a, c, rfl, fun i q => z0W h hok (hs i q)⟩
def z4u (k : Nat) (ns : List Int) (most : Nat) : List Int := (ns.take most).map fun x => x % (k : Int)
theorem zhV (W0 : World) {nx : Nat} {H : Heap} {lv nv : Value} {ss : List (ByteArray × Int)} {ns : List Int} {most : Nat} (hl : SymsAt H lv ss) (hs : 0 < ss.length) (hs2 : ss.length ≤ 1000) (hn : IntsAt H nv ns) (hm : most ≤ 1000000) :
  ACalls Tryz.prog W0 19 [lv, nv, .int .i64 most] nx H fun v nx' H' => (∃ ob, OwnInts H' ob 3 v (z4u ss.length ns most) ∧ ∀ b t, ob = some (b, t) → nx ≤ b ∧ b < nx') ∧ Ext nx H nx' H' := by
 obtain ⟨la, lc, rfl, hl⟩ := hl;obtain ⟨na, nc, rfl⟩ := hn.slice;refine ze (fn := Tryz.f19) (c := _) Tryz.func19 rfl (fun tm n hn0 htm => ?_);have e0 : tm 0 = .slice (some la) ss.length lc := htm 0;have e1 : tm 1 = .slice na ns.length nc := htm 1;have e2 : tm 2 = .int .i64 most := htm 2;clear htm;replace hn0 : n = 31 := hn0;refine Trip.ok fun hok => ?_;replace hok : ∀ id o, H id = some o → id < nx := hok;refine z6y ?_
 refine zu (fun (i : Nat) s => ∃ (tm : Nat → Value) (nx' : Nat) (H' : Heap) (ob : Option (Nat × Nat)) (v : Value), s = ⟨tm, n, H', nx'⟩ ∧ Ext nx H nx' H' ∧ OwnInts H' ob 3 v (z4u ss.length ns i) ∧ (∀ b t, ob = some (b, t) → nx ≤ b ∧ b < nx') ∧
   tm 0 = .slice (some la) ss.length lc ∧ tm 1 = .slice na ns.length nc ∧ tm 2 = .int .i64 most ∧ tm 7 = v ∧ tm 8 = .int .i64 i ∧ i ≤ ns.length ∧ i ≤ most) (fun i => ns.length - i) 0 ?_ ?_
 ·exact ⟨_, _, _, none, _, rfl, Ext.refl, ⟨rfl, rfl, rfl⟩, fun _ _ h => (by cases h), e0, e1, e2, rfl, rfl, by omega, by omega⟩
 ·rintro i s ⟨tm, nx', H', ob, v, rfl, hext, hown, hob, e0, e1, e2, e7, e8, hi, him⟩
  refine Trip.ok fun hok' => ?_;replace hok' : ∀ id o, H' id = some o → id < nx' := hok'
  repeat (first | (refine z7 (by first | exact omv | exact z6B | exact z1s | exact z2q) ?_) | refine Trip.seq ?_ | refine zd ?_ | refine Trip.block ?_ | refine z0t (fun _ => ?_) (fun _ => ?_) | (refine Trip.skip ?_; (change Trip _ _ _ _ _)) | (refine OpsL.nil ?_; (change Trip _ _ _ _ _)) | refine zj ?_ | refine z3e (fun _ => ?_) (fun _ => ?_))
  ·have hlt : i < ns.length := by omega
   obtain ⟨p, rfl, hc⟩ := hn.get hlt
   replace hc : zb H' ⟨p.block, p.off + (i : Int).toNat * 1, p.spot⟩ (.int .i64 ns[i]) := by
    have := z0W hext hok hc;simpa [zb] using this
   repeat (refine z7 (by first | exact omv | exact z1s | exact z4s | exact old) ?_)
   refine OpsL.c2 (hf := z1h) (hc := (z5Q W0 _ _ (by omega) (by omega))) (h := ?_);rintro v2 nx2 H2 ⟨rfl, rfl, rfl⟩;refine z1u (by subst_vars; decide) (by subst_vars; decide) evr (by decide) (by (simp only [z9, ↓reduceIte, reduceIte, Option.some.injEq, Nat.reduceEqDiff, *])) hown (fun b t hb => (hob b t hb).2) (by exact rfl) (by exact rfl) (by exact rfl) (by exact rfl) (by simp [z4u]; omega) ?_;rintro v' ob' H'' hown' ⟨b, rfl, hb⟩ hsame;refine zg7 ?_;refine ⟨i + 1, ⟨_, _, _, some (b, nx2 + 1), v', rfl, ?_, ?_, ?_, ?_, ?_, ?_, ?_, ?_, by omega, by omega⟩, by omega⟩
   ·exact ⟨by have := hext.1; omega, fun k hk => by rw [hsame k (by have := hext.1; omega) (fun b t hb => by have := (hob b t hb).1; omega), hext.2 k hk]⟩
   ·have : z4u ss.length ns (i + 1) = z4u ss.length ns i ++ [ns[i] % (ss.length : Int)] := by
     unfold z4u;rw [List.take_succ_eq_append_getElem hlt, List.map_append];rfl
    rw [this];exact hown'
   ·intro b' t' hb'
    cases hb';rcases hb with rfl | ⟨t, hb⟩
    ·exact ⟨by have := hext.1; omega, by omega⟩
    ·have := hob b t hb; exact ⟨by omega, by omega⟩
   ·simp [z9, *]
   ·simp [z9, *]
   ·simp [z9, *]
   ·simp [z9, *]
   ·simp [z9, *]
  ·repeat (first | (refine z7 (by first | exact omv | exact z0x) ?_) | refine Trip.seq ?_ | refine zd ?_ | (refine Trip.exit ?_; ((repeat (refine zM ?_)); change Trip _ _ _ _ _)) | (refine Trip.ret ?_; (dsimp only)) | (refine OpsL.nil ?_; (change Trip _ _ _ _ _)))
   have hi2 : i = most := by omega
   subst hi2;exact ⟨.inr rfl, _, zh, ⟨ob, by simpa [z9, e7] using hown, hob⟩, hext⟩
  ·repeat (first | refine z7 (by exact z27) ?_ | (refine OpsL.nil ?_; (change Trip _ _ _ _ _)) | refine zF ?_)
   refine zU ?_;refine z9w ?_
   have hi2 : z4u ss.length ns most = z4u ss.length ns i := by
    unfold z4u;rw [List.take_of_length_le (by omega), List.take_of_length_le (by omega)]
   refine ⟨.inr rfl, _, zh, ⟨ob, ?_, hob⟩, hext⟩;rw [hi2];simpa [z9, e7] using hown
def z2S : List (ByteArray × Int) := [(⟨#[97]⟩, 1), (⟨#[97]⟩, 2), (⟨#[98]⟩, 3), (⟨#[99]⟩, 1), (⟨#[99]⟩, 2), (⟨#[100]⟩, 3), (⟨#[120]⟩, 2)]
def z4x (n : Int) (ns : List Int) : List (ByteArray × Int) :=
 if n % 7 = 1 then [(⟨#[98]⟩, 3), (⟨#[97]⟩, 2), (⟨#[97]⟩, 1)]
 else match ns with
  | x :: _ => if n % 11 = 2 then (z2S.drop (x % 7).toNat).take 1 else z2S.take (3 + n % 5).toNat
  | [] => z2S.take (3 + n % 5).toNat
theorem z7g : ∀ s ∈ z2S, s.2 = 1 ∨ s.2 = 2 ∨ s.2 = 3 := by decide
theorem zbw (n : Int) (ns : List Int) : 0 < (z4x n ns).length ∧ (z4x n ns).length ≤ 7 ∧ ∀ s ∈ z4x n ns, s.2 = 1 ∨ s.2 = 2 ∨ s.2 = 3 := by
 have m5 := Int.emod_nonneg n (by omega : (5 : Int) ≠ 0);have m5' := Int.emod_lt_of_pos n (by omega : (0 : Int) < 5);have hb : z2S.length = 7 := rfl
 have htake : 0 < (z2S.take (3 + n % 5).toNat).length ∧ (z2S.take (3 + n % 5).toNat).length ≤ 7 ∧ ∀ s ∈ z2S.take (3 + n % 5).toNat, s.2 = 1 ∨ s.2 = 2 ∨ s.2 = 3 :=
  ⟨by rw [List.length_take]; omega, by rw [List.length_take]; omega, fun s hs => z7g s (List.mem_of_mem_take hs)⟩
 unfold z4x;split
 ·exact ⟨by simp, by simp, by simp⟩
 ·split
  ·rename_i x l
   have x7 := Int.emod_nonneg x (by omega : (7 : Int) ≠ 0);have x7' := Int.emod_lt_of_pos x (by omega : (0 : Int) < 7);split
   ·refine ⟨?_, ?_, fun s hs => z7g s (List.mem_of_mem_drop (List.mem_of_mem_take hs))⟩ <;> (rw [List.length_take, List.length_drop]; omega)
   ·exact htake
  ·exact htake
theorem zcW {k : Nat} {ns : List Int} {most : Nat} (hk : 0 < k) : ∀ x ∈ z4u k ns most, 0 ≤ x ∧ x < k := by
 intro x hx;unfold z4u at hx;rw [List.mem_map] at hx;obtain ⟨y, _, rfl⟩ := hx;exact ⟨Int.emod_nonneg _ (by omega), Int.emod_lt_of_pos _ (by omega)⟩
theorem z8V {k : Nat} {ns : List Int} {most : Nat} : (z4u k ns most).length ≤ most := by
 unfold z4u;rw [List.length_map, List.length_take];omega
theorem z7b : Am.z0F Tryz.prog 7 := ⟨Tryz.f7, Tryz.func7, by kernel_rfl, by kernel_rfl⟩
theorem zbN : Am.z0F Tryz.prog 19 := ⟨Tryz.f19, Tryz.func19, by kernel_rfl, by kernel_rfl⟩
def z7y : List Value := [.string ⟨#[97]⟩, .int .i64 1, .string ⟨#[97]⟩, .int .i64 2, .string ⟨#[98]⟩, .int .i64 3, .string ⟨#[99]⟩, .int .i64 1, .string ⟨#[99]⟩, .int .i64 2, .string ⟨#[100]⟩, .int .i64 3, .string ⟨#[120]⟩, .int .i64 2]
theorem zgJ (W0 : World) {nx : Nat} {H : Heap} {nv : Value} {m : Int} {ns : List Int} (hn : IntsAt H nv ns) :
  ACalls Tryz.prog W0 7 [.int .i64 m, nv] nx H fun v nx' H' => SymsAt H' v (z4x m ns) ∧ Ext nx H nx' H' := by
 obtain ⟨na, nc, rfl⟩ := hn.slice;refine ze (fn := Tryz.f7) (c := _) Tryz.func7 rfl (fun tm n hn0 htm => ?_);have e0 : tm 0 = .int .i64 m := htm 0;have e1 : tm 1 = .slice na ns.length nc := htm 1;clear htm;replace hn0 : n = 50 := hn0;refine Trip.ok fun hok => ?_;replace hok : ∀ id o, H id = some o → id < nx := hok;refine z9r ?_;refine z7 (zy (v := .agg #[.string ⟨#[97]⟩, .int .i64 1]) (by exact rfl) (by exact rfl)) ?_;refine z7 (zy (v := .agg #[.string ⟨#[97]⟩, .int .i64 2]) (by exact rfl) (by exact rfl)) ?_;refine z7 (zy (v := .agg #[.string ⟨#[98]⟩, .int .i64 3]) (by exact rfl) (by exact rfl)) ?_;refine z7 (zy (v := .agg #[.string ⟨#[99]⟩, .int .i64 1]) (by exact rfl) (by exact rfl)) ?_;refine z7 (zy (v := .agg #[.string ⟨#[99]⟩, .int .i64 2]) (by exact rfl) (by exact rfl)) ?_;refine z7 (zy (v := .agg #[.string ⟨#[100]⟩, .int .i64 3]) (by exact rfl) (by exact rfl)) ?_;refine z7 (zy (v := .agg #[.string ⟨#[120]⟩, .int .i64 2]) (by exact rfl) (by exact rfl)) ?_;refine OpsL.new (o := .cells z7y 2 none false (some 47)) (by subst_vars; decide) (zl (l := [(0, .agg #[.string ⟨#[97]⟩, .int .i64 1]), (1, .agg #[.string ⟨#[97]⟩, .int .i64 2]), (2, .agg #[.string ⟨#[98]⟩, .int .i64 3]), (3, .agg #[.string ⟨#[99]⟩, .int .i64 1]), (4, .agg #[.string ⟨#[99]⟩, .int .i64 2]), (5, .agg #[.string ⟨#[100]⟩, .int .i64 3]), (6, .agg #[.string ⟨#[120]⟩, .int .i64 2])]) (by simp only [zt, ASt.ev, z9, ↓reduceIte, reduceIte, Option.some.injEq, Nat.reduceEqDiff]) (by exact rfl)) ?_;refine z4Q ?_;refine OpsL.c2 (hf := z1h) (hc := (z5Q W0 _ _ (by omega) (by omega))) (h := ?_);rintro v nx1 H1 ⟨rfl, rfl, rfl⟩;have m5 := Int.emod_nonneg m (by omega : (5 : Int) ≠ 0);have m5' := Int.emod_lt_of_pos m (by omega : (0 : Int) < 5)
 repeat (first | (refine z7 (by first | exact omv | exact z0x | exact z6w) ?_) | refine Trip.seq ?_ | refine zd ?_ | (refine OpsL.nil ?_; (change Trip _ _ _ _ _)))
 refine OpsL.c2 (hf := z1h) (hc := (z5Q W0 _ _ (by omega) (by omega))) (h := ?_);rintro v nx1 H1 ⟨rfl, rfl, rfl⟩
 have hall : ∀ (i : Nat) (h : i < z2S.length) (k : Nat), k = i * 2 → z0L (H.put nx (.cells z7y 2 none false (some 47))) ⟨nx, k, none⟩ 2 = some [.string z2S[i].1, .int .i64 z2S[i].2] := by
  intro i h k hk;subst hk;have : i = 0 ∨ i = 1 ∨ i = 2 ∨ i = 3 ∨ i = 4 ∨ i = 5 ∨ i = 6 := by simp [z2S] at h; omega
  rcases this with rfl | rfl | rfl | rfl | rfl | rfl | rfl <;> (rw [z0j (by decide)]; rfl)
 repeat (first | refine z7 (by exact zeM) ?_ | refine Trip.seq ?_ | refine z0t (fun _ => ?_) (fun _ => ?_) | (refine OpsL.nil ?_; (change Trip _ _ _ _ _)))
 ·rename_i h7
  refine OpsL.drawn krf krf krf ?_
  repeat (refine z7 (by first | exact omv | exact z4s) ?_)
  refine z7 (za (k := 2) evr (by exact rfl) rfl (by exact rfl) (hall 2 (by decide) _ (by exact rfl))) ?_
  repeat (refine z7 (by first | exact omv | exact z4s) ?_)
  refine z7 (za (k := 2) evr (by exact rfl) rfl (by exact rfl) (hall 1 (by decide) _ (by exact rfl))) ?_
  repeat (refine z7 (by first | exact omv | exact z4s) ?_)
  refine z7 (za (k := 2) evr (by exact rfl) rfl (by exact rfl) (hall 0 (by decide) _ (by exact rfl))) ?_
  refine OpsL.new (o := .cells [.string ⟨#[98]⟩, .int .i64 3, .string ⟨#[97]⟩, .int .i64 2, .string ⟨#[97]⟩, .int .i64 1] 2 none false (some 47)) (by subst_vars; decide)
   (zl (l := [(0, .agg #[.string ⟨#[98]⟩, .int .i64 3]), (1, .agg #[.string ⟨#[97]⟩, .int .i64 2]), (2, .agg #[.string ⟨#[97]⟩, .int .i64 1])]) (by simp only [zt, ASt.ev, z9, ↓reduceIte, reduceIte, Option.some.injEq, Nat.reduceEqDiff]; rfl) (by exact rfl)) ?_
  refine zfg ?_;refine ⟨.inr rfl, _, zh, ?_, ⟨by show nx ≤ nx + 1 + 1; omega, fun i hi => by rw [z5 (by omega), z5 (by omega)]⟩⟩;have hsy : z4x m ns = [(⟨#[98]⟩, 3), (⟨#[97]⟩, 2), (⟨#[97]⟩, 1)] := by unfold z4x; rw [if_pos h7]
  rw [hsy];refine ⟨⟨nx + 1, 0, none⟩, 3, by simp [z9], fun i hi => ?_⟩;have : i = 0 ∨ i = 1 ∨ i = 2 := by simp at hi; omega
  rcases this with rfl | rfl | rfl <;> (rw [z0j (by show 0 + _ * 2 + 2 ≤ 6; decide)]; rfl)
 ·rename_i h7
  refine zci ?_;refine OpsL.c2 (hf := z1h) (hc := (z5Q W0 _ _ (by omega) (by omega))) (h := ?_);rintro v nx1 H1 ⟨rfl, rfl, rfl⟩
  repeat' (first | (refine z7 (by first | exact omv | exact zif | exact zeM | exact z1s | exact z2q | exact z27) ?_) | refine Trip.seq ?_ | refine zd ?_ | refine z0t (fun _ => ?_) (fun _ => ?_) | (refine Trip.skip ?_; (change Trip _ _ _ _ _)) | (refine OpsL.nil ?_; (change Trip _ _ _ _ _)) | refine zj ?_ | refine zF ?_ | refine z3e (fun _ => ?_) (fun _ => ?_))
  ·rename_i h11 hlen
   obtain ⟨x, ns, rfl⟩ : ∃ x l, ns = x :: l := by cases ns with | nil => simp at hlen | cons x l => exact ⟨x, l, rfl⟩
   obtain ⟨p, rfl, hc⟩ := hn.get (i := 0) (by simp)
   replace hc : zb (H.put nx (.cells z7y 2 none false (some 47))) ⟨p.block, p.off + (0 : Int).toNat * 1, p.spot⟩ (.int .i64 x) := by
    obtain ⟨o, ho⟩ := z62 hc;have := hok _ _ ho;unfold zb at *;rw [zed (by simp only at this ⊢; omega)];exact hc
   have x7 := Int.emod_nonneg x (by omega : (7 : Int) ≠ 0);have x7' := Int.emod_lt_of_pos x (by omega : (0 : Int) < 7)
   repeat (refine z7 (by first | exact z4s | exact old) ?_)
   refine OpsL.c2 (hf := z1h) (hc := (z5Q W0 _ _ (by omega) (by omega))) (h := ?_);rintro v nx1 H1 ⟨rfl, rfl, rfl⟩;refine z6E ?_;have h7l : (x % 7).toNat < z2S.length := by show _ < 7; omega
   refine z7 (za (k := 2) evr (by exact rfl) rfl (by exact rfl) (hall (x % 7).toNat h7l _ (by show 0 + _ * 2 = _; omega))) ?_
   refine OpsL.new (o := .cells [.string z2S[(x % 7).toNat].1, .int .i64 z2S[(x % 7).toNat].2] 2 none false (some 47)) (by subst_vars; decide)
    (zl (l := [(0, .agg [.string z2S[(x % 7).toNat].1, .int .i64 z2S[(x % 7).toNat].2].toArray)]) (by simp only [zt, ASt.ev, z9, ↓reduceIte, reduceIte, Option.some.injEq, Nat.reduceEqDiff]) (by exact rfl)) ?_
   refine zfg ?_;refine ⟨.inr rfl, _, zh, ?_, ⟨by show nx ≤ nx + 1 + 1; omega, fun i hi => by rw [z5 (by omega), z5 (by omega)]⟩⟩
   have hsy : z4x m (x :: ns) = [z2S[(x % 7).toNat]] := by
    unfold z4x;rw [if_neg h7];simp only [h11, if_true];rw [List.take_one, List.head?_drop, List.getElem?_eq_getElem h7l];rfl
   rw [hsy];refine ⟨⟨nx + 1, 0, none⟩, 1, by simp [z9], fun i hi => ?_⟩;have : i = 0 := by simp at hi; omega
   subst this;rw [z0j (by show 0 + 0 * 2 + 2 ≤ 2; omega)];rfl
  all_goals
   try refine zU ?_
   refine zci ?_
   refine z7 (zS (a := none) (b := some (.int .i64 (3 + m % 5))) (c := none) evr rfl (by simp only [z0G, ASt.ev, z9, ↓reduceIte, reduceIte, Option.some.injEq, Nat.reduceEqDiff, Option.map_some]) rfl
    (z5k (l := 0) (h := (3 + m % 5).toNat) (sz := 2) (by exact rfl) (by exact rfl) z6 rfl rfl (.inl ⟨rfl, rfl⟩) (.inr ⟨.i64, by congr 2; omega⟩) (by omega) (by omega))) ?_
   refine zfg ?_;refine ⟨.inr rfl, _, zh, ?_, ⟨by show nx ≤ nx + 1; omega, fun i hi => by rw [z5 (by omega)]⟩⟩
   have hsy : z4x m ns = z2S.take (3 + m % 5).toNat := by
    unfold z4x;rw [if_neg h7];cases ns with
    | nil => rfl
    | cons x l => simp_all
   have hlen : (z2S.take (3 + m % 5).toNat).length = (3 + m % 5).toNat := by
    rw [List.length_take]; show min _ 7 = _; omega
   rw [hsy];refine ⟨⟨nx, 0, none⟩, 7, by rw [hlen]; simp [z9], fun i hi => ?_⟩;rw [hlen] at hi;rw [List.getElem_take];exact hall i (by show i < 7; omega) _ (by show 0 + i * 2 = _; omega)
end Go.Proofs.YteplpegfcpmflaaGreat
namespace Go.Am
open Go.RowKit
section
variable {P : Program} {W0 : World} {ops : Array Oper} {H : Heap} {nx n : Nat} {type : TypeId} {pos : String} {after : Array Edge} {l : List Oper} {tm : Nat → Value} {QQ : ASt → Prop} {d : Tmp} {ts : Array TypeId} {f : FuncId} {R : Value → Nat → Heap → Prop}
theorem z0B {c x : Operand} {a : Value} {cap : Array Value} (hd : d < n) (hc : ASt.ev ⟨tm, n, H, nx⟩ c = some (.func (.func f) #[] cap)) (hx : ASt.ev ⟨tm, n, H, nx⟩ x = some a) (hf : z0F P f) (hcall : ACalls P W0 f (a :: cap.toList) nx H R) (h : ∀ v nx' H', R v nx' H' → OpsL P W0 ops l ⟨z9 tm (some d) v, n, H', nx'⟩ QQ) :
  OpsL P W0 ops (⟨some d, .call ⟨.value c, #[x], ts⟩, type, pos, after, none⟩ :: l) ⟨tm, n, H, nx⟩ QQ :=
 OpsL.call R (by simp [z1c, hd]) rfl (by simp [z0O, hc, z0q, hx]) hf hcall h
theorem z4q {c x y : Operand} {a b : Value} {cap : Array Value} (hd : d < n) (hc : ASt.ev ⟨tm, n, H, nx⟩ c = some (.func (.func f) #[] cap)) (hx : ASt.ev ⟨tm, n, H, nx⟩ x = some a) (hy : ASt.ev ⟨tm, n, H, nx⟩ y = some b) (hf : z0F P f) (hcall : ACalls P W0 f (a :: b :: cap.toList) nx H R) (h : ∀ v nx' H', R v nx' H' → OpsL P W0 ops l ⟨z9 tm (some d) v, n, H', nx'⟩ QQ) :
  OpsL P W0 ops (⟨some d, .call ⟨.value c, #[x, y], ts⟩, type, pos, after, none⟩ :: l) ⟨tm, n, H, nx⟩ QQ :=
 OpsL.call R (by simp [z1c, hd]) rfl (by simp [z0O, hc, z0q, hx, hy]) hf hcall h
theorem z26 {ev : Operand → Option Value} {dst : Option Tmp} {guard : Option (Nat × Bool)} {fn : Fn} {first cap : Array Operand} {a b : List Value} (h1 : z0q ev first.toList = some a) (h2 : z0q ev cap.toList = some b) :
  aop P H nx ev ⟨dst, .makeFunc fn first cap, type, pos, after, guard⟩ = some (.func fn a.toArray b.toArray, .none) := by simp [aop, h1, h2]
end
theorem z8 {H : Heap} {b e k : Nat} {cs : List Value} {tg : Option Nat} {ro : Bool} {q : Option TypeId} {v : Value} (hH : H b = some (.cells cs e tg ro q)) (h : cs[k]? = some v) : zb H ⟨b, k, tg⟩ v := by
 obtain ⟨hk, rfl⟩ := List.getElem?_eq_some_iff.1 h;exact z2n hH hk
theorem zx {H : Heap} {b e : Nat} {cs : List Value} {tg : Option Nat} {ro : Bool} {q : Option TypeId} {m : Nat} (hH : H b = some (.cells cs e tg ro q)) (h : cs.length = m) : z0L H ⟨b, 0, tg⟩ m = some cs := by
 unfold z0L;simp only [hH];rw [if_pos ⟨trivial, by omega⟩];simp [← h]
theorem zm {nx nx' : Nat} {H H' : Heap} {a : Addr} {v : Value} (h : Ext nx H nx' H') (hok : ∀ id o, H id = some o → id < nx) (hc : zb H a v) : zb H' a v := z0W h hok hc
theorem z01 {α : Type} {enc : α → List Value} {sz : Nat} {H : Heap} {a : Option Addr} {c : Nat} {l : List α} (h : RowsAt enc sz H (.slice a l.length c) l) {i : Nat} (hi : i < l.length) : ∃ p, a = some p ∧ z0L H ⟨p.block, p.off + (i : Int).toNat * sz, p.spot⟩ sz = some (enc l[i]) := by
 rcases h with ⟨c', h1, rfl⟩ | ⟨p, c', h1, hs⟩
 ·exact absurd hi (by simp)
 ·obtain ⟨rfl, _, _⟩ := Value.slice.inj h1
  exact ⟨p, rfl, by rw [Int.toNat_natCast]; exact hs i hi⟩
theorem z0k {H : Heap} {a : Option Addr} {c : Nat} {l : List Int} (h : IntsAt H (.slice a l.length c) l) {i : Nat} (hi : i < l.length) : ∃ p, a = some p ∧ zb H ⟨p.block, p.off + (i : Int).toNat * 1, p.spot⟩ (.int .i64 l[i]) := by
 obtain ⟨p, h1, h2⟩ := h.get hi;exact ⟨p, h1, by simpa using h2⟩
abbrev R4 := Int × Int × Int × Int
abbrev R3 := Int × Int × Int
def e4 (r : R4) : List Value := [.int .i64 r.1, .int .i64 r.2.1, .int .i64 r.2.2.1, .int .i64 r.2.2.2]
def e3 (r : R3) : List Value := [.int .i64 r.1, .int .i64 r.2.1, .int .i64 r.2.2]
structure Aut where
 N : Int
 G : Int
 init : List Int
 final : List Int
 opens : List R4
 closes : List R4
 inners : List R3
def zA (a : Aut) (vi vf vo vc vn : Value) : List Value := [.int .i64 a.N, .int .i64 a.G, vi, vf, vo, vc, vn]
structure AutIn (H : Heap) (a : Aut) (vi vf vo vc vn : Value) : Prop where
 init : IntsAt H vi a.init
 final : IntsAt H vf a.final
 opens : RowsAt e4 4 H vo a.opens
 closes : RowsAt e4 4 H vc a.closes
 inners : RowsAt e3 3 H vn a.inners
theorem AutIn.ext {nx nx' : Nat} {H H' : Heap} {a : Aut} {vi vf vo vc vn : Value} (h : Ext nx H nx' H') (hok : ∀ id o, H id = some o → id < nx) (ha : AutIn H a vi vf vo vc vn) : AutIn H' a vi vf vo vc vn :=
 ⟨ha.init.ext h hok, ha.final.ext h hok, ha.opens.ext h hok, ha.closes.ext h hok, ha.inners.ext h hok⟩
structure AutLen (a : Aut) : Prop where
 init : a.init.length ≤ 1000
 final : a.final.length ≤ 1000
 opens : a.opens.length ≤ 1000
 closes : a.closes.length ≤ 1000
 inners : a.inners.length ≤ 1000
def btF (n a b : Int) : Bool := decide (a ≤ n) && decide (n ≤ b)
def stF (N s : Int) : Bool := decide (0 ≤ s) && decide (s < N)
def kdF (ss : List (ByteArray × Int)) (s k : Int) : Bool := decide (0 ≤ s) && decide (s < ss.length) && (match ss[s.toNat]? with | some x => decide (x.2 = k) | none => false)
def okO (ss : List (ByteArray × Int)) (a : Aut) (r : R4) : Bool := stF a.N r.1 && kdF ss r.2.1 1 && stF a.N r.2.2.1 && btF r.2.2.2 1 a.G
def okC (ss : List (ByteArray × Int)) (a : Aut) (r : R4) : Bool := stF a.N r.1 && kdF ss r.2.1 2 && stF a.N r.2.2.2 && btF r.2.2.1 0 a.G
def okI (ss : List (ByteArray × Int)) (a : Aut) (r : R3) : Bool := stF a.N r.1 && kdF ss r.2.1 3 && stF a.N r.2.2
def z4y (a : Aut) : Bool := btF a.N 0 200 && btF a.G 0 10000 && decide (((a.opens.length : Int) + a.closes.length) + a.inners.length ≤ 100000)
def z0o (ss : List (ByteArray × Int)) (a : Aut) : Bool := z4y a && a.init.all (stF a.N) && a.final.all (stF a.N) && a.opens.all (okO ss a) && a.closes.all (okC ss a) && a.inners.all (okI ss a)
theorem z2h {α : Type} {p : α → Bool} {l : List α} {i : Nat} (h : i < l.length) (ht : (l.take i).all p = true) (hi : p l[i] = true) : (l.take (i + 1)).all p = true := by
 rw [List.take_succ_eq_append_getElem h, List.all_append, ht];simp [hi]
theorem z1v {α : Type} {p : α → Bool} {l : List α} {i : Nat} (h : i < l.length) (hi : p l[i] = false) : l.all p = false := by
 rw [List.all_eq_false];exact ⟨_, List.getElem_mem h, by simp [hi]⟩
end Go.Am
namespace Go.Proofs.YteplpegfcpmflaaGreat
open Go.Am Go.RowKit
attribute [local irreducible] aop OpsL Trip zC z36
theorem z2k : Am.z0F Tryz.prog 36 := ⟨Tryz.f36, Tryz.func36, by kernel_rfl, by kernel_rfl⟩
theorem z19 : Am.z0F Tryz.prog 33 := ⟨Tryz.f33, Tryz.func33, by kernel_rfl, by kernel_rfl⟩
theorem z50 : Am.z0F Tryz.prog 34 := ⟨Tryz.f34, Tryz.func34, by kernel_rfl, by kernel_rfl⟩
theorem zbQ : Am.z0F Tryz.prog 35 := ⟨Tryz.f35, Tryz.func35, by kernel_rfl, by kernel_rfl⟩
theorem zam : Am.z0F Tryz.prog 37 := ⟨Tryz.f37, Tryz.func37, by kernel_rfl, by kernel_rfl⟩
theorem zbO : Am.z0F Tryz.prog 38 := ⟨Tryz.f38, Tryz.func38, by kernel_rfl, by kernel_rfl⟩
theorem zbP : Am.z0F Tryz.prog 39 := ⟨Tryz.f39, Tryz.func39, by kernel_rfl, by kernel_rfl⟩
theorem z6d : Am.z0F Tryz.prog 29 := ⟨Tryz.f29, Tryz.func29, by kernel_rfl, by kernel_rfl⟩
theorem z6h : Am.z0F Tryz.prog 16 := ⟨Tryz.f16, Tryz.func16, by kernel_rfl, by kernel_rfl⟩
theorem z5D (W0 : World) {nx : Nat} {H : Heap} (x a b : Int) :
  ACalls Tryz.prog W0 36 [.int .i64 x, .int .i64 a, .int .i64 b] nx H fun v nx' H' => v = .bool (btF x a b) ∧ nx' = nx ∧ H' = H := by
 refine ze (fn := Tryz.f36) (c := _) Tryz.func36 rfl (fun tm n hn0 htm => ?_);have e0 : tm 0 = .int .i64 x := htm 0;have e1 : tm 1 = .int .i64 a := htm 1;have e2 : tm 2 = .int .i64 b := htm 2;clear htm;replace hn0 : n = 15 := hn0
 repeat' (first | (refine z7 (by first | exact omv | exact z0x | exact zgk | exact z2q | exact z27) ?_) | refine Trip.seq ?_ | refine zd ?_ | (refine Trip.ret ?_; (dsimp only)) | (refine OpsL.nil ?_; (change Trip _ _ _ _ _)) | refine zj ?_ | refine zF ?_ | refine z3e (fun _ => ?_) (fun _ => ?_))
 all_goals (exact ⟨.inr rfl, _, zh, by simp [z9, btF, *], rfl, rfl⟩)
theorem z5a (W0 : World) {nx : Nat} {H : Heap} {b : Nat} {N : Int} (s : Int) (hN : zb H ⟨b, 0, none⟩ (.int .i64 N)) :
  ACalls Tryz.prog W0 33 [.int .i64 s, .pointer (some ⟨b, 0, none⟩)] nx H fun v nx' H' => v = .bool (stF N s) ∧ nx' = nx ∧ H' = H := by
 refine ze (fn := Tryz.f33) (c := _) Tryz.func33 rfl (fun tm n hn0 htm => ?_);have e0 : tm 0 = .int .i64 s := htm 0;have e1 : tm 1 = .pointer (some ⟨b, 0, none⟩) := htm 1;clear htm;replace hn0 : n = 12 := hn0
 repeat' (first | (refine z7 (by first | exact omv | exact z0x | exact z6B | exact zgk | exact ofa | exact old | exact z2q | exact z27) ?_) | refine Trip.seq ?_ | refine zd ?_ | (refine Trip.ret ?_; (dsimp only)) | (refine OpsL.nil ?_; (change Trip _ _ _ _ _)) | refine zj ?_ | refine zF ?_ | refine z3e (fun _ => ?_) (fun _ => ?_))
 all_goals (exact ⟨.inr rfl, _, zh, by simp [z9, stF, *], rfl, rfl⟩)
theorem zfv (W0 : World) {nx : Nat} {H : Heap} {b : Nat} {lv : Value} {ss : List (ByteArray × Int)} (s k : Int) (hc : zb H ⟨b, 0, none⟩ lv) (hl : SymsAt H lv ss) (hss : ss.length ≤ 1000) :
  ACalls Tryz.prog W0 34 [.int .i64 s, .int .i64 k, .pointer (some ⟨b, 0, none⟩)] nx H fun v nx' H' => v = .bool (kdF ss s k) ∧ nx' = nx ∧ H' = H := by
 obtain ⟨la, lc, rfl, hl⟩ := hl;refine ze (fn := Tryz.f34) (c := _) Tryz.func34 rfl (fun tm n hn0 htm => ?_);have e0 : tm 0 = .int .i64 s := htm 0;have e1 : tm 1 = .int .i64 k := htm 1;have e2 : tm 2 = .pointer (some ⟨b, 0, none⟩) := htm 2;clear htm;replace hn0 : n = 23 := hn0;by_cases h0 : 0 ≤ s
 ·obtain ⟨i, rfl⟩ : ∃ i : Nat, s = i := ⟨s.toNat, by omega⟩
  by_cases h1 : i < ss.length
  ·have hc1 := z1X (hl i h1)
   dsimp only at hc1;have hc2 : zb H ⟨la.block, la.off + (i : Int).toNat * 2 + 1, la.spot⟩ (.int .i64 ss[i].2) := by simpa using hc1
   have hk : kdF ss i k = decide (ss[i].2 = k) := by
    unfold kdF;rw [Int.toNat_natCast, List.getElem?_eq_getElem h1];simp [h1]
   repeat' (first | (refine z7 (by first | exact omv | exact z0x | exact z6B | exact zgk | exact zeM | exact z1s | exact z4s | exact ofa | exact old | exact z2q | exact z27) ?_) | refine Trip.seq ?_ | refine zd ?_ | (refine Trip.ret ?_; (dsimp only)) | (refine OpsL.nil ?_; (change Trip _ _ _ _ _)) | refine zj ?_ | refine zF ?_ | refine z3e (fun _ => ?_) (fun _ => ?_))
   all_goals first | omega | skip
   all_goals (exact ⟨.inr rfl, _, zh, by rw [hk]; simp [z9, *], rfl, rfl⟩)
  ·have hk : kdF ss i k = false := by
    unfold kdF;simp [h1]
   repeat' (first | (refine z7 (by first | exact omv | exact z0x | exact z6B | exact zgk | exact z1s | exact z4s | exact ofa | exact old | exact z2q | exact z27) ?_) | refine Trip.seq ?_ | refine zd ?_ | (refine Trip.ret ?_; (dsimp only)) | (refine OpsL.nil ?_; (change Trip _ _ _ _ _)) | refine zj ?_ | refine zF ?_ | refine z3e (fun _ => ?_) (fun _ => ?_))
   all_goals first | omega | skip
   all_goals (exact ⟨.inr rfl, _, zh, by rw [hk]; simp [z9, *], rfl, rfl⟩)
 ·have hk : kdF ss s k = false := by
   unfold kdF;simp [h0]
  repeat' (first | (refine z7 (by first | exact omv | exact z0x | exact zgk | exact z27) ?_) | refine Trip.seq ?_ | refine zd ?_ | (refine Trip.ret ?_; (dsimp only)) | (refine OpsL.nil ?_; (change Trip _ _ _ _ _)) | refine zF ?_)
  all_goals first | omega | skip
  all_goals (exact ⟨.inr rfl, _, zh, by rw [hk]; simp [z9, *], rfl, rfl⟩)
structure Ctx (H : Heap) (b2 b3 b5 b6 : Nat) (lv : Value) (N G : Int) : Prop where
 c2 : zb H ⟨b2, 0, none⟩ lv
 cN : zb H ⟨b3, 0, none⟩ (.int .i64 N)
 cG : zb H ⟨b3, 1, none⟩ (.int .i64 G)
 c5 : zb H ⟨b5, 0, none⟩ (.func (.func 33) #[] #[.pointer (some ⟨b3, 0, none⟩)])
 c6 : zb H ⟨b6, 0, none⟩ (.func (.func 34) #[] #[.pointer (some ⟨b2, 0, none⟩)])
theorem Ctx.ext {nx nx' : Nat} {H H' : Heap} {b2 b3 b5 b6 : Nat} {lv : Value} {N G : Int} (h : Ext nx H nx' H') (hok : ∀ id o, H id = some o → id < nx) (hc : Ctx H b2 b3 b5 b6 lv N G) : Ctx H' b2 b3 b5 b6 lv N G :=
 ⟨zm h hok hc.c2, zm h hok hc.cN, zm h hok hc.cG, zm h hok hc.c5, zm h hok hc.c6⟩
theorem zi0 (W0 : World) {nx : Nat} {H : Heap} {b2 b3 b5 b6 : Nat} {lv : Value} {ss : List (ByteArray × Int)} {a : Aut} (r : R4) (hc : Ctx H b2 b3 b5 b6 lv a.N a.G) (hl : SymsAt H lv ss) (hss : ss.length ≤ 1000) :
  ACalls Tryz.prog W0 35 [.agg (e4 r).toArray, .pointer (some ⟨b5, 0, none⟩), .pointer (some ⟨b6, 0, none⟩), .pointer (some ⟨b3, 0, none⟩)] nx H fun v nx' H' => v = .bool (okO ss a r) ∧ Ext nx H nx' H' := by
 refine ze (fn := Tryz.f35) (c := _) Tryz.func35 rfl (fun tm n hn0 htm => ?_);have e0 : tm 0 = .agg (e4 r).toArray := htm 0;have e1 : tm 1 = .pointer (some ⟨b5, 0, none⟩) := htm 1;have e2 : tm 2 = .pointer (some ⟨b6, 0, none⟩) := htm 2;have e3 : tm 3 = .pointer (some ⟨b3, 0, none⟩) := htm 3;clear htm;replace hn0 : n = 29 := hn0;refine Trip.ok fun hok => ?_;replace hok : ∀ id o, H id = some o → id < nx := hok;refine z5o ?_;refine OpsL.new (by subst_vars; decide) (zW evr) ?_;obtain ⟨F, hF⟩ : ∃ F, F = H.put nx (.cells (Value.agg (e4 r).toArray).cells.toList 0 none false (some 43)) := ⟨_, rfl⟩;have hx0 : Ext nx H (nx + 1) F := by rw [hF]; exact zg
 have hFn : F nx = some (.cells (e4 r) 0 none false (some 43)) := by rw [hF, z6]; rfl
 obtain ⟨c2, cN, cG, c5, c6⟩ := hc.ext hx0 hok;replace hl := hl.ext hx0 hok;have g0 : zb F ⟨nx, 0, none⟩ (.int .i64 r.1) := z8 hFn rfl;have g1 : zb F ⟨nx, 1, none⟩ (.int .i64 r.2.1) := z8 hFn rfl;have g2 : zb F ⟨nx, 2, none⟩ (.int .i64 r.2.2.1) := z8 hFn rfl;have g3 : zb F ⟨nx, 3, none⟩ (.int .i64 r.2.2.2) := z8 hFn rfl;rw [← hF];clear hF;refine zhx ?_;refine z0B (cap := #[.pointer (some ⟨b3, 0, none⟩)]) (by subst_vars; decide) evd evr z19 (z5a W0 _ cN) ?_;rintro v2 n2 H2 ⟨rfl, rfl, rfl⟩;cases hs1 : stF a.N r.1
 ·repeat' (first | (refine z7 (by first | exact omv | exact z0x | exact z27) ?_) | (refine Trip.ret ?_; (dsimp only)) | (refine OpsL.nil ?_; (change Trip _ _ _ _ _)) | refine zF ?_)
  exact ⟨.inr rfl, _, zh, by simp [z9, okO, *], hx0⟩
 repeat' (first | (refine z7 (by first | exact omv | exact ofa | exact old) ?_) | refine zj ?_)
 refine z4q (cap := #[.pointer (some ⟨b2, 0, none⟩)]) (by subst_vars; decide) evd evr evr z50 (zfv W0 _ _ c2 hl hss) ?_;rintro v2 n2 H2 ⟨rfl, rfl, rfl⟩;cases hs2 : kdF ss r.2.1 1
 ·repeat' (first | (refine z7 (by first | exact omv | exact z0x | exact z2q | exact z27) ?_) | (refine Trip.ret ?_; (dsimp only)) | (refine OpsL.nil ?_; (change Trip _ _ _ _ _)) | refine zF ?_)
  exact ⟨.inr rfl, _, zh, by simp [z9, okO, *], hx0⟩
 repeat' (first | (refine z7 (by first | exact omv | exact ofa | exact old | exact z2q) ?_) | refine zj ?_)
 refine z0B (cap := #[.pointer (some ⟨b3, 0, none⟩)]) (by subst_vars; decide) evd evr z19 (z5a W0 _ cN) ?_;rintro v2 n2 H2 ⟨rfl, rfl, rfl⟩;cases hs3 : stF a.N r.2.2.1
 ·repeat' (first | (refine z7 (by first | exact omv | exact z0x | exact z2q | exact z27) ?_) | (refine Trip.ret ?_; (dsimp only)) | (refine OpsL.nil ?_; (change Trip _ _ _ _ _)) | refine zF ?_)
  exact ⟨.inr rfl, _, zh, by simp [z9, okO, *], hx0⟩
 repeat' (first | (refine z7 (by first | exact omv | exact ofa | exact old | exact z2q) ?_) | refine zj ?_)
 refine z1p (hf := z2k) (hc := (z5D W0 _ _ _)) (h := ?_);rintro v2 n2 H2 ⟨rfl, rfl, rfl⟩
 repeat' (first | (refine z7 (by first | exact z0x | exact z2q) ?_) | (refine Trip.ret ?_; (dsimp only)) | (refine OpsL.nil ?_; (change Trip _ _ _ _ _)))
 exact ⟨.inr rfl, _, zh, by simp [z9, okO, *], hx0⟩
theorem zhl (W0 : World) {nx : Nat} {H : Heap} {b2 b3 b5 b6 : Nat} {lv : Value} {ss : List (ByteArray × Int)} {a : Aut} (r : R4) (hc : Ctx H b2 b3 b5 b6 lv a.N a.G) (hl : SymsAt H lv ss) (hss : ss.length ≤ 1000) :
  ACalls Tryz.prog W0 37 [.agg (e4 r).toArray, .pointer (some ⟨b5, 0, none⟩), .pointer (some ⟨b6, 0, none⟩), .pointer (some ⟨b3, 0, none⟩)] nx H fun v nx' H' => v = .bool (okC ss a r) ∧ Ext nx H nx' H' := by
 refine ze (fn := Tryz.f37) (c := _) Tryz.func37 rfl (fun tm n hn0 htm => ?_);have e0 : tm 0 = .agg (e4 r).toArray := htm 0;have e1 : tm 1 = .pointer (some ⟨b5, 0, none⟩) := htm 1;have e2 : tm 2 = .pointer (some ⟨b6, 0, none⟩) := htm 2;have e3 : tm 3 = .pointer (some ⟨b3, 0, none⟩) := htm 3;clear htm;replace hn0 : n = 29 := hn0;refine Trip.ok fun hok => ?_;replace hok : ∀ id o, H id = some o → id < nx := hok;refine z5o ?_;refine OpsL.new (by subst_vars; decide) (zW evr) ?_;obtain ⟨F, hF⟩ : ∃ F, F = H.put nx (.cells (Value.agg (e4 r).toArray).cells.toList 0 none false (some 45)) := ⟨_, rfl⟩;have hx0 : Ext nx H (nx + 1) F := by rw [hF]; exact zg
 have hFn : F nx = some (.cells (e4 r) 0 none false (some 45)) := by rw [hF, z6]; rfl
 obtain ⟨c2, cN, cG, c5, c6⟩ := hc.ext hx0 hok;replace hl := hl.ext hx0 hok;have g0 : zb F ⟨nx, 0, none⟩ (.int .i64 r.1) := z8 hFn rfl;have g1 : zb F ⟨nx, 1, none⟩ (.int .i64 r.2.1) := z8 hFn rfl;have g2 : zb F ⟨nx, 2, none⟩ (.int .i64 r.2.2.1) := z8 hFn rfl;have g3 : zb F ⟨nx, 3, none⟩ (.int .i64 r.2.2.2) := z8 hFn rfl;rw [← hF];clear hF;refine zhx ?_;refine z0B (cap := #[.pointer (some ⟨b3, 0, none⟩)]) (by subst_vars; decide) evd evr z19 (z5a W0 _ cN) ?_;rintro v2 n2 H2 ⟨rfl, rfl, rfl⟩;cases hs1 : stF a.N r.1
 ·repeat' (first | (refine z7 (by first | exact omv | exact z0x | exact z27) ?_) | (refine Trip.ret ?_; (dsimp only)) | (refine OpsL.nil ?_; (change Trip _ _ _ _ _)) | refine zF ?_)
  exact ⟨.inr rfl, _, zh, by simp [z9, okC, *], hx0⟩
 repeat' (first | (refine z7 (by first | exact omv | exact ofa | exact old) ?_) | refine zj ?_)
 refine z4q (cap := #[.pointer (some ⟨b2, 0, none⟩)]) (by subst_vars; decide) evd evr evr z50 (zfv W0 _ _ c2 hl hss) ?_;rintro v2 n2 H2 ⟨rfl, rfl, rfl⟩;cases hs2 : kdF ss r.2.1 2
 ·repeat' (first | (refine z7 (by first | exact omv | exact z0x | exact z2q | exact z27) ?_) | (refine Trip.ret ?_; (dsimp only)) | (refine OpsL.nil ?_; (change Trip _ _ _ _ _)) | refine zF ?_)
  exact ⟨.inr rfl, _, zh, by simp [z9, okC, *], hx0⟩
 repeat' (first | (refine z7 (by first | exact omv | exact ofa | exact old | exact z2q) ?_) | refine zj ?_)
 refine z0B (cap := #[.pointer (some ⟨b3, 0, none⟩)]) (by subst_vars; decide) evd evr z19 (z5a W0 _ cN) ?_;rintro v2 n2 H2 ⟨rfl, rfl, rfl⟩;cases hs3 : stF a.N r.2.2.2
 ·repeat' (first | (refine z7 (by first | exact omv | exact z0x | exact z2q | exact z27) ?_) | (refine Trip.ret ?_; (dsimp only)) | (refine OpsL.nil ?_; (change Trip _ _ _ _ _)) | refine zF ?_)
  exact ⟨.inr rfl, _, zh, by simp [z9, okC, *], hx0⟩
 repeat' (first | (refine z7 (by first | exact omv | exact ofa | exact old | exact z2q) ?_) | refine zj ?_)
 refine z1p (hf := z2k) (hc := (z5D W0 _ _ _)) (h := ?_);rintro v2 n2 H2 ⟨rfl, rfl, rfl⟩
 repeat' (first | (refine z7 (by first | exact z0x | exact z2q) ?_) | (refine Trip.ret ?_; (dsimp only)) | (refine OpsL.nil ?_; (change Trip _ _ _ _ _)))
 exact ⟨.inr rfl, _, zh, by simp [z9, okC, *], hx0⟩
theorem zhX (W0 : World) {nx : Nat} {H : Heap} {b2 b3 b5 b6 : Nat} {lv : Value} {ss : List (ByteArray × Int)} {a : Aut} (r : R3) (hc : Ctx H b2 b3 b5 b6 lv a.N a.G) (hl : SymsAt H lv ss) (hss : ss.length ≤ 1000) :
  ACalls Tryz.prog W0 38 [.agg (e3 r).toArray, .pointer (some ⟨b5, 0, none⟩), .pointer (some ⟨b6, 0, none⟩)] nx H fun v nx' H' => v = .bool (okI ss a r) ∧ Ext nx H nx' H' := by
 refine ze (fn := Tryz.f38) (c := _) Tryz.func38 rfl (fun tm n hn0 htm => ?_);have e0 : tm 0 = .agg (e3 r).toArray := htm 0;have e1 : tm 1 = .pointer (some ⟨b5, 0, none⟩) := htm 1;have e2 : tm 2 = .pointer (some ⟨b6, 0, none⟩) := htm 2;clear htm;replace hn0 : n = 21 := hn0;refine Trip.ok fun hok => ?_;replace hok : ∀ id o, H id = some o → id < nx := hok;refine z5o ?_;refine OpsL.new (by subst_vars; decide) (zW evr) ?_;obtain ⟨F, hF⟩ : ∃ F, F = H.put nx (.cells (Value.agg (e3 r).toArray).cells.toList 0 none false (some 51)) := ⟨_, rfl⟩;have hx0 : Ext nx H (nx + 1) F := by rw [hF]; exact zg
 have hFn : F nx = some (.cells (e3 r) 0 none false (some 51)) := by rw [hF, z6]; rfl
 obtain ⟨c2, cN, cG, c5, c6⟩ := hc.ext hx0 hok;replace hl := hl.ext hx0 hok;have g0 : zb F ⟨nx, 0, none⟩ (.int .i64 r.1) := z8 hFn rfl;have g1 : zb F ⟨nx, 1, none⟩ (.int .i64 r.2.1) := z8 hFn rfl;have g2 : zb F ⟨nx, 2, none⟩ (.int .i64 r.2.2) := z8 hFn rfl;rw [← hF];clear hF;refine zhx ?_;refine z0B (cap := #[.pointer (some ⟨b3, 0, none⟩)]) (by subst_vars; decide) evd evr z19 (z5a W0 _ cN) ?_;rintro v2 n2 H2 ⟨rfl, rfl, rfl⟩;cases hs1 : stF a.N r.1
 ·repeat' (first | (refine z7 (by first | exact omv | exact z0x | exact z27) ?_) | (refine Trip.ret ?_; (dsimp only)) | (refine OpsL.nil ?_; (change Trip _ _ _ _ _)) | refine zF ?_)
  exact ⟨.inr rfl, _, zh, by simp [z9, okI, *], hx0⟩
 repeat' (first | (refine z7 (by first | exact omv | exact ofa | exact old) ?_) | refine zj ?_)
 refine z4q (cap := #[.pointer (some ⟨b2, 0, none⟩)]) (by subst_vars; decide) evd evr evr z50 (zfv W0 _ _ c2 hl hss) ?_;rintro v2 n2 H2 ⟨rfl, rfl, rfl⟩;cases hs2 : kdF ss r.2.1 3
 ·repeat' (first | (refine z7 (by first | exact omv | exact z0x | exact z2q | exact z27) ?_) | (refine Trip.ret ?_; (dsimp only)) | (refine OpsL.nil ?_; (change Trip _ _ _ _ _)) | refine zF ?_)
  exact ⟨.inr rfl, _, zh, by simp [z9, okI, *], hx0⟩
 repeat' (first | (refine z7 (by first | exact omv | exact ofa | exact old | exact z2q) ?_) | refine zj ?_)
 refine z0B (cap := #[.pointer (some ⟨b3, 0, none⟩)]) (by subst_vars; decide) evd evr z19 (z5a W0 _ cN) ?_;rintro v2 n2 H2 ⟨rfl, rfl, rfl⟩;cases hs3 : stF a.N r.2.2
 all_goals
  repeat' (first | (refine z7 (by first | exact z0x | exact z2q) ?_) | (refine Trip.ret ?_; (dsimp only)) | (refine OpsL.nil ?_; (change Trip _ _ _ _ _)))
  exact ⟨.inr rfl, _, zh, by simp [z9, okI, *], hx0⟩
end Go.Proofs.YteplpegfcpmflaaGreat
