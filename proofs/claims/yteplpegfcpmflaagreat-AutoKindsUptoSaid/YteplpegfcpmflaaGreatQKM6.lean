import Derived.ProofKit
import Derived.OpenShut
import Derived.Carry
import Derived.Test.YteplpegfcpmflaaGreatRows
import Derived.Lib.Hide
import Derived.Test.YteplpegfcpmflaaGreatQKM5
set_option linter.unusedSimpArgs false
set_option linter.unusedVariables false
set_option maxRecDepth 100000
set_option maxHeartbeats 32000000
namespace Go.Am
open Go.RowKit
def zbL (ops : Array Oper) (j i : Nat) : Bool := match ops[j]? with | some oj => zbT ops 4 oj i | none => false
def z8z (ops : Array Oper) (j i : Nat) : Bool := match ops[j]? with | some oj => z9S oj i | none => false
def z3O (ops : Array Oper) (l : List Nat) (i : Nat) : Bool := l.all fun j => !z8z ops i j
def z3k (ops : Array Oper) : Bool :=
 z1N (fun _ oi => z1N (fun j oj => match oj.dst with
  | some t => if (z3j oi).contains t || z6Q ops oi == some t then z9S oi j else true
  | none => true) 0 ops.toList) 0 ops.toList
def zbS (ops : Array Oper) (acts : List Nat) (i : Nat) (o : Oper) (l : List Nat) : Bool := z4R o.op || l.all fun j => !acts.contains j || zbL ops j i
def ActStep (P : Program) (W0 : World) (ops : Array Oper) (acts : List Nat) (K : Nat → Heap → Prop) (i : Nat) (st : ASt) (N : ASt → Prop) : Prop :=
 ∃ o, ops[i]? = some o ∧ z1f st o = true ∧ acts.contains i = true ∧
  ((z0X ops st o = false ∧ N (st.put o.dst undef .none)) ∨
   (z0X ops st o = true ∧
    ((∃ v e, aop P st.H st.nx st.ev o = some (v, e) ∧ K (e.nx st.nx) (e.H st.nx st.H) ∧ N (st.put o.dst v e)) ∨
    (∃ f args R, z0W st o = some (f, args) ∧ z0U P f ∧ ACalls P W0 f args st.nx st.H R ∧ ∀ v nx' H', R v nx' H' → K nx' H' ∧ N ⟨zk st.tm o.dst v, st.n, H', nx'⟩))))
def OpsR (P : Program) (W0 : World) (ops : Array Oper) (acts : List Nat) (K : Nat → Heap → Prop) : Nat → List Nat → ASt → (ASt → Prop) → Prop
 | _, [], st, Q => Q st
 | 0, _ :: _, _, _ => False
 | m + 1, i :: l, st, Q =>
  (acts.contains i = false ∧ z3O ops l i = true ∧ ∃ o, ops[i]? = some o ∧ z1f st o = true ∧
   ((z0X ops st o = false ∧ OpsR P W0 ops acts K m l (st.put o.dst undef .none) Q) ∨
    (z0X ops st o = true ∧ ∃ v, aop P st.H st.nx st.ev o = some (v, .none) ∧ (zbS ops acts i o l = true ∨ ∀ H' nx', K nx' H' → aop P H' nx' st.ev o = some (v, .none)) ∧ OpsR P W0 ops acts K m l (st.put o.dst v .none) Q))) ∨
  (∀ j ∈ i :: l, z3O ops ((i :: l).erase j) j = true → ActStep P W0 ops acts K j st fun s => OpsR P W0 ops acts K m ((i :: l).erase j) s Q)
section
variable {P : Program} {W0 : World} {ops : Array Oper} {acts : List Nat} {K : Nat → Heap → Prop}
theorem z3S {st : ASt} {o : Oper} {H : Heap} {nx : Nat} : aop P H nx (evR (z3j o) st.tm) o = aop P H nx st.ev o :=
 z6r (fun x hx => z7H (n := st.n) (nx := st.nx) (H := st.H) (fun t ht => z5Z (by rw [← ht]; exact hx)))
theorem z3Z (h : z3k ops = true) {i j : Nat} {oi oj : Oper} {t : Tmp} (hi : ops[i]? = some oi) (hj : ops[j]? = some oj) (ht : t ∈ z3j oi ∨ z6Q ops oi = some t) (hd : oj.dst = some t) : dep oi j := by
 unfold z3k at h;have h1 := z0d _ _ (z0d _ _ h i oi (by simpa using hi)) j oj (by simpa using hj);simp only [Nat.zero_add, hd] at h1;rw [if_pos] at h1
 ·exact z0S.1 h1
 ·rcases ht with ht | ht
  ·simp [ht]
  ·simp [ht]
theorem z2D {l : List Nat} {i : Nat} : z3O ops l i = true ↔ ∀ j ∈ l, z8z ops i j = false := by
 unfold z3O;rw [List.all_eq_true];constructor
 ·intro h j hj; have := h j hj; simpa using this
 ·intro h j hj; simp [h j hj]
def zfx (P : Program) (ops : Array Oper) (acts : List Nat) (K : Nat → Heap → Prop) (L : List Nat) (T : Nat → Value) (n : Nat) (H : Heap) (nx : Nat) (i : Nat) (o : Oper) : Prop :=
 (∀ d, o.dst = some d → d < n) ∧ ∃ val, (∀ d, o.dst = some d → T d = val) ∧ ((z1W ops T o = false ∧ val = undef) ∨
  (z1W ops T o = true ∧ aop P H nx (evR (z3j o) T) o = some (val, .none) ∧ ((∀ j ∈ L, acts.contains j = true → zbL ops j i = true) ∨ ∀ H' nx', K nx' H' → aop P H' nx' (evR (z3j o) T) o = some (val, .none))))
structure RInv (P : Program) (ops : Array Oper) (acts : List Nat) (K : Nat → Heap → Prop) (D L : List Nat) (listed : Array Bool) (tm T : Nat → Value) (n : Nat) (H : Heap) (nx : Nat) : Prop where
 size : listed.size = ops.size
 down : ∀ (i : Nat) (o : Oper), ops[i]? = some o → listed.getD i false = true → ∀ j, dep o j → listed.getD j false = true
 unl : ∀ i ∈ L, listed.getD i false = false
 all : ∀ i, i < ops.size → i ∈ D ∨ i ∈ L
 disj : ∀ p ∈ D, ∀ i ∈ L, p ≠ i
 topo : ∀ p ∈ D, ∀ i ∈ L, z8z ops p i = false
 nd : L.Nodup
 lt : ∀ i ∈ L, i < ops.size
 pend : ∀ i ∈ D, listed.getD i false = false → ∃ o, ops[i]? = some o ∧ zfx P ops acts K L T n H nx i o
 eqv : ∀ t, (∀ (i : Nat) (o : Oper), ops[i]? = some o → i ∈ D → listed.getD i false = false → o.dst ≠ some t) → tm t = T t
variable {D L : List Nat} {listed : Array Bool} {tm T : Nat → Value} {n nx : Nat} {H : Heap}
theorem z9j (down : ∀ (i : Nat) (o : Oper), ops[i]? = some o → listed.getD i false = true → ∀ j, dep o j → listed.getD j false = true) : ∀ (m : Nat) (o : Oper) (i : Nat), (∀ j, dep o j → listed.getD j false = true) → zgZ ops m o i → listed.getD i false = true := by
 intro m
 induction m with
 | zero => intro o i ha hd; exact ha i hd
 | succ m ihm =>
  intro o i ha hd;rcases hd with hd | ⟨k, ok, hok, hdk, hd⟩
  ·exact ha i hd
  ·exact ihm ok i (fun j hj => down k ok hok (ha k hdk) j hj) hd
theorem z6D (down : ∀ (i : Nat) (o : Oper), ops[i]? = some o → listed.getD i false = true → ∀ j, dep o j → listed.getD j false = true) {i j : Nat} {o : Oper} (ho : ops[j]? = some o) (hall : ∀ k, dep o k → listed.getD k false = true) (h : zbL ops j i = true) : listed.getD i false = true := by
 unfold zbL at h;rw [ho] at h;exact z9j down 4 o i hall (z99 _ _ _ h)
theorem RInv.reads (hr : z3k ops = true) (hi : RInv P ops acts K D L listed tm T n H nx) {i : Nat} {o : Oper} (ho : ops[i]? = some o) (hall : ∀ j, dep o j → listed.getD j false = true) {t : Tmp} (ht : t ∈ z3j o ∨ z6Q ops o = some t) : tm t = T t := by
 refine hi.eqv t fun p op hop hp hun hd => ?_;have := hall p (z3Z hr ho hop ht hd);rw [hun] at this;cases this
theorem zbj (hr : z3k ops = true) (hone : ∀ (i j : Nat) (oi oj : Oper) (d : Tmp), ops[i]? = some oi → ops[j]? = some oj → oi.dst = some d → oj.dst = some d → i = j) {i p : Nat} {o op : Oper} {H' : Heap} {nx' : Nat} (ho : ops[i]? = some o) (hop : ops[p]? = some op) (hpi : p ≠ i) (hni : z8z ops p i = false) (v : Value)
  {L' : List Nat} (hsub : ∀ j ∈ L', j ∈ L) (hil : i ∈ L) (h : zfx P ops acts K L T n H nx p op) (hk : (H' = H ∧ nx' = nx) ∨ (acts.contains i = true ∧ zbL ops i p = false ∧ K nx' H')) : zfx P ops acts K L' (zk T o.dst v) n H' nx' p op := by
 obtain ⟨h2, val, h3, h4⟩ := h
 have hsame : ∀ t, (t ∈ z3j op ∨ z6Q ops op = some t) → zk T o.dst v t = T t := fun t ht => by
  cases hd : o.dst with
  | none => rfl
  | some d =>
   have hne : t ≠ d := fun e => by
    subst e;have := z0S.2 (z3Z hr hop ho ht hd);unfold z8z at hni;rw [hop] at hni;simp only at hni;rw [hni] at this;cases this
   simp only [zk, hne, if_false]
 refine ⟨h2, val, fun d hd => ?_, ?_⟩
 ·rw [← h3 d hd];cases hod : o.dst with
  | none => rfl
  | some d' =>
   have hne : d ≠ d' := fun e => hpi (hone p i op o d hop ho hd (by rw [hod, e]));simp only [zk, hne, if_false]
 ·rw [z0l (tm' := T) (fun d hd => hsame d (.inr hd)), z0I (tm' := T) (fun t ht => hsame t (.inl ht))];rcases h4 with h4 | ⟨h5, h6, h7⟩
  ·exact .inl h4
  ·refine .inr ⟨h5, ?_, ?_⟩
   ·rcases hk with ⟨rfl, rfl⟩ | ⟨he, hno, hK⟩
    ·exact h6
    ·rcases h7 with h7 | h7
     ·have := h7 i hil he;rw [hno] at this; cases this
     ·exact h7 _ _ hK
   ·rcases h7 with h7 | h7
    ·exact .inl fun j hj => h7 j (hsub j hj)
    ·exact .inr h7
theorem z3V (hr : z3k ops = true) (hlex : ∀ (i : Nat) (o : Oper), ops[i]? = some o → ∀ j, dep o j → j < i) {i : Nat} {o : Oper} (ho : ops[i]? = some o) (v : Value) {t : Tmp} (ht : t ∈ z3j o ∨ z6Q ops o = some t) : zk T o.dst v t = T t := by
 cases hod : o.dst with
 | none => rfl
 | some d =>
  have hne : t ≠ d := fun e => by
   subst e;exact absurd (hlex i o ho i (z3Z hr ho ho ht hod)) (Nat.lt_irrefl _)
  simp only [zk, hne, if_false]
theorem RInv.advance (hr : z3k ops = true) (hlex : ∀ (i : Nat) (o : Oper), ops[i]? = some o → ∀ j, dep o j → j < i) (hone : ∀ (i j : Nat) (oi oj : Oper) (d : Tmp), ops[i]? = some oi → ops[j]? = some oj → oi.dst = some d → oj.dst = some d → i = j) {i m : Nat} {Q : ASt → Prop} (hi : RInv P ops acts K D (i :: L) listed tm T n H nx) (hfr : z3O ops L i = true)
  (h : ∃ o, ops[i]? = some o ∧ z1f ⟨T, n, H, nx⟩ o = true ∧
   ((z0X ops ⟨T, n, H, nx⟩ o = false ∧ OpsR P W0 ops acts K m L (ASt.put ⟨T, n, H, nx⟩ o.dst undef .none) Q) ∨
    (z0X ops ⟨T, n, H, nx⟩ o = true ∧ ∃ v, aop P H nx (ASt.ev ⟨T, n, H, nx⟩) o = some (v, .none) ∧ (zbS ops acts i o L = true ∨ ∀ H' nx', K nx' H' → aop P H' nx' (ASt.ev ⟨T, n, H, nx⟩) o = some (v, .none)) ∧ OpsR P W0 ops acts K m L (ASt.put ⟨T, n, H, nx⟩ o.dst v .none) Q))) :
  ∃ T', RInv P ops acts K (i :: D) L listed tm T' n H nx ∧ OpsR P W0 ops acts K m L ⟨T', n, H, nx⟩ Q := by
 obtain ⟨o, ho, hd, h⟩ := h;have hl : ∀ j ∈ L, i ≠ j ∧ z8z ops i j = false := fun j hj => ⟨fun e => (List.nodup_cons.1 hi.nd).1 (e ▸ hj), z2D.1 hfr j hj⟩;have hdn := z1c hd
 have key : ∃ v, zfx P ops acts K L (zk T o.dst v) n H nx i o ∧ OpsR P W0 ops acts K m L ⟨zk T o.dst v, n, H, nx⟩ Q := by
  have hown : ∀ v d, o.dst = some d → zk T o.dst v d = v := fun v d hd => by simp [zk, hd]
  rcases h with ⟨hw, h⟩ | ⟨hw, v, hop, hedge, h⟩
  ·refine ⟨undef, ⟨hdn, undef, hown undef, .inl ⟨?_, rfl⟩⟩, h⟩;rw [z0l (tm' := T) (fun d hd => z3V hr hlex ho _ (.inr hd))];exact (z0k ⟨T, n, H, nx⟩ o).trans hw
  ·refine ⟨v, ⟨hdn, v, hown v, .inr ⟨?_, ?_, ?_⟩⟩, h⟩
   ·rw [z0l (tm' := T) (fun d hd => z3V hr hlex ho _ (.inr hd))];exact (z0k ⟨T, n, H, nx⟩ o).trans hw
   ·rw [z0I (tm' := T) (fun t ht => z3V hr hlex ho _ (.inl ht))];exact (z3S (st := ⟨T, n, H, nx⟩)).trans hop
   ·rcases hedge with hedge | hst
    ·unfold zbS at hedge;rw [Bool.or_eq_true] at hedge;rcases hedge with hf | hf
     ·refine .inr fun H' nx' _ => ?_;rw [z0I (tm' := T) (fun t ht => z3V hr hlex ho _ (.inl ht)), z2U (H' := H) (nx' := nx) hf];exact (z3S (st := ⟨T, n, H, nx⟩)).trans hop
     ·refine .inl fun j hj hej => ?_;rw [List.all_eq_true] at hf;have := hf j hj;rw [hej] at this;simpa using this
    ·refine .inr fun H' nx' hK => ?_;rw [z0I (tm' := T) (fun t ht => z3V hr hlex ho _ (.inl ht))];exact (z3S (st := ⟨T, n, H, nx⟩)).trans (hst H' nx' hK)
 obtain ⟨v, hp, h2⟩ := key;refine ⟨zk T o.dst v, ⟨hi.size, hi.down, fun j hj => hi.unl j (List.mem_cons_of_mem _ hj), ?_, ?_, ?_, (List.nodup_cons.1 hi.nd).2, fun j hj => hi.lt j (List.mem_cons_of_mem _ hj), ?_, ?_⟩, h2⟩
 ·intro j hj;rcases hi.all j hj with h | h
  ·exact .inl (List.mem_cons_of_mem _ h)
  ·rcases List.mem_cons.1 h with rfl | h
   ·exact .inl List.mem_cons_self
   ·exact .inr h
 ·intro p hp j hj;rcases List.mem_cons.1 hp with rfl | hp
  ·exact (hl j hj).1
  ·exact hi.disj p hp j (List.mem_cons_of_mem _ hj)
 ·intro p hp j hj;rcases List.mem_cons.1 hp with rfl | hp
  ·exact (hl j hj).2
  ·exact hi.topo p hp j (List.mem_cons_of_mem _ hj)
 ·intro p hp2 hun;rcases List.mem_cons.1 hp2 with rfl | hp2
  ·exact ⟨o, ho, hp⟩
  ·obtain ⟨op, hop, hpe⟩ := hi.pend p hp2 hun;exact ⟨op, hop, zbj hr hone ho hop (hi.disj p hp2 i List.mem_cons_self) (hi.topo p hp2 i List.mem_cons_self) v (fun j hj => List.mem_cons_of_mem _ hj) List.mem_cons_self hpe (.inl ⟨rfl, rfl⟩)⟩
 ·intro t ht;have h0 := hi.eqv t (fun p op hop hp hun => ht p op hop (List.mem_cons_of_mem _ hp) hun);have hne := ht i o ho List.mem_cons_self (hi.unl i List.mem_cons_self);rw [h0];cases hod : o.dst with
  | none => rfl
  | some d =>
   have : t ≠ d := fun e => hne (by rw [hod, e]);simp only [zk, this, if_false]
theorem RInv.find (hr : z3k ops = true) (hlex : ∀ (i : Nat) (o : Oper), ops[i]? = some o → ∀ j, dep o j → j < i) (hone : ∀ (i j : Nat) (oi oj : Oper) (d : Tmp), ops[i]? = some oi → ops[j]? = some oj → oi.dst = some d → oj.dst = some d → i = j) {Q : ASt → Prop} {i : Nat} {o : Oper} (ho : ops[i]? = some o) (hall : ∀ j, dep o j → listed.getD j false = true) :
  ∀ (m : Nat) (L D : List Nat) (T : Nat → Value), RInv P ops acts K D L listed tm T n H nx → OpsR P W0 ops acts K m L ⟨T, n, H, nx⟩ Q → i ∈ L → ∃ m' D' L' T', RInv P ops acts K D' L' listed tm T' n H nx ∧ ((i ∈ D' ∧ OpsR P W0 ops acts K m' L' ⟨T', n, H, nx⟩ Q) ∨ (i ∈ L' ∧ z3O ops (L'.erase i) i = true ∧ ActStep P W0 ops acts K i ⟨T', n, H, nx⟩ fun s => OpsR P W0 ops acts K m' (L'.erase i) s Q)) := by
 intro m
 induction m with
 | zero =>
  intro L D T hi h hm;cases L with
  | nil => cases hm
  | cons k L => exact h.elim
 | succ m ih =>
  intro L D T hi h hm;cases L with
  | nil => cases hm
  | cons k L =>
   rcases h with ⟨_, hfr, h⟩ | h
   ·obtain ⟨T', hi', h'⟩ := hi.advance hr hlex hone hfr h;by_cases hk : k = i
    ·subst hk;exact ⟨m, _, _, T', hi', .inl ⟨List.mem_cons_self, h'⟩⟩
    ·have hm2 : i ∈ L := by
      rcases List.mem_cons.1 hm with e | hm
      ·exact absurd e.symm hk
      ·exact hm
     exact ih _ _ _ hi' h' hm2
   ·have hfr : z3O ops ((k :: L).erase i) i = true := z2D.2 fun j hj => by
     cases hd : z8z ops i j with
     | false => rfl
     | true =>
      have hjl := hi.unl j (List.mem_of_mem_erase hj);unfold z8z at hd;rw [ho] at hd;have := hall j (z0S.1 hd);rw [hjl] at this;cases this
    exact ⟨m, D, _, T, hi, .inr ⟨hm, hfr, h i hm hfr⟩⟩
theorem zbB {ρ : Option Nat} {C : Corr} {o : Oper} {f : FuncId} {args : List Value} {R : Value → Nat → Heap → Prop} {a : Act} {w : World} {i : Nat} {KK : Act → World → Prop} {Q : Exit → Act → World → Prop} (hs : SRel W0 C ⟨tm, n, H, nx⟩ a w) (hd : ∀ d, o.dst = some d → d < n) (hw : z1W ops tm o = true)
  (hc : z3R (evR (z3j o) tm) o = some (f, args)) (hf : z0U P f) (hcall : ACalls P W0 f args nx H R) (ho : ops[i]? = some o)
  (hk : ∀ v nx' H' C' v' w', R v nx' H' → SRel W0 C' ⟨zk tm o.dst v, n, H', nx'⟩ (a.put o.dst v') w' → Stp nx H C nx' H' C' → KK (a.put o.dst v') w') : wpOpIn (rf ρ) 0 P ops Q i KK a w := by
 have hww := z23 hs ops o;rw [← z0k] at hww;unfold wpOpIn;rw [ho];simp only [hww, hw, if_true];refine ⟨fun _ _ => trivial, ?_⟩;have hE' := z3C hs (zde _ _) hc;obtain ⟨args', hrun, hargs⟩ := z2W hs hE' hf;rw [z2X hE', hrun];refine ⟨fun h => (by cases h), z4k ((hcall C w args' hs.rel hargs).mono ?_)⟩;rintro e w'' ⟨v0, v', C', nx1, H1, rfl, hr, hR, hv, hS⟩;exact hk v0 nx1 H1 C' v' w'' hr (hs.put hd hR hS hv) hS
theorem zeQ (hr : z3k ops = true) (hlex : ∀ (i : Nat) (o : Oper), ops[i]? = some o → ∀ j, dep o j → j < i) (hone : ∀ (i j : Nat) (oi oj : Oper) (d : Tmp), ops[i]? = some oi → ops[j]? = some oj → oi.dst = some d → oj.dst = some d → i = j) {ρ : Option Nat} {nx0 : Nat} {H0 : Heap} {C0 : Corr} {df : List Deferred} {Q' : ASt → Prop} {Q : Exit → Act → World → Prop}
  (hq : ∀ T H nx C a w, Q' ⟨T, n, H, nx⟩ → SRel W0 C ⟨T, n, H, nx⟩ a w → Stp nx0 H0 C0 nx H C → a.defers = df → Q .normal a w) :
  ∀ (fuel : Nat) (listed : Array Bool) (tm : Nat → Value) (m : Nat) (D L : List Nat) (T : Nat → Value) (H : Heap) (nx : Nat) (C : Corr) (a : Act) (w : World), RInv P ops acts K D L listed tm T n H nx → ((List.range ops.size).filter fun i => !listed.getD i false).length = fuel →
   SRel W0 C ⟨tm, n, H, nx⟩ a w → Stp nx0 H0 C0 nx H C → a.defers = df → K nx H → OpsR P W0 ops acts K m L ⟨T, n, H, nx⟩ Q' → wpAnyIn (rf ρ) 0 P .any ops Q fuel listed a w := by
 intro fuel
 induction fuel with
 | zero =>
  intro listed tm m D L T H nx C a w hi hf hs hS hdf hK h
  have hall : ∀ i, i < ops.size → listed.getD i false = true := by
   intro i hlt;cases hl : listed.getD i false with
   | true => rfl
   | false =>
    have : i ∈ (List.range ops.size).filter fun i => !listed.getD i false := List.mem_filter.2 ⟨List.mem_range.2 hlt, by rw [hl]; rfl⟩;rw [List.length_eq_zero_iff.1 hf] at this;cases this
  refine ⟨?_, ?_⟩
  ·cases hrr : Region.ready .any ops listed with
   | nil => rfl
   | cons j r =>
    have hj : j ∈ Region.ready .any ops listed := by rw [hrr]; exact List.mem_cons_self ..
    obtain ⟨h0, o, ho, _⟩ := mem_ready.1 hj;have hlt : j < ops.size := (Array.getElem?_eq_some_iff.1 ho).1;have := hall j hlt;rw [z3m (by rw [hi.size]; exact hlt) false true, h0] at this;cases this
  ·cases L with
   | cons k L =>
    have := hi.unl k List.mem_cons_self;rw [hall k (hi.lt k List.mem_cons_self)] at this;cases this
   | nil =>
    have h : Q' ⟨T, n, H, nx⟩ := by cases m <;> exact h
    have htm : tm = T := by
     funext t;refine hi.eqv t fun p op hop hp hun => ?_;rw [hall p (Array.getElem?_eq_some_iff.1 hop).1] at hun;cases hun
    subst htm;exact hq _ _ _ C a w h hs hS hdf
 | succ fuel ih =>
  intro listed tm m D L T H nx C a w hi hf hs hS hdf hK h;refine ⟨?_, ?_⟩
  ·intro hrd;exfalso
   have hex : ∃ i, i < ops.size ∧ listed.getD i false = false ∧ ∀ j, j < i → listed.getD j false = true := by
    have : ∃ i, i < ops.size ∧ listed.getD i false = false := by
     cases hl : (List.range ops.size).filter fun i => !listed.getD i false with
     | nil => rw [hl] at hf; simp at hf
     | cons i r =>
      have : i ∈ (List.range ops.size).filter fun i => !listed.getD i false := by rw [hl]; exact List.mem_cons_self ..
      obtain ⟨h1, h2⟩ := List.mem_filter.1 this;exact ⟨i, List.mem_range.1 h1, by simpa using h2⟩
    obtain ⟨i, h1, h2⟩ := this
    induction i using Nat.strongRecOn with
    | _ i ihh =>
     by_cases hm : ∃ j, j < i ∧ listed.getD j false = false
     ·obtain ⟨j, hj1, hj2⟩ := hm;exact ihh j hj1 zom hj2
     ·refine ⟨i, h1, h2, fun j hj => ?_⟩;cases hl : listed.getD j false with
      | true => rfl
      | false => exact absurd ⟨j, hj, hl⟩ hm
   obtain ⟨i, hlt, hun, hmin⟩ := hex;have ho : ops[i]? = some ops[i] := by simp
   have : i ∈ Region.ready .any ops listed := mem_ready.2 ⟨by rw [z3m (by rw [hi.size]; exact hlt) true false]; exact hun, _, ho, fun e he hb => hmin _ (hlex i _ ho e.on ⟨e, he, hb, rfl⟩)⟩;rw [hrd] at this;cases this
  ·intro i hir;obtain ⟨h0, o, ho, hall0⟩ := mem_ready.1 hir;have hlt : i < ops.size := (Array.getElem?_eq_some_iff.1 ho).1;have hlts : i < listed.size := by rw [hi.size]; exact hlt
   have hun : listed.getD i false = false := by rw [z3m hlts false true]; exact h0
   have hall : ∀ j, dep o j → listed.getD j false = true := fun j ⟨e, he, hb, hj⟩ => hj ▸ hall0 e he hb
   have hcount : ((List.range ops.size).filter fun j => !(listed.setIfInBounds i true).getD j false).length = fuel := by
    have key : ∀ (l : List Nat), l.Nodup → i ∈ l → ((l.filter fun j => !(listed.setIfInBounds i true).getD j false).length + 1 = (l.filter fun j => !listed.getD j false).length) := by
     intro l
     induction l with
     | nil => intro _ hm; cases hm
     | cons x l ihl =>
      intro hnd hm;rw [List.nodup_cons] at hnd;by_cases e : x = i
      ·subst e
       have hsame : (l.filter fun j => !(listed.setIfInBounds x true).getD j false) = (l.filter fun j => !listed.getD j false) := by
        apply List.filter_congr;intro y hy;rw [getD_set_ne false (fun z : x = y => hnd.1 (by rw [z]; exact hy))]
       rw [List.filter_cons, List.filter_cons];simp only [z0r hlts, hun, Bool.not_true, Bool.not_false, Bool.false_eq_true, if_false, if_true, List.length_cons, hsame]
      ·have hm' : i ∈ l := by
        cases hm with
        | head => exact absurd rfl e
        | tail _ hm => exact hm
       have := ihl hnd.2 hm';rw [List.filter_cons, List.filter_cons, getD_set_ne false (Ne.symm e)];split
       ·simp only [List.length_cons]; omega
       ·exact this
    have := key (List.range ops.size) List.nodup_range (List.mem_range.2 hlt);omega
   have hdown' : ∀ (k : Nat) (ok : Oper), ops[k]? = some ok → (listed.setIfInBounds i true).getD k false = true → ∀ j, dep ok j → (listed.setIfInBounds i true).getD j false = true := by
    intro k ok hok hk j hj;apply getD_set_true;by_cases e : i = k
    ·subst e;rw [ho] at hok;cases hok;exact hall j hj
    ·rw [getD_set_ne false e] at hk;exact hi.down k ok hok hk j hj
   have hwalk : ∃ m' D' L' T', RInv P ops acts K D' L' listed tm T' n H nx ∧ ((i ∈ D' ∧ OpsR P W0 ops acts K m' L' ⟨T', n, H, nx⟩ Q') ∨ (i ∈ L' ∧ z3O ops (L'.erase i) i = true ∧ ActStep P W0 ops acts K i ⟨T', n, H, nx⟩ fun s => OpsR P W0 ops acts K m' (L'.erase i) s Q')) := by
    rcases hi.all i hlt with hD | hL
    ·exact ⟨m, D, L, T, hi, .inl ⟨hD, h⟩⟩
    ·exact RInv.find hr hlex hone ho hall m L D T hi h hL
   clear hi h T D L m;obtain ⟨m, D, L, T, hi, hcase⟩ := hwalk;have hrd : ∀ t, (t ∈ z3j o ∨ z6Q ops o = some t) → tm t = T t := fun t ht => hi.reads hr ho hall ht;rcases hcase with ⟨hD, h⟩ | ⟨hL, hfr, h⟩
   ·-- one that waits comes up
    obtain ⟨o', ho', hp⟩ := hi.pend i hD hun;rw [ho] at ho';cases ho';obtain ⟨p2, val, p3, p4⟩ := hp
    have hds : DStep P W0 ops tm n H nx o val H nx := by
     refine ⟨p2, ?_⟩;rw [z0l (tm' := T) (fun d hd => hrd d (.inr hd)), z0I (tm' := T) (fun t ht => hrd t (.inl ht))];rcases p4 with ⟨q1, q2⟩ | ⟨q1, q2, _⟩
     ·exact .inl ⟨q1, q2, rfl, rfl⟩
     ·exact .inr ⟨q1, .inl ⟨.none, q2, rfl, rfl⟩⟩
    refine hds.wp hs ho ?_;intro C' v' w' hs' hS';refine ih (listed.setIfInBounds i true) (zk tm o.dst val) m D L T H nx C' _ w' ⟨by simp [hi.size], hdown', ?_, hi.all, hi.disj, hi.topo, hi.nd, hi.lt, ?_, ?_⟩ hcount hs' (hS.trans hS') ((z1b _ _ _).trans hdf) hK h
    ·intro j hj;rw [getD_set_ne false (hi.disj i hD j hj)];exact hi.unl j hj
    ·intro p hp hpu;by_cases e : i = p
     ·subst e;rw [z0r hlts] at hpu;cases hpu
     ·rw [getD_set_ne false e] at hpu;exact hi.pend p hp hpu
    ·intro t ht;by_cases hdt : o.dst = some t
     ·simp only [zk, hdt, if_true];exact (p3 t hdt).symm
     ·have hb : tm t = T t := hi.eqv t fun p op hop hp hpu => by
       by_cases e : i = p
       ·subst e;rw [ho] at hop;cases hop;exact hdt
       ·exact ht p op hop hp (by rw [getD_set_ne false e]; exact hpu)
      rw [← hb];cases hod : o.dst with
      | none => rfl
      | some d =>
       have : t ≠ d := fun e => hdt (by rw [hod, e]);simp only [zk, this, if_false]
   ·-- one that acts
    obtain ⟨o', ho', hd, hE, h⟩ := h;rw [ho] at ho';cases ho';have hdn := z1c hd;have hmE : ∀ j ∈ L.erase i, j ∈ L := fun j hj => List.mem_of_mem_erase hj;have hl : ∀ j ∈ L.erase i, i ≠ j ∧ z8z ops i j = false := fun j hj => ⟨fun e => by subst e; exact absurd hj (fun hx => (hi.nd.mem_erase_iff.1 hx).1 rfl), z2D.1 hfr j hj⟩
    have hnodep : ∀ p ∈ D, listed.getD p false = false → zbL ops i p = false := by
     intro p hp hpu;cases hx : zbL ops i p with
     | false => rfl
     | true =>
      have := z6D hi.down ho hall hx;rw [hpu] at this;cases this
    have hnext : ∀ (v : Value) (H' : Heap) (nx' : Nat) (C' : Corr) (v' : Value) (w' : World), ((H' = H ∧ nx' = nx) ∨ K nx' H') → OpsR P W0 ops acts K m (L.erase i) ⟨zk T o.dst v, n, H', nx'⟩ Q' → SRel W0 C' ⟨zk tm o.dst v, n, H', nx'⟩ (a.put o.dst v') w' → Stp nx H C nx' H' C' → wpAnyIn (rf ρ) 0 P .any ops Q fuel (listed.setIfInBounds i true) (a.put o.dst v') w' := by
     intro v H' nx' C' v' w' hK' h' hs' hS';refine ih (listed.setIfInBounds i true) (zk tm o.dst v) m (i :: D) (L.erase i) (zk T o.dst v) H' nx' C' _ w' ⟨by simp [hi.size], hdown', ?_, ?_, ?_, ?_, hi.nd.erase i, fun j hj => hi.lt j (hmE j hj), ?_, ?_⟩ hcount hs' (hS.trans hS') ((z1b _ _ _).trans hdf) (by rcases hK' with ⟨rfl, rfl⟩ | hK'; exact hK; exact hK') h'
     ·intro j hj;rw [getD_set_ne false (hl j hj).1];exact hi.unl j (hmE j hj)
     ·intro j hj;rcases hi.all j hj with h | h
      ·exact .inl (List.mem_cons_of_mem _ h)
      ·by_cases e : j = i
       ·exact .inl (e ▸ List.mem_cons_self)
       ·exact .inr ((List.mem_erase_of_ne e).2 h)
     ·intro p hp j hj;rcases List.mem_cons.1 hp with rfl | hp
      ·exact (hl j hj).1
      ·exact hi.disj p hp j (hmE j hj)
     ·intro p hp j hj;rcases List.mem_cons.1 hp with rfl | hp
      ·exact (hl j hj).2
      ·exact hi.topo p hp j (hmE j hj)
     ·intro p hp hpu;rcases List.mem_cons.1 hp with rfl | hp
      ·rw [z0r hlts] at hpu;cases hpu
      ·have hne : i ≠ p := fun e => hi.disj p hp i hL e.symm;rw [getD_set_ne false hne] at hpu;obtain ⟨op, hop, hpe⟩ := hi.pend p hp hpu;refine ⟨op, hop, zbj hr hone ho hop (Ne.symm hne) (hi.topo p hp i hL) v hmE hL hpe ?_⟩;rcases hK' with hK' | hK'
       ·exact .inl hK'
       ·exact .inr ⟨hE, hnodep p hp hpu, hK'⟩
     ·intro t ht;by_cases hdt : o.dst = some t
      ·simp only [zk, hdt, if_true]
      ·have hb : tm t = T t := hi.eqv t fun p op hop hp hpu => ht p op hop (List.mem_cons_of_mem _ hp) (by
        have hne : i ≠ p := fun e => hi.disj p hp i hL e.symm;rw [getD_set_ne false hne]; exact hpu)
       cases hod : o.dst with
       | none => exact hb
       | some d =>
        have : t ≠ d := fun e => hdt (by rw [hod, e]);simp only [zk, this, if_false];exact hb
    have hwT : z1W ops tm o = z0X ops ⟨T, n, H, nx⟩ o := by
     rw [z0l (tm' := T) (fun d hd => hrd d (.inr hd))];exact z0k ⟨T, n, H, nx⟩ o
    have hevT : evR (z3j o) tm = evR (z3j o) T := z0I (fun t ht => hrd t (.inl ht));rcases h with ⟨hw, h⟩ | ⟨hw, ⟨v, e, hop, hKe, h⟩ | ⟨f, args, R, hc, hf2, hcall, h⟩⟩
    ·have hds : DStep P W0 ops tm n H nx o undef H nx := ⟨hdn, .inl ⟨hwT.trans hw, rfl, rfl, rfl⟩⟩;exact hds.wp hs ho fun C' v' w' hs' hS' => hnext undef H nx C' v' w' (.inl ⟨rfl, rfl⟩) h hs' hS'
    ·have hds : DStep P W0 ops tm n H nx o v (e.H nx H) (e.nx nx) := ⟨hdn, .inr ⟨hwT.trans hw, .inl ⟨e, by rw [hevT]; exact (z3S (st := ⟨T, n, H, nx⟩)).trans hop, rfl, rfl⟩⟩⟩;exact hds.wp hs ho fun C' v' w' hs' hS' => hnext v _ _ C' v' w' (.inr hKe) h hs' hS'
    ·refine zbB hs hdn (hwT.trans hw) (by rw [hevT]; exact (z3D (st := ⟨T, n, H, nx⟩)).trans hc) hf2 hcall ho ?_;intro v nx' H' C' v' w' hRv hs' hS';obtain ⟨hK', h'⟩ := h v nx' H' hRv;exact hnext v H' nx' C' v' w' (.inr hK') h' hs' hS'
theorem OpsR.drawn {id : Nat} {st : ASt} {Q : AExit → ASt → Prop} (acts : List Nat) (hm : P.follows .mixedOrders = true) (hs : z7b ops = true) (hr : z3k ops = true) (perm : List Nat) (hperm : ((List.range ops.size).all perm.contains && perm.all (fun i => decide (i < ops.size)) && decide perm.Nodup) = true) (h0 : K st.nx st.H) (h : OpsR P W0 ops acts K perm.length perm st (Q .normal)) : Trip P W0 (.region id ops true) st Q := by
 obtain ⟨b1, b2, _⟩ := z3w hs;simp only [Bool.and_eq_true, decide_eq_true_eq] at hperm;obtain ⟨⟨hp1, hp2⟩, hp3⟩ := hperm;intro ρ C a w hrr hss;have hs' : SRel W0 C st a w.drew := ⟨hss.tm, hss.sz, hss.rel.drew⟩
 have hfalse : ∀ i, (Array.replicate ops.size false).getD i false = false := fun i => by
  rw [Array.getD_eq_getD_getElem?, Array.getElem?_replicate]; split <;> rfl
 refine wpIn_region_any hm (zeQ (P := P) (W0 := W0) (K := K) (n := st.n) (nx0 := st.nx) (H0 := st.H) (C0 := C) (df := a.defers) (Q' := Q .normal) hr b1 b2 (fun T H nx C' a' w' hq hs' hS hdf => ⟨.normal, _, C', rfl, hq, hs', hS, rfl, .of_eq hdf⟩) ops.size (Array.replicate ops.size false) st.tm perm.length [] perm st.tm st.H st.nx C a _ ?_ ?_ hs' (Stp.refl _ _ _) rfl h0 h)
 ·refine ⟨by simp, fun i o _ hl => (by rw [hfalse] at hl; cases hl), fun i _ => hfalse i, fun i hi => .inr ?_, fun p hp => (by cases hp), fun p hp => (by cases hp), hp3, fun i hi => (by have := List.all_eq_true.1 hp2 i hi; simpa using this), fun i hi => (by cases hi), fun t _ => rfl⟩;have := List.all_eq_true.1 hp1 i (List.mem_range.2 hi);simpa using this
 ·have : ((List.range ops.size).filter fun i => !(Array.replicate ops.size false).getD i false) = List.range ops.size := by
   rw [List.filter_eq_self];intro i _;rw [hfalse]; rfl
  rw [this, List.length_range]
theorem OpsR.nil {m : Nat} {st : ASt} {Q : ASt → Prop} (h : Q st) : OpsR P W0 ops acts K m [] st Q := by cases m <;> exact h
theorem OpsR.one {m i : Nat} {l : List Nat} {o : Oper} {st : ASt} {Q : ASt → Prop} (ho : ops[i]? = some o) (hn : acts.contains i = false) (he : z29 o.op = false) (hk : (z3O ops l i && zbS ops acts i o l) = true) (h : OpsL P W0 ops [o] st fun s => OpsR P W0 ops acts K m l s Q) : OpsR P W0 ops acts K (m + 1) (i :: l) st Q := by
 rw [Bool.and_eq_true] at hk;obtain ⟨hd, h⟩ := h;refine .inl ⟨hn, hk.1, o, ho, hd, ?_⟩;rcases h with ⟨hw, h⟩ | ⟨hw, ⟨v, e, hop, h⟩ | ⟨f, args, R, hc, _⟩⟩
 ·exact .inl ⟨hw, h⟩
 ·have := z3d he hop;subst this;exact .inr ⟨hw, v, hop, .inl hk.2, h⟩
 ·have := z5q (z2u hc);rw [he] at this;cases this
theorem zA {m i : Nat} {l : List Nat} {d : Tmp} {op : Op} {type : TypeId} {pos : String} {after : Array Edge} {tm : Nat → Value} {n nx : Nat} {H : Heap} {v : Value} {Q : ASt → Prop} (ho : ops[i]? = some ⟨some d, op, type, pos, after, none⟩) (he : (!acts.contains i && z3O ops l i) = true) (hd : d < n) (hK : K nx H)
  (hop : ∀ H' nx', K nx' H' → aop P H' nx' (ASt.ev ⟨tm, n, H, nx⟩) ⟨some d, op, type, pos, after, none⟩ = some (v, .none)) (h : OpsR P W0 ops acts K m l ⟨zk tm (some d) v, n, H, nx⟩ Q) : OpsR P W0 ops acts K (m + 1) (i :: l) ⟨tm, n, H, nx⟩ Q := by
 simp only [Bool.and_eq_true, Bool.not_eq_true'] at he;exact .inl ⟨he.1, he.2, _, ho, by simp [z1f, hd], .inr ⟨rfl, v, hop H nx hK, .inr hop, h⟩⟩
def z7E (ops : Array Oper) (l all : List Nat) : Bool := l.all fun j => (all.erase j).any fun k => z8z ops j k
theorem z5F {l all : List Nat} (h : z7E ops l all = true) {j : Nat} (hj : j ∈ l) : z3O ops (all.erase j) j = false := by
 unfold z7E at h;rw [List.all_eq_true] at h;have := h j hj;rw [List.any_eq_true] at this;obtain ⟨k, hk, hd⟩ := this;cases hf : z3O ops (all.erase j) j with
 | false => rfl
 | true => rw [z2D.1 hf k hk] at hd; cases hd
theorem z05 {m i : Nat} {l : List Nat} {st : ASt} {Q : ASt → Prop} (hw : z7E ops l (i :: l) = true) (h : ActStep P W0 ops acts K i st fun s => OpsR P W0 ops acts K m l s Q) : OpsR P W0 ops acts K (m + 1) (i :: l) st Q := by
 refine .inr fun j hj hf => ?_;by_cases e : j = i
 ·subst e;rw [List.erase_cons_head];exact h
 ·have hj2 : j ∈ l := by
   rcases List.mem_cons.1 hj with h | h
   ·exact absurd h e
   ·exact h
  rw [z5F hw hj2] at hf;cases hf
theorem zY {m i k : Nat} {l : List Nat} {st : ASt} {Q : ASt → Prop} (hw : (z7E ops l (i :: k :: l) && !Nat.beq i k) = true) (h1 : ActStep P W0 ops acts K i st fun s => OpsR P W0 ops acts K m (k :: l) s Q) (h2 : ActStep P W0 ops acts K k st fun s => OpsR P W0 ops acts K m (i :: l) s Q) : OpsR P W0 ops acts K (m + 1) (i :: k :: l) st Q := by
 simp only [Bool.and_eq_true, Bool.not_eq_true'] at hw;have hne : k ≠ i := fun e => by have := hw.2; rw [e] at this; simp at this
 refine .inr fun j hj hf => ?_;by_cases e : j = i
 ·subst e;rw [List.erase_cons_head];exact h1
 ·by_cases e2 : j = k
  ·subst e2;rw [List.erase_cons_tail (by simpa using Ne.symm hne), List.erase_cons_head];exact h2
  ·have hj2 : j ∈ l := by
    rcases List.mem_cons.1 hj with h | h
    ·exact absurd h e
    ·rcases List.mem_cons.1 h with h | h
     ·exact absurd h e2
     ·exact h
   rw [z5F hw.1 hj2] at hf;cases hf
section
variable {i : Nat} {d : Tmp} {ts : Array TypeId} {type : TypeId} {pos : String} {after : Array Edge} {tm : Nat → Value} {n nx : Nat} {H : Heap} {f : FuncId} {R : Value → Nat → Heap → Prop} {N : ASt → Prop}
theorem z0v {c x : Operand} {a : Value} (ho : ops[i]? = some ⟨some d, .call ⟨.value c, #[x], ts⟩, type, pos, after, none⟩) (he : acts.contains i = true) (hd : d < n) (hf' : ASt.ev ⟨tm, n, H, nx⟩ c = some (.func (.func f) #[] #[])) (hx : ASt.ev ⟨tm, n, H, nx⟩ x = some a) (hf : z0U P f) (hcall : ACalls P W0 f [a] nx H R)
  (h : ∀ v nx' H', R v nx' H' → K nx' H' ∧ N ⟨zk tm (some d) v, n, H', nx'⟩) : ActStep P W0 ops acts K i ⟨tm, n, H, nx⟩ N :=
 ⟨_, ho, by simp [z1f, hd], he, .inr ⟨rfl, .inr ⟨f, [a], R, by simp [z0W, hf', z0C, hx], hf, hcall, h⟩⟩⟩
theorem zW {c x y : Operand} {a b : Value} (ho : ops[i]? = some ⟨some d, .call ⟨.value c, #[x, y], ts⟩, type, pos, after, none⟩) (he : acts.contains i = true) (hd : d < n) (hf' : ASt.ev ⟨tm, n, H, nx⟩ c = some (.func (.func f) #[] #[])) (hx : ASt.ev ⟨tm, n, H, nx⟩ x = some a) (hy : ASt.ev ⟨tm, n, H, nx⟩ y = some b) (hf : z0U P f) (hcall : ACalls P W0 f [a, b] nx H R)
  (h : ∀ v nx' H', R v nx' H' → K nx' H' ∧ N ⟨zk tm (some d) v, n, H', nx'⟩) : ActStep P W0 ops acts K i ⟨tm, n, H, nx⟩ N :=
 ⟨_, ho, by simp [z1f, hd], he, .inr ⟨rfl, .inr ⟨f, [a, b], R, by simp [z0W, hf', z0C, hx, hy], hf, hcall, h⟩⟩⟩
end
end
end Go.Am
namespace Go.Am
open Go.RowKit Go.ChangeShapes Go.WideShapes Go.ChangeAt
section
variable {H : Type} {enc : TypeId × Value → H} {P : Program} {W W' : World}
theorem z89 (hl : laidOutB P = true) (hb : BelD W.heap.size W W') : ∀ (ts : List TypeId) (vs : List Value) (ds : List (DataW H)) (ps : List MemPlace), (ts.all fun t => P.readableRec t && decide (t < P.types.size)) = true →
  DataW.TrodAll enc P W 0 (fun _ => true) true ts vs ds ps → (∀ x ∈ ps, x.block < W.heap.size) → DataW.TrodAll enc P W' 0 (fun b => decide (b < W.heap.size)) true ts vs ds ps := by
 intro ts
 induction ts with
 | nil =>
  intro vs ds ps _ h _;cases vs <;> cases ds <;> first | exact h | exact h.elim
 | cons t ts ih =>
  intro vs ds ps hr h hlt;simp only [List.all_cons, Bool.and_eq_true, decide_eq_true_eq] at hr;obtain ⟨v, vs', d, ds', p, q, rfl, rfl, rfl, h0, h1⟩ := trodAll_cons h;exact trodAll_cons_mk (Below.trod hl hr.1.1 hr.1.2 h0 hb.toB (fun x hx => hlt x (List.mem_append.2 (.inl hx)))) (ih vs' ds' q hr.2 h1 (fun x hx => hlt x (List.mem_append.2 (.inr hx))))
theorem zeY {f : Func} {s : ChangeSpec} {t : TypeId} {args : Array Value} {ds gs : List (DataW H)} {before : List MemPlace} (hl : laidOutB P = true) (hr : (f.params.toList.all fun t => P.readableRec t && decide (t < P.types.size)) = true)
  (hrt : f.resultTypes = #[t]) (ht : P.underlying t = some .bool) (hvars : s.vars = []) (hW : DataW.Whole enc P f.params.toList s.vars false W args.toList ds gs before)
  (hspec : s.fn H (ds ++ gs) = { results := [.lit (.bool true)], args := ds }) (hb : BelD W.heap.size W W') : s.post enc P f false true false false W args (.bool true) W' := by
 have hW' := hW;obtain ⟨p, q, hA, hV, rfl, _, _⟩ := hW;have hlt : ∀ x ∈ p, x.block < W.heap.size := fun x hx => hW'.lt x (List.mem_append.2 (.inl hx));rw [hvars] at hV;obtain ⟨rfl, rfl⟩ := trodVars_none hV;refine ⟨ds, [], _, [], p, [], hW', ?_, ?_, ?_, hb.toB.frame _, fun h => by cases h⟩
 ·rw [hspec, hrt];exact trodAll_mk1 (shut_bool ht _)
 ·rw [hspec];exact z89 hl hb _ _ _ _ hr hA hlt
 ·rw [hspec, hvars]; rfl
end
end Go.Am
namespace Go.Am
open Go.RowKit Go.ChangeShapes Go.WideShapes Go.ChangeAt
inductive Arg where
 | plain (v : Value)
 | ints (k : IntKind) (xs : List Int)
def NumsAt (H : Heap) (k : IntKind) (v : Value) (xs : List Int) : Prop :=
 (∃ c, v = .slice none 0 c ∧ xs = []) ∨ ∃ a c, v = .slice (some a) xs.length c ∧ ∀ (i : Nat) (h : i < xs.length), zj H ⟨a.block, a.off + i, a.spot⟩ (.int k xs[i])
def ziC (H : Heap) (v : Value) : Prop := v = .slice none 0 0 ∨ ∃ k n c cs, v = .slice (some ⟨k, 0, none⟩) n c ∧ H k = some (.cells cs 1 none true none) ∧ cs.length = c ∧ n ≤ c
def z65 (W : World) : Arg → Value → Prop
 | .plain u, v => v = u ∧ zL u = true
 | .ints k xs, v => (v = .slice none 0 0 ∧ xs = []) ∨ ∃ (b off len cap : Nat) (zs : List Int) (Cc : Array Value) (el : TypeId) (fr : Nat × Nat), v = .slice (some ⟨b, off, none⟩) len cap ∧ len ≤ cap ∧ zs.length = cap ∧ xs = zs.take len ∧
   W.heap[b]? = some (.cells Cc el fr) ∧ off + cap ≤ Cc.size ∧ ∀ i, i < cap → Cc[off + i]? = some (.int k (zs.getD i 0))
def Arg.at (H : Heap) : Arg → Value → Prop
 | .plain u, v => v = u
 | .ints k xs, v => NumsAt H k v xs ∧ ziC H v
def All2 {α β : Type} (R : α → β → Prop) : List α → List β → Prop
 | [], [] => True
 | a :: l, b :: l' => R a b ∧ All2 R l l'
 | _, _ => False
theorem All2.cons {α β : Type} {R : α → β → Prop} {a : α} {l : List α} {us : List β} (h : All2 R (a :: l) us) : ∃ b us', us = b :: us' ∧ R a b ∧ All2 R l us' := by
 cases us with
 | nil => exact h.elim
 | cons b us => exact ⟨b, us, rfl, h.1, h.2⟩
theorem All2.nil {α β : Type} {R : α → β → Prop} {us : List β} (h : All2 R [] us) : us = [] := by
 cases us with
 | nil => rfl
 | cons b us => exact h.elim
section
variable {P : Program} {W0 : World} {C : Corr} {nx : Nat} {H : Heap} {w : World}
theorem Rel.read (h : Rel W0 C nx H w) (hpn : ∀ k, C.pin k = none) (hro : ∀ id o, H id = some o → o.ro = true) {c : List Value} {b off : Nat} {Cc : Array Value} {el : TypeId} {fr : Nat × Nat} (hw : w.heap[b]? = some (.cells Cc el fr)) (hle : off + c.length ≤ Cc.size)
  (hp : c.all zL = true) (hc : ∀ i, i < c.length → Cc[off + i]? = c[i]?) :
  Rel W0 (C.put nx (b, off) Cc.size) (nx + 1) (H.put nx (.cells c 1 none true none)) w ∧ Stp nx H C (nx + 1) (H.put nx (.cells c 1 none true none)) (C.put nx (b, off) Cc.size) := by
 have hst : Stp nx H C (nx + 1) (H.put nx (.cells c 1 none true none)) (C.put nx (b, off) Cc.size) := ⟨⟨zom, fun id o' hid ho' ht => by
  have : id ≠ nx := by omega
  simp only [Heap.put, this, if_false] at ho';exact ⟨o', ho', rfl, rfl, by simp [Corr.put, this], by simp [Corr.put, this]⟩⟩, fun _ _ x => x, fun id hid hl => by
  have : id ≠ nx := by omega
  simp only [Heap.put, this, if_false];exact ⟨hl, by simp [Corr.put, this]⟩⟩
 have hro' : ∀ id o, (H.put nx (.cells c 1 none true none)) id = some o → o.ro = true := by
  intro id o ho;by_cases e : id = nx
  ·simp only [Heap.put, e, if_true, Option.some.injEq] at ho; subst ho; rfl
  ·simp only [Heap.put, e, if_false] at ho; exact hro id o ho
 refine ⟨⟨h.below, ?_, ?_, ?_, ?_, h.pin, Nat.le_succ_of_le h.base, fun g og hg hog => ?_, fun _ _ _ => hpn _⟩, hst⟩
 ·intro id o' ho';by_cases e : id = nx
  ·subst e;simp only [Heap.put, if_true, Option.some.injEq] at ho';subst ho';exact ⟨zom, fun t ht => by cases ht⟩
  ·simp only [Heap.put, e, if_false] at ho';obtain ⟨a, b⟩ := h.lt id o' ho';exact ⟨zom, fun t ht => by have := b t ht; omega⟩
 ·intro id o' ho';by_cases e : id = nx
  ·subst e;simp only [Heap.put, if_true, Option.some.injEq] at ho';subst ho';refine ⟨Cc, el, fr, by simpa [Corr.put] using hw, by simp [Corr.put], by simpa [Corr.put] using hle, ?_, ⟨fun hh => (by cases hh), fun t ht => (by cases ht), fun hh => (by cases hh), fun hh => (by cases hh)⟩⟩;intro i hi hi';simp only [Corr.put, if_true] at hi' ⊢;have := hc i hi;rw [Array.getElem?_eq_getElem hi', List.getElem?_eq_getElem hi, Option.some.injEq] at this;rw [this];exact z1S (List.all_eq_true.1 hp _ (List.getElem_mem hi))
  ·simp only [Heap.put, e, if_false] at ho';exact (h.obj id o' ho').mono hst (by simp [Corr.put, e]) (by simp [Corr.put, e]) rfl
 ·intro id o' ho' hh;rw [hro' id o' ho'] at hh; cases hh
 ·intro i j oi oj hi _ _ hh;rw [hro' i oi hi] at hh; cases hh
 ·have e : g ≠ nx := by have := h.base; omega
  simp only [Heap.put, e, if_false] at hog;simpa [Corr.put, e] using h.glob g og hg hog
theorem NumsAt.mono {H' : Heap} {k : IntKind} {v : Value} {xs : List Int} (hh : ∀ id o, H id = some o → H' id = some o) (h : NumsAt H k v xs) : NumsAt H' k v xs := by
 rcases h with h | ⟨a, c, rfl, h⟩
 ·exact .inl h
 ·refine .inr ⟨a, c, rfl, fun i hi => ?_⟩;have h1 := h i hi;obtain ⟨o, ho⟩ := z1T h1;unfold zj z0M at *;rw [hh _ _ ho];rw [ho] at h1;exact h1
theorem Arg.at_mono {H' : Heap} (hh : ∀ id o, H id = some o → H' id = some o) : ∀ {a : Arg} {v : Value}, a.at H v → a.at H' v := by
 intro a v h;cases a with
 | plain u => exact h
 | ints k xs =>
  refine ⟨h.1.mono hh, ?_⟩;rcases h.2 with h | ⟨k, n, c, cs, h1, h2, h3⟩
  ·exact .inl h
  ·exact .inr ⟨k, n, c, cs, h1, hh _ _ h2, h3⟩
theorem All2.at_mono {H' : Heap} (hh : ∀ id o, H id = some o → H' id = some o) : ∀ {aas : List Arg} {vs : List Value}, All2 (Arg.at H) aas vs → All2 (Arg.at H') aas vs := by
 intro aas
 induction aas with
 | nil => intro vs h; cases vs <;> first | trivial | exact h.elim
 | cons a aas ih =>
  intro vs h;cases vs with
  | nil => exact h.elim
  | cons v vs => exact ⟨Arg.at_mono hh h.1, ih h.2⟩
theorem zir {T : z7f} (W : World) (hT : Tabs T W) : ∀ (aas : List Arg) (vs : List Value), All2 (z65 W) aas vs → ∃ nx H C us, Rel W C nx H W ∧ VRs nx H C us vs ∧ All2 (Arg.at H) aas us ∧ (∀ id o, H id = some o → o.ro = true) ∧ (∀ k, C.pin k = none) ∧ ∀ g o, (z2z T).get g = some o → H g = some o := by
 intro aas
 induction aas with
 | nil =>
  intro vs h;cases vs with
  | nil => exact ⟨NG, (z2z T).get, z3v W, [], z86 hT (BelD.refl _ _), VRs.nil, trivial, fun _ _ h => (by obtain ⟨c, _, rfl⟩ := z24 h; rfl), fun _ => rfl, fun _ _ h => h⟩
  | cons => exact h.elim
 | cons a aas ih =>
  intro vs h;cases vs with
  | nil => exact h.elim
  | cons v vs =>
   obtain ⟨nx, H, C, us, hR, hV, hA, hro, hpn, htb⟩ := ih vs h.2;have hlt := fun id o (ho : H id = some o) => (hR.lt id o ho).1;have h1 := h.1;cases a with
   | plain u =>
    obtain ⟨rfl, hp⟩ := h1;exact ⟨nx, H, C, v :: us, hR, VRs.cons (z1S hp) hV, ⟨rfl, hA⟩, hro, hpn, htb⟩
   | ints k xs =>
    rcases h1 with ⟨rfl, rfl⟩ | ⟨b, off, len, cap, zs, Cc, el, fr, rfl, hlc, hz, rfl, hw, hle, hc⟩
    ·exact ⟨nx, H, C, .slice none 0 0 :: us, hR, VRs.cons (.nils _ _) hV, ⟨⟨.inl ⟨0, rfl, rfl⟩, .inl rfl⟩, hA⟩, hro, hpn, htb⟩
    ·obtain ⟨hR', hS⟩ := hR.read hpn hro (c := zs.map (.int k ·)) hw (by simpa [hz] using hle) (by simp [zL]) (fun i hi => by
      simp only [List.length_map, hz] at hi;rw [hc i hi, List.getElem?_map, List.getElem?_eq_getElem zom];simp [List.getD_eq_getElem?_getD, List.getElem?_eq_getElem (show i < zs.length by omega)])
     have hext : ∀ id o, H id = some o → (H.put nx (.cells (zs.map (.int k ·)) 1 none true none)) id = some o := fun id o ho => by
      have : id ≠ nx := by have := hlt id o ho; omega
      simp only [Heap.put, this, if_false]; exact ho
     refine ⟨nx + 1, _, _, .slice (some ⟨nx, 0, none⟩) len cap :: us, hR', VRs.cons ?_ (hV.mono hS), ⟨⟨.inr ⟨⟨nx, 0, none⟩, cap, by simp [hz]; omega, ?_⟩, .inr ⟨nx, len, cap, zs.map (.int k ·), rfl, by simp [Heap.put], by simpa using hz, hlc⟩⟩, hA.at_mono hext⟩, ?_, hpn, fun g o hg => hext g o (htb g o hg)⟩
     ·exact .slc _ _ _ _ _ ⟨by simp, by simp⟩ (fun o ho _ => ⟨by simp [Corr.at, Corr.put], by simp [z32]⟩)
     ·intro i hi;simp only [List.length_take, hz] at hi;have hi' : i < zs.length := by omega
      simp [zj, z0M, Heap.put, hi', List.getElem_take];refine ⟨zom, ?_⟩;rw [← List.map_drop, ← List.map_take, List.take_one, List.head?_drop, List.getElem?_eq_getElem hi'];rfl
     ·intro id o ho;by_cases e : id = nx
      ·simp only [Heap.put, e, if_true, Option.some.injEq] at ho; subst ho; rfl
      ·simp only [Heap.put, e, if_false] at ho; exact hro id o ho
theorem zc7 {T : z7f} {f : FuncId} {ars : List Arg} {vs : List Value} {W : World} (hT : Tabs T W) (hc : All2 (z65 W) ars vs)
  (h : ∀ nx H us, All2 (Arg.at H) ars us → (∀ id o, H id = some o → id < nx) → (∀ g o, (z2z T).get g = some o → H g = some o) → ACalls P W f us nx H fun v _ _ => v = .bool true) :
  Calls P f vs.toArray W fun e w' => e = .returned (.bool true) ∧ BelD W.heap.size W w' := by
 obtain ⟨nx, H, C, us, hR, hV, hA, _, _, htb⟩ := zir W hT ars vs hc;refine (h nx H us hA (fun id o ho => (hR.lt id o ho).1) htb C W vs hR hV).mono ?_;rintro e w' ⟨v, v', C', nx', H', rfl, rfl, hR', hv, _⟩;cases hv;exact ⟨rfl, hR'.below⟩
theorem zdU {f : FuncId} {ars : List Arg} {vs : List Value} {W : World} (hc : All2 (z65 W) ars vs) (h : ∀ nx H us, All2 (Arg.at H) ars us → (∀ id o, H id = some o → id < nx) → ACalls P W f us nx H fun v _ _ => v = .bool true) :
  Calls P f vs.toArray W fun e w' => e = .returned (.bool true) ∧ BelD W.heap.size W w' :=
 zc7 Tabs.nil hc fun nx H us h1 h2 _ => h nx H us h1 h2
theorem zeL {fits : TypeId → Bool} : ∀ (d : Nat) (e : TypeId) (count off n : Nat), rowAt P fits d e count off n = true → P.cellsOf e ≠ 0 ∧ off ≤ count * P.cellsOf e := by
 intro d;cases d with
 | zero => intro e count off n h; cases h
 | succ d =>
  intro e count off n h;simp only [rowAt] at h;split at h
  ·cases h
  ·rename_i hs;refine ⟨hs, ?_⟩;have hd := Nat.div_add_mod off (P.cellsOf e);simp only [Bool.or_eq_true, Bool.and_eq_true, beq_iff_eq, decide_eq_true_eq] at h;rcases h with ⟨⟨h1, h2⟩, _⟩ | ⟨h1, _⟩
   ·have := Nat.mul_le_mul_right (P.cellsOf e) (show off / P.cellsOf e ≤ count by omega);rw [h1, Nat.mul_comm] at hd;omega
   ·have := Nat.mul_le_mul_right (P.cellsOf e) (show off / P.cellsOf e + 1 ≤ count by omega);have hm := Nat.mod_lt off (Nat.pos_of_ne_zero hs);rw [Nat.add_mul, Nat.mul_comm (off / _)] at this;omega
theorem zdS : ∀ (d : Nat) (e : TypeId) (count off : Nat) (u : TypeId) (n : Nat), liesAt P d e count off u n = true → off ≤ count * P.cellsOf e := by
 intro d
 induction d with
 | zero => intro e count off u n h; cases h
 | succ d ih =>
  intro e count off u n h;simp only [liesAt, Bool.or_eq_true] at h;rcases h with h | h
  ·exact (zeL _ _ _ _ _ h).2
  ·split at h
   ·exact ih _ _ _ _ _ h
   ·cases h
variable {E : Type} {enc : TypeId × Value → E} {W : World}
end
end Go.Am
namespace Go.Am
open Go.RowKit
theorem zh {nx : Nat} {H : Heap} {o : AObj} : Ext nx H (nx + 1) (H.put nx o) := (Ext.refl.up (Nat.le_succ _)).put (Nat.le_refl _)
theorem zF {H : Heap} {nx : Nat} {o : AObj} (hok : ∀ id o, H id = some o → id < nx) : ∀ id o', (H.put nx o) id = some o' → id < nx + 1 := fun id o' h => by
 by_cases hi : id = nx
 ·omega
 ·rw [za hi] at h;have := hok id o' h;omega
def RowsAt {α : Type} (enc : α → List Value) (sz : Nat) (H : Heap) (v : Value) (l : List α) : Prop :=
 (∃ c, v = .slice none 0 c ∧ l = []) ∨ ∃ a c, v = .slice (some a) l.length c ∧ ∀ (i : Nat) (h : i < l.length), z0M H ⟨a.block, a.off + i * sz, a.spot⟩ sz = some (enc l[i])
section
variable {α : Type} {enc : α → List Value} {sz : Nat} {H H' : Heap} {nx nx' : Nat} {v : Value} {l : List α}
theorem RowsAt.ext (h : Ext nx H nx' H') (hok : ∀ id o, H id = some o → id < nx) (hr : RowsAt enc sz H v l) : RowsAt enc sz H' v l := by
 rcases hr with h1 | ⟨a, c, rfl, hs⟩
 ·exact .inl h1
 ·exact .inr ⟨a, c, rfl, fun i hi => z1O h hok (hs i hi)⟩
theorem RowsAt.slice (h : RowsAt enc sz H v l) : ∃ a c, v = .slice a l.length c := by
 rcases h with ⟨c, rfl, rfl⟩ | ⟨a, c, rfl, _⟩
 ·exact ⟨none, c, rfl⟩
 ·exact ⟨some a, c, rfl⟩
theorem z5V (hk : ∀ x, (enc x).length = sz) (h0 : 0 < sz) (h : RowsAt enc sz H v l) : z3G H sz v none = some (l.length, l.flatMap enc) := by
 rcases h with ⟨c, rfl, rfl⟩ | ⟨a, c, rfl, hs⟩
 ·rfl
 ·by_cases hl : l.length = 0
  ·have : l = [] := List.eq_nil_of_length_eq_zero hl;subst this;show (if 0 * sz = 0 then some (0, []) else _) = _;rw [if_pos zom];rfl
  ·have key : ∀ m (hm : m ≤ l.length), z0M H a (m * sz) = some ((l.take m).flatMap enc) := by
    intro m
    induction m with
    | zero =>
     intro _;have h1 := hs 0 zom;unfold z0M at h1 ⊢;split at h1
     ·rename_i c' e t r q ho;simp only [ho];split at h1
      ·rename_i hc;simp only [Nat.zero_mul, Nat.add_zero] at hc ⊢;rw [if_pos ⟨hc.1, zom⟩];rfl
      ·cases h1
     all_goals cases h1
    | succ m ih =>
     intro hm;have h1 := hs m zom;have h2 := ih zom;unfold z0M at h1 h2 ⊢;split at h1
     ·rename_i c' e t r q ho;simp only [ho] at h2 ⊢;split at h1
      ·rename_i hc;split at h2
       ·rw [if_pos ⟨hc.1, by have := hc.2; simp only at this; rw [Nat.add_mul]; omega⟩];simp only [Option.some.injEq] at h1 h2 ⊢;rw [Nat.add_mul, Nat.one_mul, List.take_add, h2, List.drop_drop, h1, List.take_add_one (l := l) (i := m), List.getElem?_eq_getElem (by omega : m < l.length)];show _ = (l.take m ++ [l[m]]).flatMap enc;rw [List.flatMap_append];simp
       ·cases h2
      ·cases h1
     all_goals cases h1
   show (if l.length * sz = 0 then some (l.length, []) else (z0M H a (l.length * sz)).map (l.length, ·)) = _;have : l.length * sz ≠ 0 := Nat.mul_ne_zero hl zom;rw [if_neg this, key l.length (Nat.le_refl _), List.take_length];rfl
theorem z0i (hk : ∀ x, (enc x).length = sz) (l : List α) : (l.flatMap enc).length = l.length * sz := by
 induction l with
 | nil => simp
 | cons x l ih => simp only [List.flatMap_cons, List.length_append, hk, ih, List.length_cons, Nat.add_mul]; omega
theorem z5k (hk : ∀ x, (enc x).length = sz) : ∀ (l : List α) (i : Nat) (h : i < l.length), ((l.flatMap enc).drop (i * sz)).take sz = enc l[i] := by
 intro l
 induction l with
 | nil => intro i h; simp at h
 | cons x l ih =>
  intro i h;cases i with
  | zero => simp [← hk x]
  | succ i =>
   rw [List.flatMap_cons, Nat.add_mul, Nat.one_mul, Nat.add_comm, ← List.drop_drop, List.drop_append_of_le_length (by rw [hk]; exact Nat.le_refl _)];rw [show (enc x).drop sz = [] by rw [List.drop_eq_nil_of_le]; rw [hk]; exact Nat.le_refl _];simpa using ih i (by simpa using h)
def OwnOf (enc : α → List Value) (sz : Nat) (el : TypeId) (H : Heap) (ob : Option (Nat × Nat)) (v : Value) (l : List α) : Prop := OwnRow H ob el sz v (l.flatMap enc) l.length
theorem OwnOf.at (hk : ∀ x, (enc x).length = sz) {el : TypeId} {ob : Option (Nat × Nat)} (h : OwnOf enc sz el H ob v l) : RowsAt enc sz H v l := by
 cases ob with
 | none =>
  obtain ⟨rfl, _, h2⟩ := h;exact .inl ⟨0, rfl, List.eq_nil_of_length_eq_zero h2⟩
 | some bt =>
  obtain ⟨b, t⟩ := bt;obtain ⟨rfl, _, rest, ho⟩ := h;refine .inr ⟨⟨b, 0, some t⟩, l.length, rfl, fun i hi => ?_⟩;have hfl := z0i hk l;have : (i + 1) * sz ≤ l.length * sz := Nat.mul_le_mul_right sz hi;rw [Nat.add_mul, Nat.one_mul] at this;unfold z0M;simp only [ho, Nat.zero_add];rw [if_pos ⟨trivial, by rw [List.length_append, hfl]; omega⟩, List.drop_append_of_le_length (by rw [hfl]; omega), List.take_append_of_le_length (by rw [List.length_drop, hfl]; omega), z5k hk l i hi]
theorem OwnOf.ext {el : TypeId} {ob : Option (Nat × Nat)} (hx : Ext nx H nx' H') (hlt : ∀ b t, ob = some (b, t) → b < nx) (h : OwnOf enc sz el H ob v l) : OwnOf enc sz el H' ob v l := OwnRow.ext hx hlt h
end
structure AppO {α : Type} (enc : α → List Value) (sz : Nat) (el : TypeId) (nx : Nat) (H : Heap) (ob : Option (Nat × Nat)) (l : List α) (v' : Value) (nx' : Nat) (H' : Heap) (ob' : Option (Nat × Nat)) : Prop where
 own : OwnOf enc sz el H' ob' v' l
 blk : ∀ b' t', ob' = some (b', t') → b' < nx' ∧ (b' = nx ∨ ∃ t, ob = some (b', t))
 le : nx ≤ nx'
 same : ∀ i, i < nx → (∀ b t, ob = some (b, t) → i ≠ b) → H' i = H i
 ok : (∀ b t, ob = some (b, t) → b < nx) → (∀ id o, H id = some o → id < nx) → ∀ id o, H' id = some o → id < nx'
section
variable {P : Program} {W0 : World} {H : Heap} {nx n : Nat} {ev : Operand → Option Value} {dst : Option Tmp} {type : TypeId} {pos : String} {after : Array Edge} {guard : Option (Nat × Bool)} {ops : Array Oper} {l : List Oper} {tm : Nat → Value} {QQ : ASt → Prop} {d : Tmp}
theorem z4b {t e : TypeId} {x : Operand} {k c : Nat} (hx : ev x = some (.slice none k c)) (hu : P.underlying t = some (.slice e)) : aop P H nx ev ⟨dst, .call ⟨.builtin .cap, #[x], #[t]⟩, type, pos, after, guard⟩ = some (.int .i64 c, .none) := by
 simp [aop, z0C, hx, z0G, zic, hu]
theorem z4E {st xt el : TypeId} {kd : IntKind} {k size bytes : Nat} {z : List Value} {x y : Operand} (hx : ev x = some (.slice none 0 0)) (hy : ev y = some (.int .i64 k)) (hst : P.underlying st = some (.slice el)) (hxt : P.underlying xt = some (.int kd)) (hs : z1F P el = some size) (hb : z0q P el = some bytes) (hz : z0B P el = some z) (hzl : z.length = size) (hk : 0 < k) (hle : k ≤ 1099511627776) (hle2 : (2 * k + 192) * bytes ≤ 281474976710656) :
  aop P H nx ev ⟨dst, .call ⟨.builtin .append, #[x, y], #[st, xt]⟩, type, pos, after, guard⟩ = some (.slice (some ⟨nx, 0, some nx⟩) k k, .new (.cells (z0t z k) size (some nx) false (some el))) := by
 have h0 : ¬ ((k : Int) = 0) := by omega
 have h1 : (k : Int) ≤ 1099511627776 := by omega
 have hn : z35 (.int kd) = false := rfl;simp [aop, z0C, hx, hy, z0G, z2B, z64, hst, hxt, hs, hb, hz, hzl, hn, h1, hle2, show k ≠ 0 by omega]
theorem zd0 {A : Prop} (h : A := by
 have hsrc := z5V hk h0 hu
 have hall : ∀ l : List α, (l.flatMap enc).all (·.oneCell') = true := fun l => by
  rw [List.all_eq_true];intro v hv;obtain ⟨x, _, hx⟩ := List.mem_flatMap.1 hv;exact List.all_eq_true.1 (h1 x) v hx
 have hm1 : (2 * (zs.length + us.length) + 192) * bytes ≤ 281474976710656 := by
  have : (2 * (zs.length + us.length) + 192) * bytes ≤ (2 * (zs.length + us.length) + 192) * 1000 := Nat.mul_le_mul_left _ hbl;omega
 by_cases hl0 : us.length = 0
 ·have : us = [] := List.eq_nil_of_length_eq_zero hl0;subst this
  have hop : aop P H nx (ASt.ev ⟨tm, n, H, nx⟩) ⟨some d, .call ⟨.builtin .append, #[x, y], #[st, xt]⟩, type, pos, after, none⟩ = some (v, .none) := by
   cases ob with
   | none =>
    obtain ⟨rfl, _, hz0⟩ := h;simp [aop, hx, hy, z0C, z0G, z2B, hst, hxt, hsz, hby, hz, hzl, hsrc, show z35 (.slice el) = true from rfl]
   | some bt =>
    obtain ⟨b, t⟩ := bt;obtain ⟨rfl, hc', rest, ho⟩ := h;simp [aop, hx, hy, z0C, z0G, z2B, hst, hxt, hsz, hby, hz, hzl, hsrc, ho, show z35 (.slice el) = true from rfl]
  refine z1j hd hop (hc v nx H ob ⟨by rw [List.append_nil]; exact h, fun b' t' e => ⟨hb b' t' e, .inr ⟨t', e⟩⟩, Nat.le_refl _, fun _ _ _ => rfl, fun _ h => h⟩)
 ·refine OpsL.append (sz := sz) (bytes := bytes) (k := zs.length) (m := us.length) (cs := zs.flatMap enc) (xs := us.flatMap enc) (ob := ob) (u := u) (xd := .slice el) (v := v) (el := el) (z := z) hd hx hy h hsrc (hall us) hl0 hst hxt rfl hsz hby hz hzl zom hm1 ?_;refine hc _ _ _ (some (z4O nx ob, nx)) ⟨?_, ?_, Nat.le_succ _, ?_, ?_⟩
  ·refine ⟨by rw [List.length_append], ?_, [], ?_⟩
   ·rw [z0i hk]
   ·rw [zb, List.flatMap_append, List.append_nil]
  ·intro b' t' e;cases e;cases ob with
   | none => exact ⟨Nat.lt_succ_self _, .inl rfl⟩
   | some bt => exact ⟨Nat.lt_succ_of_lt (hb bt.1 bt.2 rfl), .inr ⟨bt.2, rfl⟩⟩
  ·intro i hi hib;refine za ?_;cases ob with
   | none => simp only [z4O]; omega
   | some bt => exact hib bt.1 bt.2 rfl
  ·intro hb' hok id o ho;by_cases e : id = z4O nx ob
   ·subst e;cases ob with
    | none => exact Nat.lt_succ_self _
    | some bt => exact Nat.lt_succ_of_lt (hb' bt.1 bt.2 rfl)
   ·rw [za e] at ho;exact Nat.lt_succ_of_lt (hok id o ho)) : A := h
namespace zd0a
noncomputable section
end
end zd0a
open zd0a in
theorem zJ {α : Type} {enc : α → List Value} {sz bytes : Nat} {z : List Value} {el st xt : TypeId} {ob : Option (Nat × Nat)} {v u : Value} {zs us : List α} {x y : Operand} (hk : ∀ x, (enc x).length = sz) (h1 : ∀ x, (enc x).all (·.oneCell') = true) (h0 : 0 < sz) (hd : d < n) (h : OwnOf enc sz el H ob v zs) (hu : RowsAt enc sz H u us) (hx : ASt.ev ⟨tm, n, H, nx⟩ x = some v) (hy : ASt.ev ⟨tm, n, H, nx⟩ y = some u) (hb : ∀ b t, ob = some (b, t) → b < nx)
  (hst : P.underlying st = some (.slice el)) (hxt : P.underlying xt = some (.slice el)) (hsz : z1F P el = some sz) (hby : z0q P el = some bytes) (hz : z0B P el = some z) (hzl : z.length = sz) (hle : zs.length + us.length ≤ 1000000) (hbl : bytes ≤ 1000)
  (hc : ∀ v' nx' H' ob', AppO enc sz el nx H ob (zs ++ us) v' nx' H' ob' → OpsL P W0 ops l ⟨zk tm (some d) v', n, H', nx'⟩ QQ) :
  OpsL P W0 ops (⟨some d, .call ⟨.builtin .append, #[x, y], #[st, xt]⟩, type, pos, after, none⟩ :: l) ⟨tm, n, H, nx⟩ QQ := zd0
end
end Go.Am
namespace Go.Proofs.YteplpegfcpmflaaGreat
open Go.Am Go.RowKit
theorem zgj (a n : Int) (h0 : 0 < n) (h : a.tmod n < 0) : a.tmod n + n = a % n := by
 have e : a % n = _ := @Int.emod_eq_tmod a n;have h3 := Int.emod_nonneg a (by omega : n ≠ 0);split at e <;> omega
theorem zgk (a n : Int) (h0 : 0 < n) (h : ¬ a.tmod n < 0) : a.tmod n = a % n := by
 have h1 := Int.tmod_lt_of_pos a h0;have hd := Int.mul_tdiv_add_tmod a n;have : a % n = (n * a.tdiv n + a.tmod n) % n := by rw [hd]
 rw [this, Int.mul_add_emod_self_left, Int.emod_eq_of_lt zom h1]
theorem zd1 {A : Prop} (h : A := by
 have g1 := Int.tmod_lt_of_pos a h0;have g2 := Int.lt_tmod_of_pos a h0;have hn : (n == 0) = false := by rw [beq_eq_false_iff_ne]; omega
 by_cases hk : a.tmod n < 0
 ·have e := zgj a n h0 hk;have E := Lib.hid e;clear e
  go_enter zp0, zp1
  go_wp2
  go_ret
  exact ⟨by rw [← E.out]; rfl, BelD.refl _ _⟩
 ·have e := zgk a n h0 hk;have E := Lib.hid e;clear e
  go_enter zp0, zp1
  go_wp2
  go_ret
  exact ⟨by rw [← E.out]; rfl, BelD.refl _ _⟩) : A := h
namespace zd1a
noncomputable section
abbrev zp0 := @Tryz.func23
abbrev zp1 := @Tryz.ntmps23
end
end zd1a
open zd1a in
theorem z9e (a n : Int) (h0 : 0 < n) (h1 : n ≤ 4611686018427387904) (w : World) : Calls Tryz.prog 23 #[.int .i64 a, .int .i64 n] w fun e w' => e = .returned (.int .i64 (a % n)) ∧ BelD w.heap.size w w' := zd1
theorem z2V : Am.z0U Tryz.prog 23 := ⟨Tryz.f23, Tryz.func23, by kernel_rfl, by kernel_rfl⟩
theorem zab (W0 : World) (a n k : Int) (h0 : 0 < n) (h1 : n ≤ 4611686018427387904) (hk : a % n = k) : zbb Tryz.prog W0 (23, [.int .i64 a, .int .i64 n], .int .i64 k) := by
 subst hk;exact z3A z2V rfl rfl (fun w => z9e a n h0 h1 w)
namespace zd1b
noncomputable section
abbrev zp0 := @Tryz.func22
abbrev zp1 := @Tryz.ntmps22
end
end zd1b
open zd1b in
theorem z88 (a n : Int) (h0 : 0 < n) (h1 : n ≤ 4611686018427387904) (w : World) : Calls Tryz.prog 22 #[.int .i64 a, .int .i64 n] w fun e w' => e = .returned (.int .i64 (a % n)) ∧ BelD w.heap.size w w' := zd1
theorem z1V : Am.z0U Tryz.prog 22 := ⟨Tryz.f22, Tryz.func22, by kernel_rfl, by kernel_rfl⟩
theorem z9f (W0 : World) (a n k : Int) (h0 : 0 < n) (h1 : n ≤ 4611686018427387904) (hk : a % n = k) : zbb Tryz.prog W0 (22, [.int .i64 a, .int .i64 n], .int .i64 k) := by
 subst hk;exact z3A z1V rfl rfl (fun w => z88 a n h0 h1 w)
end Go.Proofs.YteplpegfcpmflaaGreat
namespace Go.Proofs.YteplpegfcpmflaaGreat
open Go.Am Go.RowKit
attribute [local irreducible] aop OpsL Trip zI z2w
theorem z7D (W0 : World) {nx : Nat} {H : Heap} (a m : Int) (h0 : 0 < m) (h1 : m ≤ 4611686018427387904) : ACalls Tryz.prog W0 22 [.int .i64 a, .int .i64 m] nx H fun v nx' H' => v = .int .i64 (a % m) ∧ nx' = nx ∧ H' = H :=
 (z9f W0 a m _ h0 h1 rfl).2 nx H
def SymsAt (H : Heap) (v : Value) (ss : List (ByteArray × Int)) : Prop :=
 ∃ a c, v = .slice (some a) ss.length c ∧ ∀ (i : Nat) (h : i < ss.length), z0M H ⟨a.block, a.off + i * 2, a.spot⟩ 2 = some [.string ss[i].1, .int .i64 ss[i].2]
theorem SymsAt.ext {nx nx' : Nat} {H H' : Heap} {v : Value} {ss : List (ByteArray × Int)} (h : Ext nx H nx' H') (hok : ∀ id o, H id = some o → id < nx) (hs : SymsAt H v ss) : SymsAt H' v ss := by
 obtain ⟨a, c, rfl, hs⟩ := hs;exact ⟨a, c, rfl, fun i q => z1O h hok (hs i q)⟩
def z33 : List (ByteArray × Int) := [(⟨#[97]⟩, 1), (⟨#[97]⟩, 2), (⟨#[98]⟩, 3), (⟨#[99]⟩, 1), (⟨#[99]⟩, 2), (⟨#[100]⟩, 3), (⟨#[120]⟩, 2)]
def z4M (n : Int) (ns : List Int) : List (ByteArray × Int) :=
 if n % 7 = 1 then [(⟨#[98]⟩, 3), (⟨#[97]⟩, 2), (⟨#[97]⟩, 1)]
 else match ns with
  | x :: _ => if n % 11 = 2 then (z33.drop (x % 7).toNat).take 1 else z33.take (3 + n % 5).toNat
  | [] => z33.take (3 + n % 5).toNat
theorem z7v : ∀ s ∈ z33, s.2 = 1 ∨ s.2 = 2 ∨ s.2 = 3 := by decide
theorem zc2 (n : Int) (ns : List Int) : 0 < (z4M n ns).length ∧ (z4M n ns).length ≤ 7 ∧ ∀ s ∈ z4M n ns, s.2 = 1 ∨ s.2 = 2 ∨ s.2 = 3 := by
 have m5 := Int.emod_nonneg n (by omega : (5 : Int) ≠ 0);have m5' := Int.emod_lt_of_pos n (by omega : (0 : Int) < 5);have hb : z33.length = 7 := rfl
 have htake : 0 < (z33.take (3 + n % 5).toNat).length ∧ (z33.take (3 + n % 5).toNat).length ≤ 7 ∧ ∀ s ∈ z33.take (3 + n % 5).toNat, s.2 = 1 ∨ s.2 = 2 ∨ s.2 = 3 :=
  ⟨by rw [List.length_take]; omega, by rw [List.length_take]; omega, fun s hs => z7v s (List.mem_of_mem_take hs)⟩
 unfold z4M;split
 ·exact ⟨by simp, by simp, by simp⟩
 ·split
  ·rename_i x l;have x7 := Int.emod_nonneg x (by omega : (7 : Int) ≠ 0);have x7' := Int.emod_lt_of_pos x (by omega : (0 : Int) < 7);split
   ·refine ⟨?_, ?_, fun s hs => z7v s (List.mem_of_mem_drop (List.mem_of_mem_take hs))⟩ <;> (rw [List.length_take, List.length_drop]; omega)
   ·exact htake
  ·exact htake
theorem z7p : Am.z0U Tryz.prog 7 := ⟨Tryz.f7, Tryz.func7, by kernel_rfl, by kernel_rfl⟩
def z7Q : List Value := [.string ⟨#[97]⟩, .int .i64 1, .string ⟨#[97]⟩, .int .i64 2, .string ⟨#[98]⟩, .int .i64 3, .string ⟨#[99]⟩, .int .i64 1, .string ⟨#[99]⟩, .int .i64 2, .string ⟨#[100]⟩, .int .i64 3, .string ⟨#[120]⟩, .int .i64 2]
theorem zh7 (W0 : World) {nx : Nat} {H : Heap} {nv : Value} {m : Int} {ns : List Int} (hn : IntsAt H nv ns) :
  ACalls Tryz.prog W0 7 [.int .i64 m, nv] nx H fun v nx' H' => SymsAt H' v (z4M m ns) ∧ Ext nx H nx' H' := by
 obtain ⟨na, nc, rfl⟩ := hn.slice;refine zl (fn := Tryz.f7) (c := _) Tryz.func7 rfl (fun tm n hn0 htm => ?_);have e0 : tm 0 = .int .i64 m := htm 0;have e1 : tm 1 = .slice na ns.length nc := htm 1;clear htm;replace hn0 : n = 50 := hn0;refine Trip.ok fun hok => ?_;replace hok : ∀ id o, H id = some o → id < nx := hok;refine z8v ?_;refine zd (zE (v := .agg #[.string ⟨#[97]⟩, .int .i64 1]) zxr zxr) ?_;refine zd (zE (v := .agg #[.string ⟨#[97]⟩, .int .i64 2]) zxr zxr) ?_;refine zd (zE (v := .agg #[.string ⟨#[98]⟩, .int .i64 3]) zxr zxr) ?_;refine zd (zE (v := .agg #[.string ⟨#[99]⟩, .int .i64 1]) zxr zxr) ?_;refine zd (zE (v := .agg #[.string ⟨#[99]⟩, .int .i64 2]) zxr zxr) ?_;refine zd (zE (v := .agg #[.string ⟨#[100]⟩, .int .i64 3]) zxr zxr) ?_;refine zd (zE (v := .agg #[.string ⟨#[120]⟩, .int .i64 2]) zxr zxr) ?_;refine OpsL.new (o := .cells z7Q 2 none false (some 47)) zsd (zq (l := [(0, .agg #[.string ⟨#[97]⟩, .int .i64 1]), (1, .agg #[.string ⟨#[97]⟩, .int .i64 2]), (2, .agg #[.string ⟨#[98]⟩, .int .i64 3]), (3, .agg #[.string ⟨#[99]⟩, .int .i64 1]), (4, .agg #[.string ⟨#[99]⟩, .int .i64 2]), (5, .agg #[.string ⟨#[100]⟩, .int .i64 3]), (6, .agg #[.string ⟨#[120]⟩, .int .i64 2])]) (by simp only [z0h, ASt.ev, zk, ↓reduceIte, reduceIte, Option.some.injEq, Nat.reduceEqDiff]) zxr) ?_;refine z5c ?_;refine OpsL.c2 (hf := z1V) (hc := (z7D W0 _ _ zom zom)) (h := ?_);rintro v nx1 H1 ⟨rfl, rfl, rfl⟩;have m5 := Int.emod_nonneg m (by omega : (5 : Int) ≠ 0);have m5' := Int.emod_lt_of_pos m (by omega : (0 : Int) < 5)
 repeat (first | (refine zd (by first | exact omv | exact z0E | exact z6P) ?_) | refine Trip.seq ?_ | refine zm ?_ | (refine OpsL.nil ?_; (change Trip _ _ _ _ _)))
 refine OpsL.c2 (hf := z1V) (hc := (z7D W0 _ _ zom zom)) (h := ?_);rintro v nx1 H1 ⟨rfl, rfl, rfl⟩
 have hall : ∀ (i : Nat) (h : i < z33.length) (k : Nat), k = i * 2 → z0M (H.put nx (.cells z7Q 2 none false (some 47))) ⟨nx, k, none⟩ 2 = some [.string z33[i].1, .int .i64 z33[i].2] := by
  intro i h k hk;subst hk;have : i = 0 ∨ i = 1 ∨ i = 2 ∨ i = 3 ∨ i = 4 ∨ i = 5 ∨ i = 6 := by simp [z33] at h; omega
  rcases this with rfl | rfl | rfl | rfl | rfl | rfl | rfl <;> (rw [z08 (by decide)]; rfl)
 repeat (first | refine zd (by exact zfP) ?_ | refine Trip.seq ?_ | refine z3s (fun _ => ?_) (fun _ => ?_) | (refine OpsL.nil ?_; (change Trip _ _ _ _ _)))
 ·rename_i h7;refine OpsL.drawn krf krf krf ?_
  repeat (refine zd (by first | exact omv | exact z45) ?_)
  refine zd (zg (k := 2) evr zxr rfl zxr (hall 2 (by decide) _ zxr)) ?_
  repeat (refine zd (by first | exact omv | exact z45) ?_)
  refine zd (zg (k := 2) evr zxr rfl zxr (hall 1 (by decide) _ zxr)) ?_
  repeat (refine zd (by first | exact omv | exact z45) ?_)
  refine zd (zg (k := 2) evr zxr rfl zxr (hall 0 (by decide) _ zxr)) ?_
  refine OpsL.new (o := .cells [.string ⟨#[98]⟩, .int .i64 3, .string ⟨#[97]⟩, .int .i64 2, .string ⟨#[97]⟩, .int .i64 1] 2 none false (some 47)) zsd
   (zq (l := [(0, .agg #[.string ⟨#[98]⟩, .int .i64 3]), (1, .agg #[.string ⟨#[97]⟩, .int .i64 2]), (2, .agg #[.string ⟨#[97]⟩, .int .i64 1])]) (by simp only [z0h, ASt.ev, zk, ↓reduceIte, reduceIte, Option.some.injEq, Nat.reduceEqDiff]; rfl) zxr) ?_
  refine zfL ?_;refine ⟨.inr rfl, _, zx, ?_, ⟨by show nx ≤ nx + 1 + 1; omega, fun i hi => by rw [za zom, za zom]⟩⟩;have hsy : z4M m ns = [(⟨#[98]⟩, 3), (⟨#[97]⟩, 2), (⟨#[97]⟩, 1)] := by unfold z4M; rw [if_pos h7]
  rw [hsy];refine ⟨⟨nx + 1, 0, none⟩, 3, by simp [zk], fun i hi => ?_⟩;have : i = 0 ∨ i = 1 ∨ i = 2 := by simp at hi; omega
  rcases this with rfl | rfl | rfl <;> (rw [z08 (by show 0 + _ * 2 + 2 ≤ 6; decide)]; rfl)
 ·rename_i h7;refine zfq ?_;refine OpsL.c2 (hf := z1V) (hc := (z7D W0 _ _ zom zom)) (h := ?_);rintro v nx1 H1 ⟨rfl, rfl, rfl⟩
  repeat' (first | (refine zd (by first | exact omv | exact ziU | exact zfP | exact z2i | exact z2R | exact z3i) ?_) | refine Trip.seq ?_ | refine zm ?_ | refine z3s (fun _ => ?_) (fun _ => ?_) | (refine Trip.skip ?_; (change Trip _ _ _ _ _)) | (refine OpsL.nil ?_; (change Trip _ _ _ _ _)) | refine zz ?_ | refine zQ ?_ | refine z6h (fun _ => ?_) (fun _ => ?_))
  ·rename_i h11 hlen;obtain ⟨x, ns, rfl⟩ : ∃ x l, ns = x :: l := by cases ns with | nil => simp at hlen | cons x l => exact ⟨x, l, rfl⟩
   obtain ⟨p, rfl, hc⟩ := hn.get (i := 0) (by simp)
   replace hc : zj (H.put nx (.cells z7Q 2 none false (some 47))) ⟨p.block, p.off + (0 : Int).toNat * 1, p.spot⟩ (.int .i64 x) := by
    obtain ⟨o, ho⟩ := z1T hc;have := hok _ _ ho;unfold zj at *;rw [zf1 (by simp only at this ⊢; omega)];exact hc
   have x7 := Int.emod_nonneg x (by omega : (7 : Int) ≠ 0);have x7' := Int.emod_lt_of_pos x (by omega : (0 : Int) < 7)
   repeat (refine zd (by first | exact z45 | exact old) ?_)
   refine OpsL.c2 (hf := z1V) (hc := (z7D W0 _ _ zom zom)) (h := ?_);rintro v nx1 H1 ⟨rfl, rfl, rfl⟩;refine zcY ?_;have h7l : (x % 7).toNat < z33.length := by show _ < 7; omega
   refine zd (zg (k := 2) evr zxr rfl zxr (hall (x % 7).toNat h7l _ (by show 0 + _ * 2 = _; omega))) ?_
   refine OpsL.new (o := .cells [.string z33[(x % 7).toNat].1, .int .i64 z33[(x % 7).toNat].2] 2 none false (some 47)) zsd
    (zq (l := [(0, .agg [.string z33[(x % 7).toNat].1, .int .i64 z33[(x % 7).toNat].2].toArray)]) (by simp only [z0h, ASt.ev, zk, ↓reduceIte, reduceIte, Option.some.injEq, Nat.reduceEqDiff]) zxr) ?_
   refine zfL ?_;refine ⟨.inr rfl, _, zx, ?_, ⟨by show nx ≤ nx + 1 + 1; omega, fun i hi => by rw [za zom, za zom]⟩⟩
   have hsy : z4M m (x :: ns) = [z33[(x % 7).toNat]] := by
    unfold z4M;rw [if_neg h7];simp only [h11, if_true];rw [List.take_one, List.head?_drop, List.getElem?_eq_getElem h7l];rfl
   rw [hsy];refine ⟨⟨nx + 1, 0, none⟩, 1, by simp [zk], fun i hi => ?_⟩;have : i = 0 := by simp at hi; omega
   subst this;rw [z08 (by show 0 + 0 * 2 + 2 ≤ 2; omega)];rfl
  all_goals
   try refine z0a ?_
   refine zfq ?_
   refine zd (z07 (a := none) (b := some (.int .i64 (3 + m % 5))) (c := none) evr rfl (by simp only [z2l, ASt.ev, zk, ↓reduceIte, reduceIte, Option.some.injEq, Nat.reduceEqDiff, Option.map_some]) rfl
    (z5J (l := 0) (h := (3 + m % 5).toNat) (sz := 2) zxr zxr zb rfl rfl (.inl ⟨rfl, rfl⟩) (.inr ⟨.i64, by congr 2; omega⟩) zom zom)) ?_
   refine zfL ?_;refine ⟨.inr rfl, _, zx, ?_, ⟨by show nx ≤ nx + 1; omega, fun i hi => by rw [za zom]⟩⟩
   have hsy : z4M m ns = z33.take (3 + m % 5).toNat := by
    unfold z4M;rw [if_neg h7];cases ns with
    | nil => rfl
    | cons x l => simp_all
   have hlen : (z33.take (3 + m % 5).toNat).length = (3 + m % 5).toNat := by
    rw [List.length_take]; show min _ 7 = _; omega
   rw [hsy];refine ⟨⟨nx, 0, none⟩, 7, by rw [hlen]; simp [zk], fun i hi => ?_⟩;rw [hlen] at hi;rw [List.getElem_take];exact hall i (by show i < 7; omega) _ (by show 0 + i * 2 = _; omega)
end Go.Proofs.YteplpegfcpmflaaGreat
