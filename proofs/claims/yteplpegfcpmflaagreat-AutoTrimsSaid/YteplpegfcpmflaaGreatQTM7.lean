import Derived.Test.YteplpegfcpmflaaGreatQTM6
set_option linter.unusedSimpArgs false
set_option linter.unusedVariables false
set_option maxRecDepth 100000
set_option maxHeartbeats 64000000
namespace Go.Am
open Go.RowKit
def z2e (ops : Array Oper) (acts : List Nat) : Bool :=
 z1A (fun i oi => z1A (fun j oj => match oj.dst with
  | some t => if (z35 oi).contains t || z6x ops oi == some t then z9x oi j || (acts.contains j && zbl ops 4 oj i && !Nat.beq i j) else true
  | none => true) 0 ops.toList) 0 ops.toList
section
variable {P : Program} {W0 : World} {ops : Array Oper} {acts : List Nat} {K : Nat → Heap → Prop}
theorem z3s (h : z2e ops acts = true) {i j : Nat} {oi oj : Oper} {t : Tmp} (hi : ops[i]? = some oi) (hj : ops[j]? = some oj) (ht : t ∈ z35 oi ∨ z6x ops oi = some t) (hd : oj.dst = some t) : dep oi j ∨ (acts.contains j = true ∧ zbe ops j i = true ∧ i ≠ j) := by
 unfold z2e at h;have h1 := zX _ _ (zX _ _ h i oi (by simpa using hi)) j oj (by simpa using hj);simp only [Nat.zero_add, hd] at h1;rw [if_pos] at h1
 ·rw [Bool.or_eq_true] at h1
  rcases h1 with h1 | h1
  ·exact .inl (z0E.1 h1)
  ·simp only [Bool.and_eq_true, Bool.not_eq_true'] at h1
   refine .inr ⟨h1.1.1, ?_, fun e => ?_⟩
   ·unfold zbe
    rw [hj];exact h1.1.2
   ·have := h1.2
    rw [e] at this;simp at this
 ·rcases ht with ht | ht
  ·simp [ht]
  ·simp [ht]
structure RInvW (P : Program) (ops : Array Oper) (acts : List Nat) (K : Nat → Heap → Prop) (D L : List Nat) (listed : Array Bool) (tm T : Nat → Value) (n : Nat) (H : Heap) (nx : Nat) : Prop where
 size : listed.size = ops.size
 down : ∀ (i : Nat) (o : Oper), ops[i]? = some o → listed.getD i false = true → ∀ j, dep o j → listed.getD j false = true
 unl : ∀ i ∈ L, listed.getD i false = false
 all : ∀ i, i < ops.size → i ∈ D ∨ i ∈ L
 disj : ∀ p ∈ D, ∀ i ∈ L, p ≠ i
 topo : ∀ p ∈ D, ∀ i ∈ L, z8e ops p i = false
 nd : L.Nodup
 lt : ∀ i ∈ L, i < ops.size
 pend : ∀ i ∈ D, listed.getD i false = false → ∃ o, ops[i]? = some o ∧ zeR P ops acts K L T n H nx i o
 eqv : ∀ t, (∀ (i : Nat) (o : Oper), ops[i]? = some o → i ∈ D → listed.getD i false = false → o.dst ≠ some t) → tm t = T t
 actl : ∀ p ∈ D, acts.contains p = true → listed.getD p false = true
variable {D L : List Nat} {listed : Array Bool} {tm T : Nat → Value} {n nx : Nat} {H : Heap}
theorem RInvW.reads (hr : z2e ops acts = true) (hi : RInvW P ops acts K D L listed tm T n H nx) {i : Nat} {o : Oper} (ho : ops[i]? = some o) (hall : ∀ j, dep o j → listed.getD j false = true) {t : Tmp} (ht : t ∈ z35 o ∨ z6x ops o = some t) : tm t = T t := by
 refine hi.eqv t fun p op hop hp hun hd => ?_;rcases z3s hr ho hop ht hd with h | ⟨h, _, _⟩
 ·have := hall p h
  rw [hun] at this;cases this
 ·have := hi.actl p hp h
  rw [hun] at this;cases this
theorem z8I (hr : z2e ops acts = true) (hone : ∀ (i j : Nat) (oi oj : Oper) (d : Tmp), ops[i]? = some oi → ops[j]? = some oj → oi.dst = some d → oj.dst = some d → i = j) {i p : Nat} {o op : Oper} {H' : Heap} {nx' : Nat} (ho : ops[i]? = some o) (hop : ops[p]? = some op) (hpi : p ≠ i) (hni : z8e ops p i = false) (hact : acts.contains i = true → zbe ops i p = false) (v : Value)
  {L' : List Nat} (hsub : ∀ j ∈ L', j ∈ L) (hil : i ∈ L) (h : zeR P ops acts K L T n H nx p op) (hk : (H' = H ∧ nx' = nx) ∨ (acts.contains i = true ∧ zbe ops i p = false ∧ K nx' H')) : zeR P ops acts K L' (z9 T o.dst v) n H' nx' p op := by
 obtain ⟨h2, val, h3, h4⟩ := h
 have hsame : ∀ t, (t ∈ z35 op ∨ z6x ops op = some t) → z9 T o.dst v t = T t := fun t ht => by
  cases hd : o.dst with
  | none => rfl
  | some d =>
   have hne : t ≠ d := fun e => by
    subst e;rcases z3s hr hop ho ht hd with h | ⟨ha, hb, _⟩
    ·have := z0E.2 h
     unfold z8e at hni;rw [hop] at hni;simp only at hni;rw [hni] at this;cases this
    ·rw [hact ha] at hb
     cases hb
   simp only [z9, hne, if_false]
 refine ⟨h2, val, fun d hd => ?_, ?_⟩
 ·rw [← h3 d hd]
  cases hod : o.dst with
  | none => rfl
  | some d' =>
   have hne : d ≠ d' := fun e => hpi (hone p i op o d hop ho hd (by rw [hod, e]));simp only [z9, hne, if_false]
 ·rw [z0a (tm' := T) (fun d hd => hsame d (.inr hd)), z0u (tm' := T) (fun t ht => hsame t (.inl ht))]
  rcases h4 with h4 | ⟨h5, h6, h7⟩
  ·exact .inl h4
  ·refine .inr ⟨h5, ?_, ?_⟩
   ·rcases hk with ⟨rfl, rfl⟩ | ⟨he, hno, hK⟩
    ·exact h6
    ·rcases h7 with h7 | h7
     ·have := h7 i hil he
      rw [hno] at this; cases this
     ·exact h7 _ _ hK
   ·rcases h7 with h7 | h7
    ·exact .inl fun j hj => h7 j (hsub j hj)
    ·exact .inr h7
theorem z2Z (hr : z2e ops acts = true) (hlex : ∀ (i : Nat) (o : Oper), ops[i]? = some o → ∀ j, dep o j → j < i) {i : Nat} {o : Oper} (ho : ops[i]? = some o) (v : Value) {t : Tmp} (ht : t ∈ z35 o ∨ z6x ops o = some t) : z9 T o.dst v t = T t := by
 cases hod : o.dst with
 | none => rfl
 | some d =>
  have hne : t ≠ d := fun e => by
   subst e;rcases z3s hr ho ho ht hod with h | ⟨_, _, h⟩
   ·exact absurd (hlex i o ho i h) (Nat.lt_irrefl _)
   ·exact h rfl
  simp only [z9, hne, if_false]
theorem RInvW.advance (hr : z2e ops acts = true) (hlex : ∀ (i : Nat) (o : Oper), ops[i]? = some o → ∀ j, dep o j → j < i) (hone : ∀ (i j : Nat) (oi oj : Oper) (d : Tmp), ops[i]? = some oi → ops[j]? = some oj → oi.dst = some d → oj.dst = some d → i = j) {i m : Nat} {Q : ASt → Prop} (hi : RInvW P ops acts K D (i :: L) listed tm T n H nx) (hna : acts.contains i = false) (hfr : z3B ops L i = true)
  (h : ∃ o, ops[i]? = some o ∧ z1c ⟨T, n, H, nx⟩ o = true ∧
   ((z10 ops ⟨T, n, H, nx⟩ o = false ∧ OpsR P W0 ops acts K m L (ASt.put ⟨T, n, H, nx⟩ o.dst undef .none) Q) ∨
    (z10 ops ⟨T, n, H, nx⟩ o = true ∧ ∃ v, aop P H nx (ASt.ev ⟨T, n, H, nx⟩) o = some (v, .none) ∧ (zbk ops acts i o L = true ∨ ∀ H' nx', K nx' H' → aop P H' nx' (ASt.ev ⟨T, n, H, nx⟩) o = some (v, .none)) ∧ OpsR P W0 ops acts K m L (ASt.put ⟨T, n, H, nx⟩ o.dst v .none) Q))) :
  ∃ T', RInvW P ops acts K (i :: D) L listed tm T' n H nx ∧ OpsR P W0 ops acts K m L ⟨T', n, H, nx⟩ Q := by
 obtain ⟨o, ho, hd, h⟩ := h;have hl : ∀ j ∈ L, i ≠ j ∧ z8e ops i j = false := fun j hj => ⟨fun e => (List.nodup_cons.1 hi.nd).1 (e ▸ hj), z2v.1 hfr j hj⟩;have hdn := z0U hd
 have key : ∃ v, zeR P ops acts K L (z9 T o.dst v) n H nx i o ∧ OpsR P W0 ops acts K m L ⟨z9 T o.dst v, n, H, nx⟩ Q := by
  have hown : ∀ v d, o.dst = some d → z9 T o.dst v d = v := fun v d hd => by simp [z9, hd]
  rcases h with ⟨hw, h⟩ | ⟨hw, v, hop, hedge, h⟩
  ·refine ⟨undef, ⟨hdn, undef, hown undef, .inl ⟨?_, rfl⟩⟩, h⟩
   rw [z0a (tm' := T) (fun d hd => z2Z hr hlex ho _ (.inr hd))];exact (z09 ⟨T, n, H, nx⟩ o).trans hw
  ·refine ⟨v, ⟨hdn, v, hown v, .inr ⟨?_, ?_, ?_⟩⟩, h⟩
   ·rw [z0a (tm' := T) (fun d hd => z2Z hr hlex ho _ (.inr hd))]
    exact (z09 ⟨T, n, H, nx⟩ o).trans hw
   ·rw [z0u (tm' := T) (fun t ht => z2Z hr hlex ho _ (.inl ht))]
    exact (z3F (st := ⟨T, n, H, nx⟩)).trans hop
   ·rcases hedge with hedge | hst
    ·unfold zbk at hedge
     rw [Bool.or_eq_true] at hedge;rcases hedge with hf | hf
     ·refine .inr fun H' nx' _ => ?_
      rw [z0u (tm' := T) (fun t ht => z2Z hr hlex ho _ (.inl ht)), z2H (H' := H) (nx' := nx) hf];exact (z3F (st := ⟨T, n, H, nx⟩)).trans hop
     ·refine .inl fun j hj hej => ?_
      rw [List.all_eq_true] at hf;have := hf j hj;rw [hej] at this;simpa using this
    ·refine .inr fun H' nx' hK => ?_
     rw [z0u (tm' := T) (fun t ht => z2Z hr hlex ho _ (.inl ht))];exact (z3F (st := ⟨T, n, H, nx⟩)).trans (hst H' nx' hK)
 obtain ⟨v, hp, h2⟩ := key;refine ⟨z9 T o.dst v, ⟨hi.size, hi.down, fun j hj => hi.unl j (List.mem_cons_of_mem _ hj), ?_, ?_, ?_, (List.nodup_cons.1 hi.nd).2, fun j hj => hi.lt j (List.mem_cons_of_mem _ hj), ?_, ?_, ?_⟩, h2⟩
 ·intro j hj
  rcases hi.all j hj with h | h
  ·exact .inl (List.mem_cons_of_mem _ h)
  ·rcases List.mem_cons.1 h with rfl | h
   ·exact .inl List.mem_cons_self
   ·exact .inr h
 ·intro p hp j hj
  rcases List.mem_cons.1 hp with rfl | hp
  ·exact (hl j hj).1
  ·exact hi.disj p hp j (List.mem_cons_of_mem _ hj)
 ·intro p hp j hj
  rcases List.mem_cons.1 hp with rfl | hp
  ·exact (hl j hj).2
  ·exact hi.topo p hp j (List.mem_cons_of_mem _ hj)
 ·intro p hp2 hun
  rcases List.mem_cons.1 hp2 with rfl | hp2
  ·exact ⟨o, ho, hp⟩
  ·obtain ⟨op, hop, hpe⟩ := hi.pend p hp2 hun
   exact ⟨op, hop, z8I hr hone ho hop (hi.disj p hp2 i List.mem_cons_self) (hi.topo p hp2 i List.mem_cons_self) (fun h => by rw [hna] at h; cases h) v (fun j hj => List.mem_cons_of_mem _ hj) List.mem_cons_self hpe (.inl ⟨rfl, rfl⟩)⟩
 ·intro t ht
  have h0 := hi.eqv t (fun p op hop hp hun => ht p op hop (List.mem_cons_of_mem _ hp) hun);have hne := ht i o ho List.mem_cons_self (hi.unl i List.mem_cons_self);rw [h0];cases hod : o.dst with
  | none => rfl
  | some d =>
   have : t ≠ d := fun e => hne (by rw [hod, e]);simp only [z9, this, if_false]
 ·intro p hp ha
  rcases List.mem_cons.1 hp with rfl | hp
  ·rw [hna] at ha; cases ha
  ·exact hi.actl p hp ha
theorem RInvW.find (hr : z2e ops acts = true) (hlex : ∀ (i : Nat) (o : Oper), ops[i]? = some o → ∀ j, dep o j → j < i) (hone : ∀ (i j : Nat) (oi oj : Oper) (d : Tmp), ops[i]? = some oi → ops[j]? = some oj → oi.dst = some d → oj.dst = some d → i = j) {Q : ASt → Prop} {i : Nat} {o : Oper} (ho : ops[i]? = some o) (hall : ∀ j, dep o j → listed.getD j false = true) :
  ∀ (m : Nat) (L D : List Nat) (T : Nat → Value), RInvW P ops acts K D L listed tm T n H nx → OpsR P W0 ops acts K m L ⟨T, n, H, nx⟩ Q → i ∈ L → ∃ m' D' L' T', RInvW P ops acts K D' L' listed tm T' n H nx ∧ ((i ∈ D' ∧ OpsR P W0 ops acts K m' L' ⟨T', n, H, nx⟩ Q) ∨ (i ∈ L' ∧ z3B ops (L'.erase i) i = true ∧ ActStep P W0 ops acts K i ⟨T', n, H, nx⟩ fun s => OpsR P W0 ops acts K m' (L'.erase i) s Q)) := by
 intro m
 induction m with
 | zero =>
  intro L D T hi h hm;cases L with
  | nil => cases hm
  | cons k L => exact h.elim
 | succ m ih =>
  intro L D T hi h hm;cases L with
  | nil => cases hm
  | cons k L =>
   rcases h with ⟨hna, hfr, h⟩ | h
   ·obtain ⟨T', hi', h'⟩ := hi.advance hr hlex hone hna hfr h
    by_cases hk : k = i
    ·subst hk
     exact ⟨m, _, _, T', hi', .inl ⟨List.mem_cons_self, h'⟩⟩
    ·have hm2 : i ∈ L := by
      rcases List.mem_cons.1 hm with e | hm
      ·exact absurd e.symm hk
      ·exact hm
     exact ih _ _ _ hi' h' hm2
   ·have hfr : z3B ops ((k :: L).erase i) i = true := z2v.2 fun j hj => by
     cases hd : z8e ops i j with
     | false => rfl
     | true =>
      have hjl := hi.unl j (List.mem_of_mem_erase hj);unfold z8e at hd;rw [ho] at hd;have := hall j (z0E.1 hd);rw [hjl] at this;cases this
    exact ⟨m, D, _, T, hi, .inr ⟨hm, hfr, h i hm hfr⟩⟩
theorem zd6 (hr : z2e ops acts = true) (hlex : ∀ (i : Nat) (o : Oper), ops[i]? = some o → ∀ j, dep o j → j < i) (hone : ∀ (i j : Nat) (oi oj : Oper) (d : Tmp), ops[i]? = some oi → ops[j]? = some oj → oi.dst = some d → oj.dst = some d → i = j) {ρ : Option Nat} {nx0 : Nat} {H0 : Heap} {C0 : Corr} {df : List Deferred} {Q' : ASt → Prop} {Q : Exit → Act → World → Prop}
  (hq : ∀ T H nx C a w, Q' ⟨T, n, H, nx⟩ → SRel W0 C ⟨T, n, H, nx⟩ a w → Stp nx0 H0 C0 nx H C → a.defers = df → Q .normal a w) :
  ∀ (fuel : Nat) (listed : Array Bool) (tm : Nat → Value) (m : Nat) (D L : List Nat) (T : Nat → Value) (H : Heap) (nx : Nat) (C : Corr) (a : Act) (w : World), RInvW P ops acts K D L listed tm T n H nx → ((List.range ops.size).filter fun i => !listed.getD i false).length = fuel →
   SRel W0 C ⟨tm, n, H, nx⟩ a w → Stp nx0 H0 C0 nx H C → a.defers = df → K nx H → OpsR P W0 ops acts K m L ⟨T, n, H, nx⟩ Q' → wpAnyIn (rf ρ) 0 P .any ops Q fuel listed a w := by
 intro fuel
 induction fuel with
 | zero =>
  intro listed tm m D L T H nx C a w hi hf hs hS hdf hK h
  have hall : ∀ i, i < ops.size → listed.getD i false = true := by
   intro i hlt;cases hl : listed.getD i false with
   | true => rfl
   | false =>
    have : i ∈ (List.range ops.size).filter fun i => !listed.getD i false := List.mem_filter.2 ⟨List.mem_range.2 hlt, by rw [hl]; rfl⟩;rw [List.length_eq_zero_iff.1 hf] at this;cases this
  refine ⟨?_, ?_⟩
  ·cases hrr : Region.ready .any ops listed with
   | nil => rfl
   | cons j r =>
    have hj : j ∈ Region.ready .any ops listed := by rw [hrr]; exact List.mem_cons_self ..
    obtain ⟨h0, o, ho, _⟩ := mem_ready.1 hj;have hlt : j < ops.size := (Array.getElem?_eq_some_iff.1 ho).1;have := hall j hlt;rw [z3b (by rw [hi.size]; exact hlt) false true, h0] at this;cases this
  ·cases L with
   | cons k L =>
    have := hi.unl k List.mem_cons_self;rw [hall k (hi.lt k List.mem_cons_self)] at this;cases this
   | nil =>
    have h : Q' ⟨T, n, H, nx⟩ := by cases m <;> exact h
    have htm : tm = T := by
     funext t;refine hi.eqv t fun p op hop hp hun => ?_;rw [hall p (Array.getElem?_eq_some_iff.1 hop).1] at hun;cases hun
    subst htm;exact hq _ _ _ C a w h hs hS hdf
 | succ fuel ih =>
  intro listed tm m D L T H nx C a w hi hf hs hS hdf hK h;refine ⟨?_, ?_⟩
  ·intro hrd
   exfalso
   have hex : ∃ i, i < ops.size ∧ listed.getD i false = false ∧ ∀ j, j < i → listed.getD j false = true := by
    have : ∃ i, i < ops.size ∧ listed.getD i false = false := by
     cases hl : (List.range ops.size).filter fun i => !listed.getD i false with
     | nil => rw [hl] at hf; simp at hf
     | cons i r =>
      have : i ∈ (List.range ops.size).filter fun i => !listed.getD i false := by rw [hl]; exact List.mem_cons_self ..
      obtain ⟨h1, h2⟩ := List.mem_filter.1 this;exact ⟨i, List.mem_range.1 h1, by simpa using h2⟩
    obtain ⟨i, h1, h2⟩ := this
    induction i using Nat.strongRecOn with
    | _ i ihh =>
     by_cases hm : ∃ j, j < i ∧ listed.getD j false = false
     ·obtain ⟨j, hj1, hj2⟩ := hm
      exact ihh j hj1 (by omega) hj2
     ·refine ⟨i, h1, h2, fun j hj => ?_⟩
      cases hl : listed.getD j false with
      | true => rfl
      | false => exact absurd ⟨j, hj, hl⟩ hm
   obtain ⟨i, hlt, hun, hmin⟩ := hex;have ho : ops[i]? = some ops[i] := by simp
   have : i ∈ Region.ready .any ops listed := mem_ready.2 ⟨by rw [z3b (by rw [hi.size]; exact hlt) true false]; exact hun, _, ho, fun e he hb => hmin _ (hlex i _ ho e.on ⟨e, he, hb, rfl⟩)⟩;rw [hrd] at this;cases this
  ·intro i hir
   obtain ⟨h0, o, ho, hall0⟩ := mem_ready.1 hir;have hlt : i < ops.size := (Array.getElem?_eq_some_iff.1 ho).1;have hlts : i < listed.size := by rw [hi.size]; exact hlt
   have hun : listed.getD i false = false := by rw [z3b hlts false true]; exact h0
   have hall : ∀ j, dep o j → listed.getD j false = true := fun j ⟨e, he, hb, hj⟩ => hj ▸ hall0 e he hb
   have hcount : ((List.range ops.size).filter fun j => !(listed.setIfInBounds i true).getD j false).length = fuel := by
    have key : ∀ (l : List Nat), l.Nodup → i ∈ l → ((l.filter fun j => !(listed.setIfInBounds i true).getD j false).length + 1 = (l.filter fun j => !listed.getD j false).length) := by
     intro l
     induction l with
     | nil => intro _ hm; cases hm
     | cons x l ihl =>
      intro hnd hm;rw [List.nodup_cons] at hnd;by_cases e : x = i
      ·subst e
       have hsame : (l.filter fun j => !(listed.setIfInBounds x true).getD j false) = (l.filter fun j => !listed.getD j false) := by
        apply List.filter_congr;intro y hy;rw [getD_set_ne false (fun z : x = y => hnd.1 (by rw [z]; exact hy))]
       rw [List.filter_cons, List.filter_cons];simp only [z0e hlts, hun, Bool.not_true, Bool.not_false, Bool.false_eq_true, if_false, if_true, List.length_cons, hsame]
      ·have hm' : i ∈ l := by
        cases hm with
        | head => exact absurd rfl e
        | tail _ hm => exact hm
       have := ihl hnd.2 hm';rw [List.filter_cons, List.filter_cons, getD_set_ne false (Ne.symm e)];split
       ·simp only [List.length_cons]; omega
       ·exact this
    have := key (List.range ops.size) List.nodup_range (List.mem_range.2 hlt);omega
   have hdown' : ∀ (k : Nat) (ok : Oper), ops[k]? = some ok → (listed.setIfInBounds i true).getD k false = true → ∀ j, dep ok j → (listed.setIfInBounds i true).getD j false = true := by
    intro k ok hok hk j hj;apply getD_set_true;by_cases e : i = k
    ·subst e
     rw [ho] at hok;cases hok;exact hall j hj
    ·rw [getD_set_ne false e] at hk
     exact hi.down k ok hok hk j hj
   have hwalk : ∃ m' D' L' T', RInvW P ops acts K D' L' listed tm T' n H nx ∧ ((i ∈ D' ∧ OpsR P W0 ops acts K m' L' ⟨T', n, H, nx⟩ Q') ∨ (i ∈ L' ∧ z3B ops (L'.erase i) i = true ∧ ActStep P W0 ops acts K i ⟨T', n, H, nx⟩ fun s => OpsR P W0 ops acts K m' (L'.erase i) s Q')) := by
    rcases hi.all i hlt with hD | hL
    ·exact ⟨m, D, L, T, hi, .inl ⟨hD, h⟩⟩
    ·exact RInvW.find hr hlex hone ho hall m L D T hi h hL
   clear hi h T D L m;obtain ⟨m, D, L, T, hi, hcase⟩ := hwalk;have hrd : ∀ t, (t ∈ z35 o ∨ z6x ops o = some t) → tm t = T t := fun t ht => hi.reads hr ho hall ht;rcases hcase with ⟨hD, h⟩ | ⟨hL, hfr, h⟩
   ·-- one that waits comes up
    obtain ⟨o', ho', hp⟩ := hi.pend i hD hun;rw [ho] at ho';cases ho';obtain ⟨p2, val, p3, p4⟩ := hp
    have hds : DStep P W0 ops tm n H nx o val H nx := by
     refine ⟨p2, ?_⟩;rw [z0a (tm' := T) (fun d hd => hrd d (.inr hd)), z0u (tm' := T) (fun t ht => hrd t (.inl ht))];rcases p4 with ⟨q1, q2⟩ | ⟨q1, q2, _⟩
     ·exact .inl ⟨q1, q2, rfl, rfl⟩
     ·exact .inr ⟨q1, .inl ⟨.none, q2, rfl, rfl⟩⟩
    refine hds.wp hs ho ?_;intro C' v' w' hs' hS';refine ih (listed.setIfInBounds i true) (z9 tm o.dst val) m D L T H nx C' _ w' ⟨by simp [hi.size], hdown', ?_, hi.all, hi.disj, hi.topo, hi.nd, hi.lt, ?_, ?_, fun p hp ha => getD_set_true (hi.actl p hp ha)⟩ hcount hs' (hS.trans hS') ((z0T _ _ _).trans hdf) hK h
    ·intro j hj
     rw [getD_set_ne false (hi.disj i hD j hj)];exact hi.unl j hj
    ·intro p hp hpu
     by_cases e : i = p
     ·subst e
      rw [z0e hlts] at hpu;cases hpu
     ·rw [getD_set_ne false e] at hpu
      exact hi.pend p hp hpu
    ·intro t ht
     by_cases hdt : o.dst = some t
     ·simp only [z9, hdt, if_true]
      exact (p3 t hdt).symm
     ·have hb : tm t = T t := hi.eqv t fun p op hop hp hpu => by
       by_cases e : i = p
       ·subst e
        rw [ho] at hop;cases hop;exact hdt
       ·exact ht p op hop hp (by rw [getD_set_ne false e]; exact hpu)
      rw [← hb];cases hod : o.dst with
      | none => rfl
      | some d =>
       have : t ≠ d := fun e => hdt (by rw [hod, e]);simp only [z9, this, if_false]
   ·-- one that acts
    obtain ⟨o', ho', hd, hE, h⟩ := h;rw [ho] at ho';cases ho';have hdn := z0U hd;have hmE : ∀ j ∈ L.erase i, j ∈ L := fun j hj => List.mem_of_mem_erase hj;have hl : ∀ j ∈ L.erase i, i ≠ j ∧ z8e ops i j = false := fun j hj => ⟨fun e => by subst e; exact absurd hj (fun hx => (hi.nd.mem_erase_iff.1 hx).1 rfl), z2v.1 hfr j hj⟩
    have hnodep : ∀ p ∈ D, listed.getD p false = false → zbe ops i p = false := by
     intro p hp hpu;cases hx : zbe ops i p with
     | false => rfl
     | true =>
      have := z6i hi.down ho hall hx;rw [hpu] at this;cases this
    have hnext : ∀ (v : Value) (H' : Heap) (nx' : Nat) (C' : Corr) (v' : Value) (w' : World), ((H' = H ∧ nx' = nx) ∨ K nx' H') → OpsR P W0 ops acts K m (L.erase i) ⟨z9 T o.dst v, n, H', nx'⟩ Q' → SRel W0 C' ⟨z9 tm o.dst v, n, H', nx'⟩ (a.put o.dst v') w' → Stp nx H C nx' H' C' → wpAnyIn (rf ρ) 0 P .any ops Q fuel (listed.setIfInBounds i true) (a.put o.dst v') w' := by
     intro v H' nx' C' v' w' hK' h' hs' hS';refine ih (listed.setIfInBounds i true) (z9 tm o.dst v) m (i :: D) (L.erase i) (z9 T o.dst v) H' nx' C' _ w' ⟨by simp [hi.size], hdown', ?_, ?_, ?_, ?_, hi.nd.erase i, fun j hj => hi.lt j (hmE j hj), ?_, ?_, ?_⟩ hcount hs' (hS.trans hS') ((z0T _ _ _).trans hdf) (by rcases hK' with ⟨rfl, rfl⟩ | hK'; exact hK; exact hK') h'
     ·intro j hj
      rw [getD_set_ne false (hl j hj).1];exact hi.unl j (hmE j hj)
     ·intro j hj
      rcases hi.all j hj with h | h
      ·exact .inl (List.mem_cons_of_mem _ h)
      ·by_cases e : j = i
       ·exact .inl (e ▸ List.mem_cons_self)
       ·exact .inr ((List.mem_erase_of_ne e).2 h)
     ·intro p hp j hj
      rcases List.mem_cons.1 hp with rfl | hp
      ·exact (hl j hj).1
      ·exact hi.disj p hp j (hmE j hj)
     ·intro p hp j hj
      rcases List.mem_cons.1 hp with rfl | hp
      ·exact (hl j hj).2
      ·exact hi.topo p hp j (hmE j hj)
     ·intro p hp hpu
      rcases List.mem_cons.1 hp with rfl | hp
      ·rw [z0e hlts] at hpu
       cases hpu
      ·have hne : i ≠ p := fun e => hi.disj p hp i hL e.symm
       rw [getD_set_ne false hne] at hpu;obtain ⟨op, hop, hpe⟩ := hi.pend p hp hpu;refine ⟨op, hop, z8I hr hone ho hop (Ne.symm hne) (hi.topo p hp i hL) (fun _ => hnodep p hp hpu) v hmE hL hpe ?_⟩;rcases hK' with hK' | hK'
       ·exact .inl hK'
       ·exact .inr ⟨hE, hnodep p hp hpu, hK'⟩
     ·intro t ht
      by_cases hdt : o.dst = some t
      ·simp only [z9, hdt, if_true]
      ·have hb : tm t = T t := hi.eqv t fun p op hop hp hpu => ht p op hop (List.mem_cons_of_mem _ hp) (by
        have hne : i ≠ p := fun e => hi.disj p hp i hL e.symm;rw [getD_set_ne false hne]; exact hpu)
       cases hod : o.dst with
       | none => exact hb
       | some d =>
        have : t ≠ d := fun e => hdt (by rw [hod, e]);simp only [z9, this, if_false];exact hb
     ·intro p hp ha
      rcases List.mem_cons.1 hp with rfl | hp
      ·exact z0e hlts false
      ·exact getD_set_true (hi.actl p hp ha)
    have hwT : z1K ops tm o = z10 ops ⟨T, n, H, nx⟩ o := by
     rw [z0a (tm' := T) (fun d hd => hrd d (.inr hd))];exact z09 ⟨T, n, H, nx⟩ o
    have hevT : evR (z35 o) tm = evR (z35 o) T := z0u (fun t ht => hrd t (.inl ht));rcases h with ⟨hw, h⟩ | ⟨hw, ⟨v, e, hop, hKe, h⟩ | ⟨f, args, R, hc, hf2, hcall, h⟩⟩
    ·have hds : DStep P W0 ops tm n H nx o undef H nx := ⟨hdn, .inl ⟨hwT.trans hw, rfl, rfl, rfl⟩⟩
     exact hds.wp hs ho fun C' v' w' hs' hS' => hnext undef H nx C' v' w' (.inl ⟨rfl, rfl⟩) h hs' hS'
    ·have hds : DStep P W0 ops tm n H nx o v (e.H nx H) (e.nx nx) := ⟨hdn, .inr ⟨hwT.trans hw, .inl ⟨e, by rw [hevT]; exact (z3F (st := ⟨T, n, H, nx⟩)).trans hop, rfl, rfl⟩⟩⟩
     exact hds.wp hs ho fun C' v' w' hs' hS' => hnext v _ _ C' v' w' (.inr hKe) h hs' hS'
    ·refine zb4 hs hdn (hwT.trans hw) (by rw [hevT]; exact (z3v (st := ⟨T, n, H, nx⟩)).trans hc) hf2 hcall ho ?_
     intro v nx' H' C' v' w' hRv hs' hS';obtain ⟨hK', h'⟩ := h v nx' H' hRv;exact hnext v H' nx' C' v' w' (.inr hK') h' hs' hS'
theorem z3q {id : Nat} {st : ASt} {Q : AExit → ASt → Prop} (acts : List Nat) (hm : P.follows .mixedOrders = true) (hs : z6X ops = true) (hr : z2e ops acts = true) (perm : List Nat) (hperm : ((List.range ops.size).all perm.contains && perm.all (fun i => decide (i < ops.size)) && decide perm.Nodup) = true) (h0 : K st.nx st.H) (h : OpsR P W0 ops acts K perm.length perm st (Q .normal)) : Trip P W0 (.region id ops true) st Q := by
 obtain ⟨b1, b2, _⟩ := z3l hs;simp only [Bool.and_eq_true, decide_eq_true_eq] at hperm;obtain ⟨⟨hp1, hp2⟩, hp3⟩ := hperm;intro ρ C a w hrr hss;have hs' : SRel W0 C st a w.drew := ⟨hss.tm, hss.sz, hss.rel.drew⟩
 have hfalse : ∀ i, (Array.replicate ops.size false).getD i false = false := fun i => by
  rw [Array.getD_eq_getD_getElem?, Array.getElem?_replicate]; split <;> rfl
 refine wpIn_region_any hm (zd6 (P := P) (W0 := W0) (K := K) (n := st.n) (nx0 := st.nx) (H0 := st.H) (C0 := C) (df := a.defers) (Q' := Q .normal) hr b1 b2 (fun T H nx C' a' w' hq hs' hS hdf => ⟨.normal, _, C', rfl, hq, hs', hS, rfl, .of_eq hdf⟩) ops.size (Array.replicate ops.size false) st.tm perm.length [] perm st.tm st.H st.nx C a _ ?_ ?_ hs' (Stp.refl _ _ _) rfl h0 h)
 ·refine ⟨by simp, fun i o _ hl => (by rw [hfalse] at hl; cases hl), fun i _ => hfalse i, fun i hi => .inr ?_, fun p hp => (by cases hp), fun p hp => (by cases hp), hp3, fun i hi => (by have := List.all_eq_true.1 hp2 i hi; simpa using this), fun i hi => (by cases hi), fun t _ => rfl, fun p hp => (by cases hp)⟩
  have := List.all_eq_true.1 hp1 i (List.mem_range.2 hi);simpa using this
 ·have : ((List.range ops.size).filter fun i => !(Array.replicate ops.size false).getD i false) = List.range ops.size := by
   rw [List.filter_eq_self];intro i _;rw [hfalse]; rfl
  rw [this, List.length_range]
theorem zJ {i : Nat} {o : Oper} {st : ASt} {N : ASt → Prop} (ho : ops[i]? = some o) (he : acts.contains i = true) (h : OpsL P W0 ops [o] st fun s => K s.nx s.H ∧ N s) : ActStep P W0 ops acts K i st N := by
 obtain ⟨hd, h⟩ := h;refine ⟨o, ho, hd, he, ?_⟩;rcases h with ⟨hw, h⟩ | ⟨hw, ⟨v, e, hop, h⟩ | ⟨f, args, R, hc, hf, hcall, h⟩⟩
 ·exact .inl ⟨hw, h.2⟩
 ·exact .inr ⟨hw, .inl ⟨v, e, hop, h.1, h.2⟩⟩
 ·exact .inr ⟨hw, .inr ⟨f, args, R, hc, hf, hcall, fun v nx' H' hr => h v nx' H' hr⟩⟩
end
end Go.Am
namespace Go.Am
open Go.RowKit
section
variable {P : Program} {W0 : World} {ops : Array Oper} {acts : List Nat} {K : Nat → Heap → Prop}
theorem ActStep.skip {i j : Nat} {d d' : Tmp} {op : Op} {type : TypeId} {pos : String} {after : Array Edge} {tm : Nat → Value} {n nx : Nat} {H : Heap} {N : ASt → Prop} {want : Bool} (ho : ops[i]? = some ⟨some d, op, type, pos, after, some (j, want)⟩) (he : acts.contains i = true) (hd : d < n)
  (hj : (ops[j]?).bind (·.dst) = some d') (hb : tm d' = .bool (!want)) (h : N ⟨z9 tm (some d) undef, n, H, nx⟩) : ActStep P W0 ops acts K i ⟨tm, n, H, nx⟩ N :=
 ⟨_, ho, by simp [z1c, hd], he, .inl ⟨by cases want <;> simp [z10, hj, hb], h⟩⟩
end
theorem zz {H : Heap} {b e : Nat} {c vs : List Value} {t : Option Nat} {q : Option TypeId} (h : H b = some (.cells c e t false q)) (hl : vs.length = c.length) (ho : vs.all (·.oneCell') = true) : z3Q H ⟨b, 0, t⟩ vs = some (.cells vs e t false q) := by
 unfold z3Q;simp only [h];rw [if_pos ⟨trivial, by omega, trivial, ho⟩];simp [hl]
end Go.Am
namespace Go.Am
open Go.RowKit
section
variable {P : Program} {W0 : World} {H : Heap} {nx n : Nat} {ev : Operand → Option Value} {dst : Option Tmp} {type : TypeId} {pos : String} {after : Array Edge} {guard : Option (Nat × Bool)}
theorem z9d {b m sz bytes : Nat} {el : TypeId} {u : Value} {xs z : List Value} {q : Option TypeId} {ro : Bool} {esz : Nat} {x y : Operand} {st xt : TypeId} {xd : TypeDesc} (hx : ev x = some (.slice (some ⟨b, 0, none⟩) 0 0)) (hy : ev y = some u)
  (hH : H b = some (.cells [] esz none ro q))
  (hs : z2T H sz u none = some (m, xs)) (h1 : xs.all (·.oneCell') = true) (hm : m ≠ 0) (hst : P.underlying st = some (.slice el)) (hxt : P.underlying xt = some xd) (hxd : z2U xd = true)
  (hsz : z1r P el = some sz) (hby : z0n P el = some bytes) (hz : z0M P el = some z) (hzl : z.length = sz) (hle : m ≤ 1099511627776) (hle2 : (2 * m + 192) * bytes ≤ 281474976710656) :
  aop P H nx ev ⟨dst, .call ⟨.builtin .append, #[x, y], #[st, xt]⟩, type, pos, after, guard⟩ = some (.slice (some ⟨nx, 0, some nx⟩) m m, .new (.cells xs sz (some nx) false (some el))) := by
 have hg : z0L H ⟨b, 0, none⟩ 0 = some [] := by
  unfold z0L;simp only [hH];rw [if_pos ⟨trivial, by simp⟩];simp
 simp [aop, hx, hy, z0q, z0s, z2t, hst, hxt, hsz, hby, hz, hxd, hzl, hs, hm, hH, hle, hle2, hg];rw [if_pos (by simpa using h1)]
theorem z80 {b sz bytes : Nat} {el : TypeId} {u : Value} {cs xs z : List Value} {q : Option TypeId} {tg : Option Nat} {ro : Bool} {esz : Nat} {x y : Operand} {st xt : TypeId} {xd : TypeDesc} (hx : ev x = some (.slice (some ⟨b, 0, tg⟩) 0 0)) (hy : ev y = some u)
  (hH : H b = some (.cells cs esz tg ro q))
  (hs : z2T H sz u none = some (0, xs)) (h1 : xs.all (·.oneCell') = true) (hst : P.underlying st = some (.slice el)) (hxt : P.underlying xt = some xd) (hxd : z2U xd = true)
  (hsz : z1r P el = some sz) (hby : z0n P el = some bytes) (hz : z0M P el = some z) (hzl : z.length = sz) :
  aop P H nx ev ⟨dst, .call ⟨.builtin .append, #[x, y], #[st, xt]⟩, type, pos, after, guard⟩ = some (.slice (some ⟨b, 0, tg⟩) 0 0, .none) := by
 simp [aop, hx, hy, z0q, z0s, z2t, hst, hxt, hsz, hby, hz, hxd, hzl, hs, hH];rw [if_pos (by simpa using h1)]
end
def RowE {α : Type} (enc : α → List Value) (sz : Nat) (el : TypeId) (H : Heap) (ob : Option (Nat × Nat)) (v : Value) (l : List α) : Prop :=
 OwnOf enc sz el H ob v l ∨ (ob = none ∧ l = [] ∧ ∃ b esz ro q, v = .slice (some ⟨b, 0, none⟩) 0 0 ∧ H b = some (.cells [] esz none ro q))
theorem RowE.at {α : Type} {enc : α → List Value} {sz : Nat} {el : TypeId} {H : Heap} {ob : Option (Nat × Nat)} {v : Value} {l : List α} (hk : ∀ x, (enc x).length = sz) (h : RowE enc sz el H ob v l) : RowsAt enc sz H v l := by
 rcases h with h | ⟨_, rfl, b, esz, ro, q, rfl, _⟩
 ·exact h.at hk
 ·exact .inr ⟨_, 0, rfl, fun i hi => absurd hi (by simp)⟩
theorem RowE.same {α : Type} {enc : α → List Value} {sz : Nat} {el : TypeId} {H H' : Heap} {nx nx' : Nat} {ob : Option (Nat × Nat)} {v : Value} {l : List α} (h : RowE enc sz el H ob v l) (hx : Ext nx H nx' H') (hok : ∀ id o, H id = some o → id < nx) (hlt : ∀ b t, ob = some (b, t) → b < nx) : RowE enc sz el H' ob v l := by
 rcases h with h | ⟨h1, h2, b, esz, ro, q, rfl, hH⟩
 ·exact .inl (h.ext hx hlt)
 ·exact .inr ⟨h1, h2, b, esz, ro, q, rfl, by rw [hx.2 b (hok _ _ hH)]; exact hH⟩
structure AppE {α : Type} (enc : α → List Value) (sz : Nat) (el : TypeId) (nx : Nat) (H : Heap) (ob : Option (Nat × Nat)) (l : List α) (v' : Value) (nx' : Nat) (H' : Heap) (ob' : Option (Nat × Nat)) : Prop where
 own : RowE enc sz el H' ob' v' l
 blk : ∀ b' t', ob' = some (b', t') → b' < nx' ∧ (b' = nx ∨ ∃ t, ob = some (b', t))
 le : nx ≤ nx'
 same : ∀ i, i < nx → (∀ b t, ob = some (b, t) → i ≠ b) → H' i = H i
 ok : (∀ b t, ob = some (b, t) → b < nx) → (∀ id o, H id = some o → id < nx) → ∀ id o, H' id = some o → id < nx'
attribute [local irreducible] aop OpsL Trip zC z36 OpsK OpsR
section
variable {P : Program} {W0 : World} {H : Heap} {nx n : Nat} {type : TypeId} {pos : String} {after : Array Edge} {ops : Array Oper} {l : List Oper} {tm : Nat → Value} {QQ : ASt → Prop} {d : Tmp}
theorem z1b {α : Type} {enc : α → List Value} {sz bytes : Nat} {z : List Value} {el st xt : TypeId} {ob : Option (Nat × Nat)} {v u : Value} {zs us : List α} {x y : Operand} (hk : ∀ x, (enc x).length = sz) (h1 : ∀ x, (enc x).all (·.oneCell') = true) (h0 : 0 < sz) (hd : d < n) (h : RowE enc sz el H ob v zs) (hu : RowsAt enc sz H u us) (hx : ASt.ev ⟨tm, n, H, nx⟩ x = some v) (hy : ASt.ev ⟨tm, n, H, nx⟩ y = some u) (hb : ∀ b t, ob = some (b, t) → b < nx)
  (hst : P.underlying st = some (.slice el)) (hxt : P.underlying xt = some (.slice el)) (hsz : z1r P el = some sz) (hby : z0n P el = some bytes) (hz : z0M P el = some z) (hzl : z.length = sz) (hle : zs.length + us.length ≤ 1000000) (hbl : bytes ≤ 1000)
  (hc : ∀ v' nx' H' ob', AppE enc sz el nx H ob (zs ++ us) v' nx' H' ob' → OpsL P W0 ops l ⟨z9 tm (some d) v', n, H', nx'⟩ QQ) :
  OpsL P W0 ops (⟨some d, .call ⟨.builtin .append, #[x, y], #[st, xt]⟩, type, pos, after, none⟩ :: l) ⟨tm, n, H, nx⟩ QQ := by
 rcases h with h | ⟨rfl, rfl, b, esz, ro, q, rfl, hH⟩
 ·exact zR hk h1 h0 hd h hu hx hy hb hst hxt hsz hby hz hzl hle hbl fun v' nx' H' ob' hA => hc v' nx' H' ob' ⟨.inl hA.own, hA.blk, hA.le, hA.same, hA.ok⟩
 ·have hsrc := z7A hk h0 hu
  have hall : (us.flatMap enc).all (·.oneCell') = true := by
   rw [List.all_eq_true];intro v hv;obtain ⟨x, _, hx⟩ := List.mem_flatMap.1 hv;exact List.all_eq_true.1 (h1 x) v hx
  by_cases hl0 : us.length = 0
  ·have : us = [] := List.eq_nil_of_length_eq_zero hl0
   subst this;refine z20 hd (z80 hx hy hH hsrc hall hst hxt rfl hsz hby hz hzl) (hc _ _ _ none ⟨.inr ⟨rfl, rfl, b, esz, ro, q, rfl, hH⟩, fun b' t' e => (by cases e), Nat.le_refl _, fun _ _ _ => rfl, fun _ h => h⟩)
  ·have hm1 : (2 * us.length + 192) * bytes ≤ 281474976710656 := by
    simp only [List.length_nil, Nat.zero_add] at hle;have : (2 * us.length + 192) * bytes ≤ (2 * us.length + 192) * 1000 := Nat.mul_le_mul_left _ hbl;omega
   refine OpsL.new hd (z9d hx hy hH hsrc hall hl0 hst hxt rfl hsz hby hz hzl (by simp at hle; omega) hm1) (hc _ _ _ (some (nx, nx)) ⟨.inl ⟨rfl, by rw [List.nil_append, z03 hk], [], by rw [z6, List.append_nil, List.nil_append]⟩, fun b' t' e => ?_, Nat.le_succ _, fun i hi _ => z5 (by omega), fun _ hok => zB hok⟩);cases e;exact ⟨Nat.lt_succ_self _, .inl rfl⟩
end
def z59 (x : Int) : List Value := [.int .i64 x]
theorem z2g (x : Int) : (z59 x).length = 1 := rfl
theorem z3h (x : Int) : (z59 x).all (·.oneCell') = true := rfl
theorem z2m {H : Heap} {v : Value} {l : List Int} (h : IntsAt H v l) : RowsAt z59 1 H v l := by
 rcases h with h | ⟨a, c, rfl, hc⟩
 ·exact .inl h
 ·exact .inr ⟨a, c, rfl, fun i hi => by have := hc i hi; simpa [zb, z59] using this⟩
theorem z0S {H : Heap} {v : Value} {l : List Int} (h : RowsAt z59 1 H v l) : IntsAt H v l := by
 rcases h with h | ⟨a, c, rfl, hc⟩
 ·exact .inl h
 ·exact .inr ⟨a, c, rfl, fun i hi => by have := hc i hi; simpa [zb, z59] using this⟩
def AppI (H : Heap) (ob : Option (Nat × Nat)) (el : TypeId) (v : Value) (xs : List Int) : Prop :=
 OwnInts H ob el v xs ∨ ∃ b t, ob = some (b, t) ∧ v = .slice (some ⟨b, 0, none⟩) xs.length xs.length ∧ xs ≠ [] ∧ H b = some (.cells (xs.map (.int .i64 ·)) 1 none false (some el))
theorem AppI.same {H H' : Heap} {ob : Option (Nat × Nat)} {el : TypeId} {v : Value} {xs : List Int} (hs : ∀ b t, ob = some (b, t) → H' b = H b) (h : AppI H ob el v xs) : AppI H' ob el v xs := by
 rcases h with h | ⟨b, t, rfl, h1, h2, h3⟩
 ·left
  cases ob with
  | none => exact h
  | some bt =>
   obtain ⟨b, t⟩ := bt;obtain ⟨h1, h2, rest, h3⟩ := h;exact ⟨h1, h2, rest, by rw [hs b t rfl]; exact h3⟩
 ·exact .inr ⟨b, t, rfl, h1, h2, by rw [hs b t rfl]; exact h3⟩
theorem AppI.at {H : Heap} {ob : Option (Nat × Nat)} {el : TypeId} {v : Value} {xs : List Int} (h : AppI H ob el v xs) : IntsAt H v xs := by
 rcases h with h | ⟨b, t, rfl, rfl, h2, h3⟩
 ·exact OwnInts.at h
 ·exact NumsAt.own (rest := []) (by rw [List.append_nil]; exact h3)
section
variable {P : Program} {W0 : World} {H : Heap} {nx n : Nat} {ev : Operand → Option Value} {dst : Option Tmp} {type : TypeId} {pos : String} {after : Array Edge} {guard : Option (Nat × Bool)}
theorem z3P {b k m sz bytes : Nat} {el : TypeId} {u : Value} {cs xs z : List Value} {q : Option TypeId} {ro : Bool} {esz : Nat} {x y : Operand} {st xt : TypeId} {xd : TypeDesc} (hx : ev x = some (.slice (some ⟨b, 0, none⟩) k k)) (hy : ev y = some u)
  (hH : H b = some (.cells cs esz none ro q)) (hc : cs.length = k * sz)
  (hs : z2T H sz u none = some (m, xs)) (h1 : xs.all (·.oneCell') = true) (hm : m ≠ 0) (hst : P.underlying st = some (.slice el)) (hxt : P.underlying xt = some xd) (hxd : z2U xd = true)
  (hsz : z1r P el = some sz) (hby : z0n P el = some bytes) (hz : z0M P el = some z) (hzl : z.length = sz) (hle : k + m ≤ 1099511627776) (hle2 : (2 * (k + m) + 192) * bytes ≤ 281474976710656) :
  aop P H nx ev ⟨dst, .call ⟨.builtin .append, #[x, y], #[st, xt]⟩, type, pos, after, guard⟩ = some (.slice (some ⟨nx, 0, some nx⟩) (k + m) (k + m), .new (.cells (cs ++ xs) sz (some nx) false (some el))) := by
 have hg : z0L H ⟨b, 0, none⟩ (k * sz) = some cs := by
  unfold z0L;simp only [hH];rw [if_pos ⟨trivial, by omega⟩];simp [← hc]
 simp [aop, hx, hy, z0q, z0s, z2t, hst, hxt, hsz, hby, hz, hxd, hzl, hs, hm, hH, hle, hle2, hg];rw [if_pos (by simpa using h1), if_neg (by omega : ¬ (k + m ≤ k))]
end
section
variable {P : Program} {W0 : World} {H : Heap} {nx n : Nat} {ops : Array Oper} {l : List Oper} {tm : Nat → Value} {QQ : ASt → Prop}
theorem z9q {d1 d2 dy : Tmp} {x : Operand} {st el ty1 ty2 : TypeId} {p1 p2 : String} {af1 af2 : Array Edge} {a : Int} {v : Value} {ob : Option (Nat × Nat)} {xs : List Int}
  (hd1 : d1 < n) (hd2 : d2 < n) (hx : ASt.ev ⟨tm, n, H, nx⟩ x = some (.int .i64 a)) (hne : dy ≠ d1) (hy : tm dy = v) (hv : AppI H ob el v xs) (hob : ∀ b t, ob = some (b, t) → b < nx)
  (hst : P.underlying st = some (.slice el)) (hsz : z1r P el = some 1) (hby : z0n P el = some 8) (hz : z0M P el = some [.int .i64 0]) (hle : xs.length ≤ 1000000000)
  (h : ∀ v' ob' H', OwnInts H' ob' el v' (xs ++ [a]) → (∃ b, ob' = some (b, nx + 1) ∧ (b = nx + 1 ∨ ∃ t, ob = some (b, t))) → (∀ k, k < nx → (∀ b t, ob = some (b, t) → k ≠ b) → H' k = H k) →
   OpsL P W0 ops l ⟨z9 (z9 tm (some d1) (.slice (some ⟨nx, 0, none⟩) 1 1)) (some d2) v', n, H', nx + 1 + 1⟩ QQ) :
  OpsL P W0 ops (⟨some d1, .buildSlice st 1 #[(0, x)], ty1, p1, af1, none⟩ :: ⟨some d2, .call ⟨.builtin .append, #[.tmp dy, .tmp d1], #[st, st]⟩, ty2, p2, af2, none⟩ :: l) ⟨tm, n, H, nx⟩ QQ := by
 rcases hv with hv | ⟨b, t, rfl, rfl, hne0, hH⟩
 ·exact z1u hd1 hd2 hx hne hy hv hob hst hsz hby hz hle h
 ·have hb := hob b t rfl
  refine OpsL.new hd1 (z3O hx hst hsz hz) ?_
  refine OpsL.new hd2 (z3P (b := b) (sz := 1) (bytes := 8) (k := xs.length) (m := 1) (cs := xs.map (.int .i64 ·)) (xs := [.int .i64 a]) (u := .slice (some ⟨nx, 0, none⟩) 1 1) (xd := .slice el) (by simp [ASt.ev, z9, hne, hy]) (by simp [ASt.ev, z9])
   (by rw [z5 (show b ≠ nx by omega)]; exact hH) (by simp) (z72 (by exact z6) rfl (by omega)) rfl (by omega) hst hst rfl hsz hby hz rfl (by omega) (by omega)) ?_
  refine h _ (some (nx + 1, nx + 1)) _ ⟨by simp, by simp, [], ?_⟩ ⟨_, rfl, .inl rfl⟩ ?_
  ·rw [z6]; simp
  ·intro k hk _
   rw [z5 (by omega), z5 (by omega)]
end
end Go.Am
namespace Go.Am
open Go.RowKit
abbrev Thg := Int × Int
def z1m (t : Thg) : List Value := [.int .i64 t.1, .int .i64 t.2]
theorem z1C (t : Thg) : (z1m t).length = 2 := rfl
theorem z7F (t : Thg) : (z1m t).all (·.oneCell') = true := rfl
def thV (t : Thg) : Value := .agg (z1m t).toArray
def zN (m : R4) : List Thg := [(0, m.1), (1, m.2.1)]
def zV (m : R4) : List Thg := [(0, m.2.2.1), (1, m.2.2.2)]
def z0z (r : R4) : R4 := (r.1, 0, r.2.2.1, r.2.2.2)
def z12 (r : R4) : R4 := (r.1, r.2.2.1, r.2.2.2, 0)
def z1N (r : R3) : R4 := (r.1, 0, r.2.2, 0)
def zP (a : Aut) : List R4 := a.opens.map z0z ++ a.closes.map z12 ++ a.inners.map z1N
def z58 (p : List Thg) : List Value := p.flatMap z1m
section
variable {P : Program} {H : Heap} {nx : Nat} {ev : Operand → Option Value} {dst : Option Tmp} {type : TypeId} {pos : String} {after : Array Edge} {guard : Option (Nat × Bool)}
theorem z08 {t : TypeId} {x i : Operand} {ok : Bool} {v k r : Value} (hx : ev x = some v) (hi : ev i = some k) (h : z1O P H t v k ok = some r) : aop P H nx ev ⟨dst, .lookup t x i ok, type, pos, after, guard⟩ = some (r, .none) := by simp [aop, hx, hi, h]
theorem z0V {t : TypeId} {m k x : Operand} {a b c : Value} {e : Eff} (hm : ev m = some a) (hk : ev k = some b) (hx : ev x = some c) (h : zG P H t a b c = some e) : aop P H nx ev ⟨dst, .mapUpdate t m k x, type, pos, after, guard⟩ = some (undef, e) := by simp [aop, hm, hk, hx, h]
theorem z25 {t : TypeId} : aop P H nx ev ⟨dst, .makeMap t none, type, pos, after, guard⟩ = some (.map (some nx), .new (.map [] [] 0)) := by simp [aop, z0G, z5E]
theorem z7h {t e : TypeId} {x i : Operand} {cs : Array Value} {len : Nat} {k : IntKind} {j : Int} {sz : Nat} {v : Value} (hx : ev x = some (.agg cs)) (hi : ev i = some (.int k j)) (hu : P.underlying t = some (.array len e)) (hs : z1r P e = some sz) (h0 : 0 ≤ j) (h1 : j < len) (hv : z0A P e cs.toList (j.toNat * sz) = some v) :
  aop P H nx ev ⟨dst, .index t x i, type, pos, after, guard⟩ = some (v, .none) := by
 simp [aop, zaD, hx, hi, hu, hs, h0, h1, hv]
end
end Go.Am
namespace Go.Proofs.YteplpegfcpmflaaGreat
open Go.RowKit Go.Am
attribute [local irreducible] aop OpsL Trip zC z36 OpsK OpsR
theorem z6e : Am.z0F Tryz.prog 78 := ⟨Tryz.f78, Tryz.func78, by kernel_rfl, by kernel_rfl⟩
theorem zad : Am.z0F Tryz.prog 61 := ⟨Tryz.f61, Tryz.func61, by kernel_rfl, by kernel_rfl⟩
theorem z9b : Am.z0F Tryz.prog 60 := ⟨Tryz.f60, Tryz.func60, by kernel_rfl, by kernel_rfl⟩
theorem zgh (H : Heap) (x y : Thg) : aEq Tryz.prog H 60 101 (thV x) (thV y) = some (decide (x = y)) := by
 have h1 : Tryz.prog.stoodInHeld 101 = false := by kernel_rfl
 obtain ⟨a, b⟩ := x;obtain ⟨c, d⟩ := y
 have key : aEq Tryz.prog H 60 101 (thV (a, b)) (thV (c, d)) = some ((a == c) && (b == d)) := by
  cases h : (a == c) <;> cases h2 : (b == d) <;> simp [thV, z1m, aEq, z1B, z0A, z2E, h, h2, h1, Tryz.underlying101, Tryz.underlying3]
 rw [key];congr 1;rw [Bool.eq_iff_iff];simp
theorem z8N {v : Thg → Value} (H : Heap) (k : Thg) : ∀ (l : List Thg) (i : Nat), k ∉ l → z11 Tryz.prog H 101 (thV k) (l.map fun t => (thV t, v t)) i = some none := by
 intro l
 induction l with
 | nil => intro i _; rfl
 | cons t l ih =>
  intro i h;simp only [List.mem_cons, not_or] at h;simp only [List.map_cons, z11, zgh, decide_eq_false h.1];exact ih (i + 1) h.2
theorem zde {v : Thg → Value} (H : Heap) (k : Thg) : ∀ (l : List Thg) (i : Nat), k ∈ l → ∃ j, z11 Tryz.prog H 101 (thV k) (l.map fun t => (thV t, v t)) i = some (some (i + j, v k)) ∧ l[j]? = some k := by
 intro l
 induction l with
 | nil => intro i h; cases h
 | cons t l ih =>
  intro i h;by_cases e : k = t
  ·subst e
   exact ⟨0, by simp only [List.map_cons, z11, zgh, decide_true]; rfl, rfl⟩
  ·obtain ⟨j, h1, h2⟩ := ih (i + 1) ((List.mem_cons.1 h).resolve_left e)
   refine ⟨j + 1, ?_, h2⟩;simp only [List.map_cons, z11, zgh, decide_eq_false e];rw [h1];congr 3;omega
theorem z8n (k : Thg) (H : Heap) : z0Q Tryz.prog 60 101 (thV k) = true ∧ z8k H (thV k) = true ∧ z2f (thV k) = true := ⟨by kernel_rfl, by kernel_rfl, by kernel_rfl⟩
def FoundAt (H : Heap) (v : Value) (F : List Thg) : Prop := ∃ m bs clk, v = .map (some m) ∧ H m = some (.map (F.map fun t => (thV t, .agg #[])) bs clk)
theorem FoundAt.ext {nx nx' : Nat} {H H' : Heap} {v : Value} {F : List Thg} (h : FoundAt H v F) (hx : Ext nx H nx' H') (hok : ∀ id o, H id = some o → id < nx) : FoundAt H' v F := by
 obtain ⟨m, bs, clk, h1, h2⟩ := h;exact ⟨m, bs, clk, h1, by rw [hx.2 m (hok _ _ h2)]; exact h2⟩
theorem FoundAt.told {H : Heap} {v : Value} {F : List Thg} (h : FoundAt H v F) (k : Thg) : z1O Tryz.prog H 53 v (thV k) true = some (.tuple #[.agg #[], .bool (decide (k ∈ F))]) := by
 obtain ⟨m, bs, clk, rfl, hm⟩ := h;have hmo : z4z H (.map (some m)) = some (F.map fun t => (thV t, .agg #[])) := by simp only [z4z, hm]
 obtain ⟨c1, _, _⟩ := z8n k H;unfold z1O;simp only [Tryz.underlying53, hmo, show z6F Tryz.prog 103 = some (.agg #[]) from rfl, c1, show (Tryz.prog.underlying 101).isSome = true from rfl, and_self, if_true];by_cases hk : k ∈ F
 ·obtain ⟨j, h1, _⟩ := zde (v := fun _ => .agg #[]) H k F 0 hk
  simp only [h1, hk, decide_true]
 ·simp only [z8N (v := fun _ => .agg #[]) H k F 0 hk, hk, decide_false]
theorem FoundAt.put {H : Heap} {m : Nat} {bs : List Nat} {clk : Nat} {F : List Thg} {k : Thg} (hm : H m = some (.map (F.map fun t => (thV t, .agg #[])) bs clk)) (hk : k ∉ F) :
  zG Tryz.prog H 53 (.map (some m)) (thV k) (.agg #[]) = some (.upd m (.map ((F ++ [k]).map fun t => (thV t, .agg #[])) (bs ++ [clk]) (clk + 1))) := by
 obtain ⟨c1, c2, _⟩ := z8n k H;unfold zG;simp only [Tryz.underlying53, hm, c1, c2, show (Tryz.prog.underlying 101).isSome = true from rfl, and_self, if_true, z8N (v := fun _ => .agg #[]) H k F 0 hk, List.map_append, List.map_cons, List.map_nil]
theorem zf3 (W0 : World) {nx : Nat} {H : Heap} (m : R4) :
  ACalls Tryz.prog W0 78 [.agg (Go.Am.e4 m).toArray] nx H fun v nx' H' => v = .agg (z58 (zN m)).toArray ∧ Ext nx H nx' H' := by
 refine ze (fn := Tryz.f78) (c := _) Tryz.func78 rfl (fun tm n hn0 htm => ?_);have q0 : tm 0 = .agg (Go.Am.e4 m).toArray := htm 0;clear htm;replace hn0 : n = 10 := hn0;refine z5o ?_;refine OpsL.new (by subst_vars; decide) (zW evr) ?_;refine OpsL.new (by subst_vars; decide) (zw (l := rep 4 [.int .i64 0]) krf) ?_;obtain ⟨G, hG⟩ : ∃ G, G = (H.put nx (.cells (Value.agg (Go.Am.e4 m).toArray).cells.toList 0 none false (some 106))).put (nx + 1) (.cells (rep 4 [.int .i64 0]) 0 none false (some 108)) := ⟨_, rfl⟩;have hx0 : Ext nx H (nx + 1 + 1) G := by rw [hG]; exact zg.trans zg
 have gx : G nx = some (.cells (Go.Am.e4 m) 0 none false (some 106)) := by rw [hG, z5 (by omega), z6]; rfl
 have gy : G (nx + 1) = some (.cells (rep 4 [.int .i64 0]) 0 none false (some 108)) := by rw [hG, z6]
 have c1 : zb G ⟨nx, 0, none⟩ (.int .i64 m.1) := by exact z8 gx rfl
 have c2 : zb G ⟨nx, 0 + 1, none⟩ (.int .i64 m.2.1) := by rw [Nat.zero_add]; exact z8 gx rfl
 rw [← hG];clear hG q0;refine zhs ?_;refine z7 (zy (v := thV (0, m.1)) (l := [(0, .int .i64 0), (1, .int .i64 m.1)]) (by simp only [zt, ASt.ev, z9, ↓reduceIte, reduceIte, Option.some.injEq, Nat.reduceEqDiff, zY, zk, *]) krf) ?_;refine zcn ?_;refine z7 (zy (v := thV (1, m.2.1)) (l := [(0, .int .i64 1), (1, .int .i64 m.2.1)]) (by simp only [zt, ASt.ev, z9, ↓reduceIte, reduceIte, Option.some.injEq, Nat.reduceEqDiff, zY, zk, *]) krf) ?_;refine z7 (zy (v := .agg (z58 (zN m)).toArray) (l := [(0, thV (0, m.1)), (1, thV (1, m.2.1))]) (by simp only [zt, ASt.ev, z9, ↓reduceIte, reduceIte, Option.some.injEq, Nat.reduceEqDiff, *]) krf) ?_;refine OpsL.upd (zp (k := 4) evr evr (by exact rfl) rfl (o := .cells (z58 (zN m)) 0 none false (some 108)) (zz (vs := z58 (zN m)) gy rfl rfl)) ?_;refine zeB ?_;have hrd : z2a Tryz.prog (G.put (nx + 1) (.cells (z58 (zN m)) 0 none false (some 108))) 108 ⟨nx + 1, 0, none⟩ = some (.agg (z58 (zN m)).toArray) := z1f (k := 4) (by exact rfl) (by exact rfl) (by exact rfl) (zx z6 rfl);exact ⟨.inr rfl, _, z2d (a := ⟨nx + 1, 0, none⟩) stp hrd, rfl, hx0.1, fun i hi => by show Heap.put G _ _ i = _; rw [z5 (by omega)]; exact hx0.2 i hi⟩
theorem zh8 (W0 : World) {nx : Nat} {H : Heap} (m : R4) :
  ACalls Tryz.prog W0 61 [.agg (Go.Am.e4 m).toArray] nx H fun v nx' H' => v = .agg (z58 (zV m)).toArray ∧ Ext nx H nx' H' := by
 refine ze (fn := Tryz.f61) (c := _) Tryz.func61 rfl (fun tm n hn0 htm => ?_);have q0 : tm 0 = .agg (Go.Am.e4 m).toArray := htm 0;clear htm;replace hn0 : n = 10 := hn0;refine z5o ?_;refine OpsL.new (by subst_vars; decide) (zW evr) ?_;refine OpsL.new (by subst_vars; decide) (zw (l := rep 4 [.int .i64 0]) krf) ?_;obtain ⟨G, hG⟩ : ∃ G, G = (H.put nx (.cells (Value.agg (Go.Am.e4 m).toArray).cells.toList 0 none false (some 106))).put (nx + 1) (.cells (rep 4 [.int .i64 0]) 0 none false (some 108)) := ⟨_, rfl⟩;have hx0 : Ext nx H (nx + 1 + 1) G := by rw [hG]; exact zg.trans zg
 have gx : G nx = some (.cells (Go.Am.e4 m) 0 none false (some 106)) := by rw [hG, z5 (by omega), z6]; rfl
 have gy : G (nx + 1) = some (.cells (rep 4 [.int .i64 0]) 0 none false (some 108)) := by rw [hG, z6]
 have c1 : zb G ⟨nx, 0 + 2, none⟩ (.int .i64 m.2.2.1) := by rw [Nat.zero_add]; exact z8 gx rfl
 have c2 : zb G ⟨nx, 0 + 3, none⟩ (.int .i64 m.2.2.2) := by rw [Nat.zero_add]; exact z8 gx rfl
 rw [← hG];clear hG q0;refine zhs ?_;refine z7 (zy (v := thV (0, m.2.2.1)) (l := [(0, .int .i64 0), (1, .int .i64 m.2.2.1)]) (by simp only [zt, ASt.ev, z9, ↓reduceIte, reduceIte, Option.some.injEq, Nat.reduceEqDiff, zY, zk, *]) krf) ?_;refine zcn ?_;refine z7 (zy (v := thV (1, m.2.2.2)) (l := [(0, .int .i64 1), (1, .int .i64 m.2.2.2)]) (by simp only [zt, ASt.ev, z9, ↓reduceIte, reduceIte, Option.some.injEq, Nat.reduceEqDiff, zY, zk, *]) krf) ?_;refine z7 (zy (v := .agg (z58 (zV m)).toArray) (l := [(0, thV (0, m.2.2.1)), (1, thV (1, m.2.2.2))]) (by simp only [zt, ASt.ev, z9, ↓reduceIte, reduceIte, Option.some.injEq, Nat.reduceEqDiff, *]) krf) ?_;refine OpsL.upd (zp (k := 4) evr evr (by exact rfl) rfl (o := .cells (z58 (zV m)) 0 none false (some 108)) (zz (vs := z58 (zV m)) gy rfl rfl)) ?_;refine zeB ?_;have hrd : z2a Tryz.prog (G.put (nx + 1) (.cells (z58 (zV m)) 0 none false (some 108))) 108 ⟨nx + 1, 0, none⟩ = some (.agg (z58 (zV m)).toArray) := z1f (k := 4) (by exact rfl) (by exact rfl) (by exact rfl) (zx z6 rfl);exact ⟨.inr rfl, _, z2d (a := ⟨nx + 1, 0, none⟩) stp hrd, rfl, hx0.1, fun i hi => by show Heap.put G _ _ i = _; rw [z5 (by omega)]; exact hx0.2 i hi⟩
theorem zaM (p : List Thg) (hp : p.length = 2) {i : Nat} (hi : i < 2) : z0A Tryz.prog 101 (z58 p) (i * 2) = some (thV (p[i]'(by omega))) := by
 have hfl := z03 z1C p;unfold z0A z58;rw [Tryz.underlying101];simp only [z2E, if_true, show z1r Tryz.prog 101 = some 2 from rfl];rw [if_pos (by rw [hfl]; omega), z5T z1C p i (by omega)];rfl
theorem zfU (W0 : World) {nx : Nat} {H : Heap} {fv : Value} {F : List Thg} (m : R4) (hF : FoundAt H fv F) :
  ACalls Tryz.prog W0 60 [fv, .agg (Go.Am.e4 m).toArray] nx H fun v nx' H' => v = .bool (decide (∀ t ∈ zN m, t ∈ F)) ∧ Ext nx H nx' H' := by
 refine ze (fn := Tryz.f60) (c := _) Tryz.func60 rfl (fun tm n hn0 htm => ?_);have q0 : tm 0 = fv := htm 0;have q1 : tm 1 = .agg (Go.Am.e4 m).toArray := htm 1;clear htm;replace hn0 : n = 23 := hn0;refine Trip.ok fun hok => ?_;replace hok : ∀ id o, H id = some o → id < nx := hok;refine zdx ?_;refine OpsL.new (by subst_vars; decide) (zW evr) ?_;have hx0 : Ext nx H (nx + 1) (H.put nx (.cells (Value.agg (Go.Am.e4 m).toArray).cells.toList 0 none false (some 106))) := zg;have gx : (H.put nx (.cells (Value.agg (Go.Am.e4 m).toArray).cells.toList 0 none false (some 106))) nx = some (.cells (Go.Am.e4 m) 0 none false (some 106)) := z6;have hok1 := zB (o := .cells (Value.agg (Go.Am.e4 m).toArray).cells.toList 0 none false (some 106)) hok;generalize H.put nx (.cells (Value.agg (Go.Am.e4 m).toArray).cells.toList 0 none false (some 106)) = G at *;refine z9r ?_;refine z7 (za (k := 4) (vs := Go.Am.e4 m) evd (by exact rfl) rfl (by exact rfl) (zx gx rfl)) ?_;refine z0g (hf := z6e) (hc := (zf3 W0 m)) (h := ?_);rintro v1 n1 H1 ⟨rfl, x1⟩;have hx1 := hx0.trans x1
 repeat (first | refine z7 (by exact omv) ?_ | refine Trip.block ?_ | (refine OpsL.nil ?_; (change Trip _ _ _ _ _)))
 have hlen : (zN m).length = 2 := rfl;refine zu (fun (i : Nat) st => ∃ (tm' : Nat → Value) (nx' : Nat) (H' : Heap), st = ⟨tm', n, H', nx'⟩ ∧ Ext nx H nx' H' ∧ tm' 0 = fv ∧ tm' 10 = .agg (z58 (zN m)).toArray ∧ tm' 11 = .int .i64 i ∧ i ≤ 2 ∧ ∀ (j : Nat) (h : j < (zN m).length), j < i → (zN m)[j] ∈ F) (fun i => 2 - i) 0 ?_ ?_
 ·exact ⟨_, _, _, rfl, hx1, stp, stp, stp, by omega, fun j _ h => by omega⟩
 ·clear q0 q1
  rintro i st ⟨tm, nx', H', rfl, hx, q0, q10, q11, hi, hs⟩;by_cases hlt : i < 2
  ·have hp := zaM (zN m) hlen hlt
   generalize ht : (zN m)[i]'(by omega) = t at *;refine zg9 ?_;refine zfq ?_;refine z7 (z7h (len := 2) (e := 101) (sz := 2) (v := thV t) evr evr (by exact rfl) (by exact rfl) (by omega) (by omega) (by show z0A _ _ (z58 (zN m)) ((i : Int).toNat * 2) = _; rw [Int.toNat_natCast]; exact hp)) ?_;refine OpsL.new (by subst_vars; decide) (zw (l := rep 2 [.int .i64 0]) krf) ?_;refine OpsL.upd (zp (k := 2) (u := thV t) evd evd (by exact rfl) rfl (o := .cells (z1m t) 0 none false (some 101)) (zz (vs := z1m t) z6 rfl rfl)) ?_;obtain ⟨G4, hG4⟩ : ∃ G4, G4 = (H'.put nx' (.cells (rep 2 [.int .i64 0]) 0 none false (some 101))).put nx' (.cells (z1m t) 0 none false (some 101)) := ⟨_, rfl⟩;have hx4 : Ext nx' H' (nx' + 1) G4 := ⟨Nat.le_succ _, fun j hj => by rw [hG4, z5 (by omega), z5 (by omega)]⟩;have hb4 : G4 nx' = some (.cells (z1m t) 0 none false (some 101)) := by rw [hG4, z6]
   first | rw [← hG4] | skip
   clear hG4;have hF4 := (hF.ext (hx.trans hx4) hok).told t;refine z7i ?_;refine z7 (za (k := 2) (vs := z1m t) evd (by exact rfl) rfl (by exact rfl) (zx hb4 rfl)) ?_;refine z7 (z08 evd evr hF4) ?_;refine zhN ?_;refine OpsL.new (by subst_vars; decide) (zw (l := []) krf) ?_;refine OpsL.upd (zp (k := 0) (u := .agg #[]) evd evr (by exact rfl) rfl (o := .cells [] 0 none false (some 103)) (zz (vs := []) z6 rfl rfl)) ?_;obtain ⟨G5, hG5⟩ : ∃ G5, G5 = (G4.put (nx' + 1) (.cells [] 0 none false (some 103))).put (nx' + 1) (.cells [] 0 none false (some 103)) := ⟨_, rfl⟩;have hx5 : Ext (nx' + 1) G4 (nx' + 1 + 1) G5 := ⟨Nat.le_succ _, fun j hj => by rw [hG5, z5 (by omega), z5 (by omega)]⟩
   first | rw [← hG5] | skip
   clear hG5 hF4 hb4;have hx9 := (hx.trans hx4).trans hx5;by_cases htF : t ∈ F
   ·simp only [htF, decide_true]
    repeat (first | (refine z7 (by first | exact omv | exact z0x | exact z3R) ?_) | refine Trip.seq ?_ | refine zd ?_ | (refine OpsL.nil ?_; (change Trip _ _ _ _ _)))
    refine zbc ?_;refine ⟨i + 1, ⟨_, _, _, rfl, hx9, stp, stp, stp, by omega, fun j hj hji => ?_⟩, by omega⟩;by_cases e : j = i
    ·subst e; rw [ht]; exact htF
    ·exact hs j hj (by omega)
   ·simp only [htF, decide_false]
    repeat (first | (refine z7 (by first | exact omv | exact z0x | exact z3R) ?_) | refine Trip.seq ?_ | refine zd ?_ | (refine OpsL.nil ?_; (change Trip _ _ _ _ _)))
    refine zg5 ?_;refine ⟨.inr rfl, _, zh, ?_, hx9⟩;have : ¬ ∀ t ∈ zN m, t ∈ F := fun h => htF (by rw [← ht]; exact h _ (List.getElem_mem _));rw [decide_eq_false this];simp [z9]
  ·have hi2 : i = 2 := by omega
   subst hi2;refine zg8 ?_;refine zhB ?_;refine ⟨.inr rfl, _, zh, ?_, hx⟩
   have : ∀ t ∈ zN m, t ∈ F := fun t ht => by
    obtain ⟨j, hj, rfl⟩ := List.getElem_of_mem ht;exact hs j hj (by omega)
   rw [decide_eq_true this];simp [z9]
end Go.Proofs.YteplpegfcpmflaaGreat
namespace Go.Am
open Go.RowKit
theorem z0r (r : R4) : (e4 r).length = 4 := rfl
theorem z5c (r : R4) : (e4 r).all (·.oneCell') = true := rfl
theorem z3C (r : R3) : (e3 r).length = 3 := rfl
theorem zf7 (r : R3) : (e3 r).all (·.oneCell') = true := rfl
def z1L (ss : List (ByteArray × Int)) (k : Int) (i : Nat) : List Int := (((List.range i).filter fun j => match ss[j]? with | some x => decide (x.2 = k) | none => false).map fun (j : Nat) => (j : Int))
theorem z9W (ss : List (ByteArray × Int)) (k : Int) {i : Nat} (hi : i < ss.length) : z1L ss k (i + 1) = if ss[i].2 = k then z1L ss k i ++ [(i : Int)] else z1L ss k i := by
 unfold z1L;rw [List.range_succ, List.filter_append, List.map_append];simp only [List.filter_cons, List.filter_nil, List.getElem?_eq_getElem hi, decide_eq_true_eq];split <;> simp_all
theorem zbC (ss : List (ByteArray × Int)) (k : Int) (i : Nat) : (z1L ss k i).length ≤ i := by
 unfold z1L;rw [List.length_map];refine Nat.le_trans (List.length_filter_le _ _) ?_;simp
theorem zbB {ss : List (ByteArray × Int)} {k : Int} {i : Nat} (hi : i ≤ ss.length) {x : Int} (h : x ∈ z1L ss k i) : kdF ss x k = true := by
 unfold z1L at h;rw [List.mem_map] at h;obtain ⟨j, hj, rfl⟩ := h;rw [List.mem_filter, List.mem_range] at hj;obtain ⟨h1, h2⟩ := hj;unfold kdF;rw [Int.toNat_natCast];have h3 : j < ss.length := by omega
 simp only [List.getElem?_eq_getElem h3, decide_eq_true_eq] at h2 ⊢;simp [h2, h3]
def z3A (ss : List (ByteArray × Int)) (k x : Int) : Int := match (z1L ss k ss.length)[(x % ((z1L ss k ss.length).length : Int)).toNat]? with | some y => y | none => -1
theorem z4X {ss : List (ByteArray × Int)} {k x : Int} (h : 0 ≤ z3A ss k x) : kdF ss (z3A ss k x) k = true := by
 unfold z3A at *;split at h
 ·rename_i y hy
  exact zbB (Nat.le_refl _) (List.mem_of_getElem? hy)
 ·omega
def z4t (a : Aut) (p : Int) : Aut := ⟨a.N, a.G, a.init ++ [p], a.final, a.opens, a.closes, a.inners⟩
def zgy (a : Aut) (p : Int) : Aut := ⟨a.N, a.G, a.init, a.final ++ [p], a.opens, a.closes, a.inners⟩
def zeH (a : Aut) (p : R4) : Aut := ⟨a.N, a.G, a.init, a.final, a.opens ++ [p], a.closes, a.inners⟩
def zeI (a : Aut) (p : R4) : Aut := ⟨a.N, a.G, a.init, a.final, a.opens, a.closes ++ [p], a.inners⟩
def zgx (a : Aut) (p : R3) : Aut := ⟨a.N, a.G, a.init, a.final, a.opens, a.closes, a.inners ++ [p]⟩
def zbi (ss : List (ByteArray × Int)) (a : Aut) (x : Int) : Aut :=
 let y := x % 1099511627776
 let p := y / 8 % a.N
 let q := y / 80 % a.N
 let z := y / 800 % 7
 if y % 8 = 0 then z4t a p
 else if y % 8 = 1 then zgy a p
 else if y % 8 = 2 ∨ y % 8 = 3 then (if 0 ≤ z3A ss 1 z then zeH a (p, z3A ss 1 z, q, 1 + y / 8000 % a.G) else a)
 else if y % 8 = 4 ∨ y % 8 = 5 then (if 0 ≤ z3A ss 2 z then zeI a (p, z3A ss 2 z, y / 8000 % (a.G + 1), q) else a)
 else (if 0 ≤ z3A ss 3 z then zgx a (p, z3A ss 3 z, q) else a)
def z48 (size most : Int) : Aut := ⟨1 + size % most, 1 + size.tdiv 7 % 2, [], [], [], [], []⟩
def z5r (ss : List (ByteArray × Int)) (size most : Int) (ns : List Int) (i : Nat) : Aut := (ns.take i).foldl (zbi ss) (z48 size most)
def z8j (a : Aut) : Aut := if a.init = [] then z4t a 0 else a
def z4g (ss : List (ByteArray × Int)) (size most : Int) (ns : List Int) : Aut := z8j (z5r ss size most ns 24)
theorem z79 (ss : List (ByteArray × Int)) (size most : Int) (ns : List Int) {i : Nat} (hi : i < ns.length) : z5r ss size most ns (i + 1) = zbi ss (z5r ss size most ns i) ns[i] := by
 unfold z5r;rw [List.take_succ_eq_append_getElem hi, List.foldl_append];rfl
structure GoodM (ss : List (ByteArray × Int)) (most : Int) (a : Aut) (i : Nat) : Prop where
 N0 : 1 ≤ a.N
 N1 : a.N ≤ most
 G0 : 1 ≤ a.G
 G1 : a.G ≤ 2
 init : a.init.all (stF a.N) = true
 final : a.final.all (stF a.N) = true
 opens : a.opens.all (okO ss a) = true
 closes : a.closes.all (okC ss a) = true
 inners : a.inners.all (okI ss a) = true
 len : a.init.length ≤ i ∧ a.final.length ≤ i ∧ a.opens.length ≤ i ∧ a.closes.length ≤ i ∧ a.inners.length ≤ i
theorem zax (ss : List (ByteArray × Int)) {size most : Int} (h : 1 ≤ most) : GoodM ss most (z48 size most) 0 := by
 have h1 := Int.emod_nonneg size (show most ≠ 0 by omega);have h2 := Int.emod_lt_of_pos size (show 0 < most by omega);have h3 := Int.emod_nonneg (size.tdiv 7) (show (2 : Int) ≠ 0 by omega);have h4 := Int.emod_lt_of_pos (size.tdiv 7) (show (0 : Int) < 2 by omega);exact ⟨by simp [z48]; omega, by simp [z48]; omega, by simp [z48]; omega, by simp [z48]; omega, rfl, rfl, rfl, rfl, rfl, by simp [z48]⟩
theorem z4D {α : Type} {p : α → Bool} {l : List α} {x : α} (h : l.all p = true) (hx : p x = true) : (l ++ [x]).all p = true := by
 rw [List.all_append, h];simp [hx]
theorem z5R {N x : Int} (h : 1 ≤ N) : stF N (x % N) = true := by
 have h1 := Int.emod_nonneg x (show N ≠ 0 by omega);have h2 := Int.emod_lt_of_pos x (show 0 < N by omega);simp [stF, h1, h2]
theorem GoodM.up {ss : List (ByteArray × Int)} {most : Int} {a : Aut} {i : Nat} (h : GoodM ss most a i) : GoodM ss most a (i + 1) :=
 ⟨h.N0, h.N1, h.G0, h.G1, h.init, h.final, h.opens, h.closes, h.inners, by have := h.len; omega⟩
theorem GoodM.putI {ss : List (ByteArray × Int)} {most : Int} {a : Aut} {i : Nat} {p : Int} (h : GoodM ss most a i) (hp : stF a.N p = true) : GoodM ss most (z4t a p) (i + 1) :=
 ⟨h.N0, h.N1, h.G0, h.G1, z4D h.init hp, h.final, h.opens, h.closes, h.inners, by have := h.len; simp [Am.z4t]; omega⟩
theorem GoodM.putF {ss : List (ByteArray × Int)} {most : Int} {a : Aut} {i : Nat} {p : Int} (h : GoodM ss most a i) (hp : stF a.N p = true) : GoodM ss most (zgy a p) (i + 1) :=
 ⟨h.N0, h.N1, h.G0, h.G1, h.init, z4D h.final hp, h.opens, h.closes, h.inners, by have := h.len; simp [Am.zgy]; omega⟩
theorem GoodM.putO {ss : List (ByteArray × Int)} {most : Int} {a : Aut} {i : Nat} {p : R4} (h : GoodM ss most a i) (hp : okO ss a p = true) : GoodM ss most (zeH a p) (i + 1) :=
 ⟨h.N0, h.N1, h.G0, h.G1, h.init, h.final, z4D h.opens hp, h.closes, h.inners, by have := h.len; simp [Am.zeH]; omega⟩
theorem GoodM.putC {ss : List (ByteArray × Int)} {most : Int} {a : Aut} {i : Nat} {p : R4} (h : GoodM ss most a i) (hp : okC ss a p = true) : GoodM ss most (zeI a p) (i + 1) :=
 ⟨h.N0, h.N1, h.G0, h.G1, h.init, h.final, h.opens, z4D h.closes hp, h.inners, by have := h.len; simp [Am.zeI]; omega⟩
theorem GoodM.putN {ss : List (ByteArray × Int)} {most : Int} {a : Aut} {i : Nat} {p : R3} (h : GoodM ss most a i) (hp : okI ss a p = true) : GoodM ss most (zgx a p) (i + 1) :=
 ⟨h.N0, h.N1, h.G0, h.G1, h.init, h.final, h.opens, h.closes, z4D h.inners hp, by have := h.len; simp [Am.zgx]; omega⟩
theorem GoodM.step {ss : List (ByteArray × Int)} {most : Int} {a : Aut} {i : Nat} (h : GoodM ss most a i) (x : Int) : GoodM ss most (zbi ss a x) (i + 1) := by
 have hy := Int.emod_nonneg x (show (1099511627776 : Int) ≠ 0 by omega);unfold zbi;have g1 := Int.emod_nonneg (x % 1099511627776 / 8000) (show a.G ≠ 0 by have := h.G0; omega);have g2 := Int.emod_lt_of_pos (x % 1099511627776 / 8000) (show 0 < a.G by have := h.G0; omega);have g3 := Int.emod_nonneg (x % 1099511627776 / 8000) (show a.G + 1 ≠ 0 by have := h.G0; omega);have g4 := Int.emod_lt_of_pos (x % 1099511627776 / 8000) (show 0 < a.G + 1 by have := h.G0; omega);dsimp only;split
 ·exact h.putI (z5R h.N0)
 split
 ·exact h.putF (z5R h.N0)
 split
 ·split
  ·rename_i hk
   exact h.putO (by simp only [okO, z5R h.N0, z4X hk, btF, Bool.true_and, Bool.and_eq_true, decide_eq_true_eq]; omega)
  ·exact h.up
 split
 ·split
  ·rename_i hk
   exact h.putC (by simp only [okC, z5R h.N0, z4X hk, btF, Bool.true_and, Bool.and_eq_true, decide_eq_true_eq]; omega)
  ·exact h.up
 ·split
  ·rename_i hk
   exact h.putN (by simp only [okI, z5R h.N0, z4X hk, Bool.true_and])
  ·exact h.up
theorem z53 (ss : List (ByteArray × Int)) {size most : Int} (h : 1 ≤ most) (ns : List Int) : ∀ i, i ≤ ns.length → GoodM ss most (z5r ss size most ns i) i := by
 intro i
 induction i with
 | zero => intro _; exact zax ss h
 | succ i ih =>
  intro hi;rw [z79 ss size most ns (show i < ns.length by omega)];exact (ih (by omega)).step _
theorem GoodM.last {ss : List (ByteArray × Int)} {most : Int} {a : Aut} {i : Nat} (h : GoodM ss most a i) : GoodM ss most (z8j a) (i + 1) := by
 unfold z8j;split
 ·refine h.putI ?_
  have := h.N0;simp [stF];omega
 ·exact h.up
theorem z78 (ss : List (ByteArray × Int)) (size most : Int) (ns : List Int) {i : Nat} (h : ns.length ≤ i) : z5r ss size most ns i = z5r ss size most ns ns.length := by
 unfold z5r;rw [List.take_of_length_le h, List.take_length]
theorem zce (ss : List (ByteArray × Int)) {size most : Int} (h : 1 ≤ most) (ns : List Int) : GoodM ss most (z4g ss size most ns) 25 := by
 unfold z4g;by_cases h24 : 24 ≤ ns.length
 ·exact (z53 ss h ns 24 h24).last
 ·rw [z78 ss size most ns (show ns.length ≤ 24 by omega)]
  have := (z53 ss (size := size) h ns ns.length (Nat.le_refl _)).last;exact ⟨this.N0, this.N1, this.G0, this.G1, this.init, this.final, this.opens, this.closes, this.inners, by have := this.len; omega⟩
theorem GoodM.check {ss : List (ByteArray × Int)} {most : Int} {a : Aut} {i : Nat} (h : GoodM ss most a i) (hm : most ≤ 200) (hi : i ≤ 1000) : z0o ss a = true := by
 have h1 := h.len;have h2 := h.N0;have h3 := h.N1;have h4 := h.G0;have h5 := h.G1;unfold z0o z4y btF;simp only [h.init, h.final, h.opens, h.closes, h.inners, Bool.and_true, Bool.and_eq_true, decide_eq_true_eq];omega
theorem GoodM.lens {ss : List (ByteArray × Int)} {most : Int} {a : Aut} {i : Nat} (h : GoodM ss most a i) (hi : i ≤ 1000) : AutLen a := by
 have h1 := h.len;exact ⟨by omega, by omega, by omega, by omega, by omega⟩
end Go.Am
namespace Go.Proofs.YteplpegfcpmflaaGreat
open Go.RowKit Go.Am
attribute [local irreducible] aop OpsL Trip zC z36 OpsK OpsR
abbrev zch (H : Heap) (ob : Option (Nat × Nat)) (v : Value) (l : List R4) : Prop := OwnOf Go.Am.e4 4 106 H ob v l
theorem zL {H : Heap} {nx k : Nat} {o o' : AObj} (hok : ∀ id o, H id = some o → id < nx) (hk : H k = some o') : ∀ id p, (H.put k o) id = some p → id < nx := fun id p h => by
 by_cases e : id = k
 ·subst e; exact hok _ _ hk
 ·rw [z5 e] at h; exact hok _ _ h
theorem z6f : Am.z0F Tryz.prog 59 := ⟨Tryz.f59, Tryz.func59, by kernel_rfl, by kernel_rfl⟩
theorem zf4 (W0 : World) {nx : Nat} {H : Heap} {a : Aut} {vi vf vo vc vn : Value} (ha : AutIn H a vi vf vo vc vn) (hn : AutLen a) :
  ACalls Tryz.prog W0 59 [.agg (zA a vi vf vo vc vn).toArray] nx H fun v nx' H' => ∃ ob, zch H' ob v (zP a) ∧ Ext nx H nx' H' ∧ ∀ b t, ob = some (b, t) → nx ≤ b ∧ b < nx' := by
 obtain ⟨ai, ci, rfl⟩ := ha.init.slice;obtain ⟨af, cf, rfl⟩ := ha.final.slice;obtain ⟨ao, co, rfl⟩ := ha.opens.slice;obtain ⟨ac, cc, rfl⟩ := ha.closes.slice;obtain ⟨an, cn, rfl⟩ := ha.inners.slice;refine ze (fn := Tryz.f59) (c := _) Tryz.func59 rfl (fun tm n hn0 htm => ?_);have q0 : tm 0 = .agg (zA a (.slice ai a.init.length ci) (.slice af a.final.length cf) (.slice ao a.opens.length co) (.slice ac a.closes.length cc) (.slice an a.inners.length cn)).toArray := htm 0;clear htm;replace hn0 : n = 63 := hn0;refine Trip.ok fun hok => ?_;replace hok : ∀ id o, H id = some o → id < nx := hok;refine z5o ?_;refine OpsL.new (by subst_vars; decide) (zW evr) ?_;have hx0 : Ext nx H (nx + 1) (H.put nx (.cells (Value.agg (zA a (.slice ai a.init.length ci) (.slice af a.final.length cf) (.slice ao a.opens.length co) (.slice ac a.closes.length cc) (.slice an a.inners.length cn)).toArray).cells.toList 0 none false (some 30))) := zg;have gx : (H.put nx (.cells (Value.agg (zA a (.slice ai a.init.length ci) (.slice af a.final.length cf) (.slice ao a.opens.length co) (.slice ac a.closes.length cc) (.slice an a.inners.length cn)).toArray).cells.toList 0 none false (some 30))) nx = some (.cells (zA a (.slice ai a.init.length ci) (.slice af a.final.length cf) (.slice ao a.opens.length co) (.slice ac a.closes.length cc) (.slice an a.inners.length cn)) 0 none false (some 30)) := z6;have hokG := zB (o := .cells (Value.agg (zA a (.slice ai a.init.length ci) (.slice af a.final.length cf) (.slice ao a.opens.length co) (.slice ac a.closes.length cc) (.slice an a.inners.length cn)).toArray).cells.toList 0 none false (some 30)) hok;generalize H.put nx (.cells (Value.agg (zA a (.slice ai a.init.length ci) (.slice af a.final.length cf) (.slice ao a.opens.length co) (.slice ac a.closes.length cc) (.slice an a.inners.length cn)).toArray).cells.toList 0 none false (some 30)) = G at *;replace ha := ha.ext hx0 hok;have l1 := hn.opens;have l2 := hn.closes;have l3 := hn.inners
 repeat (first | (refine z7 (by first | exact z0x | exact ofa) ?_) | refine Trip.seq ?_ | refine zd ?_ | (refine OpsL.nil ?_; (change Trip _ _ _ _ _)))
 have cb0 : zb G ⟨nx, 0 + 4, none⟩ (.slice ao a.opens.length co) := by rw [Nat.zero_add]; exact z8 gx rfl
 repeat (first | (refine z7 (by first | exact omv | exact z1s | exact old) ?_) | refine Trip.block ?_ | (refine OpsL.nil ?_; (change Trip _ _ _ _ _)))
 refine Trip.mono (Q := fun e st => e = .exit 0 ∧ ∃ (tm' : Nat → Value) (nx' : Nat) (H' : Heap) (ob : Option (Nat × Nat)) (v : Value), st = ⟨tm', n, H', nx'⟩ ∧ Ext (nx + 1) G nx' H' ∧ (∀ b t, ob = some (b, t) → nx + 1 ≤ b ∧ b < nx') ∧ (∀ id o, H' id = some o → id < nx') ∧ zch H' ob v (a.opens.map z0z) ∧ tm' 1 = .pointer (some ⟨nx, 0, none⟩) ∧ tm' 3 = v) ?_ ?_
 ·refine zu (fun (i : Nat) st => ∃ (tm' : Nat → Value) (nx' : Nat) (H' : Heap) (ob : Option (Nat × Nat)) (v : Value), st = ⟨tm', n, H', nx'⟩ ∧ Ext (nx + 1) G nx' H' ∧ (∀ b t, ob = some (b, t) → nx + 1 ≤ b ∧ b < nx') ∧ (∀ id o, H' id = some o → id < nx') ∧ zch H' ob v ((a.opens.take i).map z0z) ∧ tm' 1 = .pointer (some ⟨nx, 0, none⟩) ∧ tm' 3 = v ∧ tm' 11 = .slice ao a.opens.length co ∧ tm' 12 = .int .i64 a.opens.length ∧ tm' 13 = .int .i64 i ∧ i ≤ a.opens.length) (fun i => a.opens.length - i) 0 ?_ ?_
  ·exact ⟨_, _, _, none, .slice none 0 0, rfl, Ext.refl, fun _ _ h => (by cases h), hokG, ⟨rfl, by simp, by simp⟩, stp, stp, stp, stp, stp, Nat.zero_le _⟩
  ·rintro i st ⟨tm, nx', H', ob, v, rfl, hx, hob, hok', hown, d1, d3, dsl, dln, dix, hi⟩
   by_cases hlt : i < a.opens.length
   ·obtain ⟨p, hp0, g⟩ := z01 (ha.opens.ext hx hokG) hlt
    subst hp0;have hst : (a.opens.take (i + 1)).map z0z = ((a.opens.take i).map z0z) ++ [z0z a.opens[i]] := by rw [List.take_succ_eq_append_getElem hlt, List.map_append]; rfl
    have hzl : ((a.opens.take i).map z0z).length ≤ 3000 := by simp only [List.length_append, List.length_map, List.length_take]; omega
    generalize (a.opens.take i).map z0z = zs at *;generalize a.opens[i] = r at *;refine zcj ?_;refine z7 (za (k := 4) (vs := Go.Am.e4 r) evr (by exact rfl) rfl (by exact rfl) g) ?_;refine OpsL.new (by subst_vars; decide) (zw (l := rep 4 [.int .i64 0]) (by exact rfl)) ?_;refine OpsL.upd (zp (k := 4) (u := .agg (Go.Am.e4 r).toArray) evd evd (by exact rfl) rfl (o := .cells (Go.Am.e4 r) 0 none false (some 43)) (zz (vs := Go.Am.e4 r) z6 rfl rfl)) ?_;obtain ⟨G4, hG4⟩ : ∃ G4, G4 = (H'.put nx' (.cells (rep 4 [.int .i64 0]) 0 none false (some 43))).put nx' (.cells (Go.Am.e4 r) 0 none false (some 43)) := ⟨_, rfl⟩;have hx4 : Ext nx' H' (nx' + 1) G4 := ⟨Nat.le_succ _, fun j hj => by rw [hG4, z5 (by omega), z5 (by omega)]⟩;have hok4 : ∀ id o, G4 id = some o → id < nx' + 1 := by rw [hG4]; exact zL (zB hok') z6
    have hb4 : G4 nx' = some (.cells (Go.Am.e4 r) 0 none false (some 43)) := by rw [hG4, z6]
    first | rw [← hG4] | skip
    clear hG4;have c0 : zb G4 ⟨nx', 0, none⟩ (.int .i64 r.1) := z8 hb4 rfl;have c1 : zb G4 ⟨nx', 0 + 1, none⟩ (.int .i64 r.2.1) := by rw [Nat.zero_add]; exact z8 hb4 rfl
    have c2 : zb G4 ⟨nx', 0 + 2, none⟩ (.int .i64 r.2.2.1) := by rw [Nat.zero_add]; exact z8 hb4 rfl
    have c3 : zb G4 ⟨nx', 0 + 3, none⟩ (.int .i64 r.2.2.2) := by rw [Nat.zero_add]; exact z8 hb4 rfl
    refine zgb ?_;refine z7 (zy (v := .agg (Go.Am.e4 (z0z r)).toArray) (l := [(0, .int .i64 r.1), (1, .int .i64 0), (2, .int .i64 r.2.2.1), (3, .int .i64 r.2.2.2)]) (by simp only [zt, ASt.ev, z9, ↓reduceIte, reduceIte, Option.some.injEq, Nat.reduceEqDiff, zY, zk, *]) krf) ?_;refine OpsL.new (by subst_vars; decide) (zl (l := [(0, .agg (Go.Am.e4 (z0z r)).toArray)]) (r := (.slice (some ⟨nx' + 1, 0, none⟩) 1 1, .new (.cells (Go.Am.e4 (z0z r)) 4 none false (some 106)))) (by simp only [zt, ASt.ev, z9, ↓reduceIte, reduceIte, Option.some.injEq, Nat.reduceEqDiff, *]) krf) ?_;have hx5 : Ext (nx' + 1) G4 (nx' + 1 + 1) (G4.put (nx' + 1) (.cells (Go.Am.e4 (z0z r)) 4 none false (some 106))) := zg;have hok5 := zB (o := .cells (Go.Am.e4 (z0z r)) 4 none false (some 106)) hok4
    have hone : RowsAt Go.Am.e4 4 (G4.put (nx' + 1) (.cells (Go.Am.e4 (z0z r)) 4 none false (some 106))) (.slice (some ⟨nx' + 1, 0, none⟩) 1 1) [z0z r] := by
     refine .inr ⟨⟨nx' + 1, 0, none⟩, 1, rfl, fun j hj => ?_⟩;have : j = 0 := by simpa using hj
     subst this;exact z0j (by show 0 + 4 ≤ 4; decide)
    generalize G4.put (nx' + 1) (.cells (Go.Am.e4 (z0z r)) 4 none false (some 106)) = G5 at *;refine zR (bytes := 32) (z := rep 4 [.int .i64 0]) z0r z5c (by omega) (by subst_vars; decide) (OwnOf.ext (hx4.trans hx5) (fun b t h => (hob b t h).2) hown) hone evd evd (fun b t h => by have := (hob b t h).2; omega) (by exact rfl) (by exact rfl) (by exact rfl) (by exact rfl) (by exact rfl) rfl (by simp; omega) (by omega) ?_;intro v8 nx8 H8 ob8 hA8;refine zg7 ?_;refine ⟨i + 1, ⟨_, nx8, H8, ob8, v8, rfl, ⟨by have := hx.1; have := hA8.le; omega, fun j hj => ?_⟩, fun b t h => ?_, hA8.ok (fun b t h => by have := (hob b t h).2; omega) hok5, by rw [hst]; exact hA8.own, stp, stp, stp, stp, stp, by omega⟩, by omega⟩
    ·have := hx.1
     rw [hA8.same j (by omega) (fun b t h => by have := (hob b t h).1; omega), hx5.2 j (by omega), hx4.2 j (by omega), hx.2 j hj]
    ·obtain ⟨q1, q2⟩ := hA8.blk b t h
     refine ⟨?_, q1⟩;rcases q2 with rfl | ⟨t', h'⟩
     ·have := hx.1; omega
     ·exact (hob _ _ h').1
   ·have hin : i = a.opens.length := by omega
    subst hin;rw [List.take_length] at hown;refine z9t ?_;exact ⟨rfl, _, _, _, ob, v, rfl, hx, hob, hok', hown, stp, stp⟩
 rintro e st ⟨rfl, tm', m1, J1, p1, u1, rfl, y1, z1, f1, w1, d1, d3⟩;refine z6W ?_;have hb1 : J1 nx = some (.cells (zA a (.slice ai a.init.length ci) (.slice af a.final.length cf) (.slice ao a.opens.length co) (.slice ac a.closes.length cc) (.slice an a.inners.length cn)) 0 none false (some 30)) := (y1.2 nx (by omega)).trans gx;have cb1 : zb J1 ⟨nx, 0 + 5, none⟩ (.slice ac a.closes.length cc) := by rw [Nat.zero_add]; exact z8 hb1 rfl
 refine zfh ?_;refine Trip.mono (Q := fun e st => e = .exit 2 ∧ ∃ (tm' : Nat → Value) (nx' : Nat) (H' : Heap) (ob : Option (Nat × Nat)) (v : Value), st = ⟨tm', n, H', nx'⟩ ∧ Ext (nx + 1) G nx' H' ∧ (∀ b t, ob = some (b, t) → nx + 1 ≤ b ∧ b < nx') ∧ (∀ id o, H' id = some o → id < nx') ∧ zch H' ob v ((a.opens.map z0z) ++ a.closes.map z12) ∧ tm' 1 = .pointer (some ⟨nx, 0, none⟩) ∧ tm' 3 = v) ?_ ?_
 ·refine zu (fun (i : Nat) st => ∃ (tm' : Nat → Value) (nx' : Nat) (H' : Heap) (ob : Option (Nat × Nat)) (v : Value), st = ⟨tm', n, H', nx'⟩ ∧ Ext (nx + 1) G nx' H' ∧ (∀ b t, ob = some (b, t) → nx + 1 ≤ b ∧ b < nx') ∧ (∀ id o, H' id = some o → id < nx') ∧ zch H' ob v ((a.opens.map z0z) ++ (a.closes.take i).map z12) ∧ tm' 1 = .pointer (some ⟨nx, 0, none⟩) ∧ tm' 3 = v ∧ tm' 29 = .slice ac a.closes.length cc ∧ tm' 30 = .int .i64 a.closes.length ∧ tm' 31 = .int .i64 i ∧ i ≤ a.closes.length) (fun i => a.closes.length - i) 0 ?_ ?_
  ·exact ⟨_, m1, J1, p1, u1, rfl, y1, z1, f1, by simpa using w1, stp, stp, stp, stp, stp, Nat.zero_le _⟩
  ·clear d1 d3
   rintro i st ⟨tm, nx', H', ob, v, rfl, hx, hob, hok', hown, d1, d3, dsl, dln, dix, hi⟩;by_cases hlt : i < a.closes.length
   ·obtain ⟨p, hp0, g⟩ := z01 (ha.closes.ext hx hokG) hlt
    subst hp0;have hst : (a.opens.map z0z) ++ (a.closes.take (i + 1)).map z12 = ((a.opens.map z0z) ++ (a.closes.take i).map z12) ++ [z12 a.closes[i]] := by rw [List.take_succ_eq_append_getElem hlt, List.map_append, ← List.append_assoc]; rfl
    have hzl : ((a.opens.map z0z) ++ (a.closes.take i).map z12).length ≤ 3000 := by simp only [List.length_append, List.length_map, List.length_take]; omega
    generalize (a.opens.map z0z) ++ (a.closes.take i).map z12 = zs at *;generalize a.closes[i] = r at *;refine zcj ?_;refine z7 (za (k := 4) (vs := Go.Am.e4 r) evr (by exact rfl) rfl (by exact rfl) g) ?_;refine OpsL.new (by subst_vars; decide) (zw (l := rep 4 [.int .i64 0]) (by exact rfl)) ?_;refine OpsL.upd (zp (k := 4) (u := .agg (Go.Am.e4 r).toArray) evd evd (by exact rfl) rfl (o := .cells (Go.Am.e4 r) 0 none false (some 45)) (zz (vs := Go.Am.e4 r) z6 rfl rfl)) ?_;obtain ⟨G4, hG4⟩ : ∃ G4, G4 = (H'.put nx' (.cells (rep 4 [.int .i64 0]) 0 none false (some 45))).put nx' (.cells (Go.Am.e4 r) 0 none false (some 45)) := ⟨_, rfl⟩;have hx4 : Ext nx' H' (nx' + 1) G4 := ⟨Nat.le_succ _, fun j hj => by rw [hG4, z5 (by omega), z5 (by omega)]⟩;have hok4 : ∀ id o, G4 id = some o → id < nx' + 1 := by rw [hG4]; exact zL (zB hok') z6
    have hb4 : G4 nx' = some (.cells (Go.Am.e4 r) 0 none false (some 45)) := by rw [hG4, z6]
    first | rw [← hG4] | skip
    clear hG4;have c0 : zb G4 ⟨nx', 0, none⟩ (.int .i64 r.1) := z8 hb4 rfl;have c1 : zb G4 ⟨nx', 0 + 1, none⟩ (.int .i64 r.2.1) := by rw [Nat.zero_add]; exact z8 hb4 rfl
    have c2 : zb G4 ⟨nx', 0 + 2, none⟩ (.int .i64 r.2.2.1) := by rw [Nat.zero_add]; exact z8 hb4 rfl
    have c3 : zb G4 ⟨nx', 0 + 3, none⟩ (.int .i64 r.2.2.2) := by rw [Nat.zero_add]; exact z8 hb4 rfl
    refine zgb ?_;refine z7 (zy (v := .agg (Go.Am.e4 (z12 r)).toArray) (l := [(0, .int .i64 r.1), (1, .int .i64 r.2.2.1), (2, .int .i64 r.2.2.2), (3, .int .i64 0)]) (by simp only [zt, ASt.ev, z9, ↓reduceIte, reduceIte, Option.some.injEq, Nat.reduceEqDiff, zY, zk, *]) krf) ?_;refine OpsL.new (by subst_vars; decide) (zl (l := [(0, .agg (Go.Am.e4 (z12 r)).toArray)]) (r := (.slice (some ⟨nx' + 1, 0, none⟩) 1 1, .new (.cells (Go.Am.e4 (z12 r)) 4 none false (some 106)))) (by simp only [zt, ASt.ev, z9, ↓reduceIte, reduceIte, Option.some.injEq, Nat.reduceEqDiff, *]) krf) ?_;have hx5 : Ext (nx' + 1) G4 (nx' + 1 + 1) (G4.put (nx' + 1) (.cells (Go.Am.e4 (z12 r)) 4 none false (some 106))) := zg;have hok5 := zB (o := .cells (Go.Am.e4 (z12 r)) 4 none false (some 106)) hok4
    have hone : RowsAt Go.Am.e4 4 (G4.put (nx' + 1) (.cells (Go.Am.e4 (z12 r)) 4 none false (some 106))) (.slice (some ⟨nx' + 1, 0, none⟩) 1 1) [z12 r] := by
     refine .inr ⟨⟨nx' + 1, 0, none⟩, 1, rfl, fun j hj => ?_⟩;have : j = 0 := by simpa using hj
     subst this;exact z0j (by show 0 + 4 ≤ 4; decide)
    generalize G4.put (nx' + 1) (.cells (Go.Am.e4 (z12 r)) 4 none false (some 106)) = G5 at *;refine zR (bytes := 32) (z := rep 4 [.int .i64 0]) z0r z5c (by omega) (by subst_vars; decide) (OwnOf.ext (hx4.trans hx5) (fun b t h => (hob b t h).2) hown) hone evd evd (fun b t h => by have := (hob b t h).2; omega) (by exact rfl) (by exact rfl) (by exact rfl) (by exact rfl) (by exact rfl) rfl (by simp; omega) (by omega) ?_;intro v8 nx8 H8 ob8 hA8;refine zg7 ?_;refine ⟨i + 1, ⟨_, nx8, H8, ob8, v8, rfl, ⟨by have := hx.1; have := hA8.le; omega, fun j hj => ?_⟩, fun b t h => ?_, hA8.ok (fun b t h => by have := (hob b t h).2; omega) hok5, by rw [hst]; exact hA8.own, stp, stp, stp, stp, stp, by omega⟩, by omega⟩
    ·have := hx.1
     rw [hA8.same j (by omega) (fun b t h => by have := (hob b t h).1; omega), hx5.2 j (by omega), hx4.2 j (by omega), hx.2 j hj]
    ·obtain ⟨q1, q2⟩ := hA8.blk b t h
     refine ⟨?_, q1⟩;rcases q2 with rfl | ⟨t', h'⟩
     ·have := hx.1; omega
     ·exact (hob _ _ h').1
   ·have hin : i = a.closes.length := by omega
    subst hin;rw [List.take_length] at hown;refine z9t ?_;exact ⟨rfl, _, _, _, ob, v, rfl, hx, hob, hok', hown, stp, stp⟩
 clear d1 d3;rintro e st ⟨rfl, tm', m2, J2, p2, u2, rfl, y2, z2, f2, w2, d1, d3⟩;refine z6W ?_;have hb2 : J2 nx = some (.cells (zA a (.slice ai a.init.length ci) (.slice af a.final.length cf) (.slice ao a.opens.length co) (.slice ac a.closes.length cc) (.slice an a.inners.length cn)) 0 none false (some 30)) := (y2.2 nx (by omega)).trans gx;have cb2 : zb J2 ⟨nx, 0 + 6, none⟩ (.slice an a.inners.length cn) := by rw [Nat.zero_add]; exact z8 hb2 rfl
 refine zfh ?_;refine Trip.mono (Q := fun e st => e = .exit 4 ∧ ∃ (tm' : Nat → Value) (nx' : Nat) (H' : Heap) (ob : Option (Nat × Nat)) (v : Value), st = ⟨tm', n, H', nx'⟩ ∧ Ext (nx + 1) G nx' H' ∧ (∀ b t, ob = some (b, t) → nx + 1 ≤ b ∧ b < nx') ∧ (∀ id o, H' id = some o → id < nx') ∧ zch H' ob v ((a.opens.map z0z ++ a.closes.map z12) ++ a.inners.map z1N) ∧ tm' 1 = .pointer (some ⟨nx, 0, none⟩) ∧ tm' 3 = v) ?_ ?_
 ·refine zu (fun (i : Nat) st => ∃ (tm' : Nat → Value) (nx' : Nat) (H' : Heap) (ob : Option (Nat × Nat)) (v : Value), st = ⟨tm', n, H', nx'⟩ ∧ Ext (nx + 1) G nx' H' ∧ (∀ b t, ob = some (b, t) → nx + 1 ≤ b ∧ b < nx') ∧ (∀ id o, H' id = some o → id < nx') ∧ zch H' ob v ((a.opens.map z0z ++ a.closes.map z12) ++ (a.inners.take i).map z1N) ∧ tm' 1 = .pointer (some ⟨nx, 0, none⟩) ∧ tm' 3 = v ∧ tm' 47 = .slice an a.inners.length cn ∧ tm' 48 = .int .i64 a.inners.length ∧ tm' 49 = .int .i64 i ∧ i ≤ a.inners.length) (fun i => a.inners.length - i) 0 ?_ ?_
  ·exact ⟨_, m2, J2, p2, u2, rfl, y2, z2, f2, by simpa using w2, stp, stp, stp, stp, stp, Nat.zero_le _⟩
  ·clear d1 d3
   rintro i st ⟨tm, nx', H', ob, v, rfl, hx, hob, hok', hown, d1, d3, dsl, dln, dix, hi⟩;by_cases hlt : i < a.inners.length
   ·obtain ⟨p, hp0, g⟩ := z01 (ha.inners.ext hx hokG) hlt
    subst hp0;have hst : (a.opens.map z0z ++ a.closes.map z12) ++ (a.inners.take (i + 1)).map z1N = ((a.opens.map z0z ++ a.closes.map z12) ++ (a.inners.take i).map z1N) ++ [z1N a.inners[i]] := by rw [List.take_succ_eq_append_getElem hlt, List.map_append, ← List.append_assoc]; rfl
    have hzl : ((a.opens.map z0z ++ a.closes.map z12) ++ (a.inners.take i).map z1N).length ≤ 3000 := by simp only [List.length_append, List.length_map, List.length_take]; omega
    generalize (a.opens.map z0z ++ a.closes.map z12) ++ (a.inners.take i).map z1N = zs at *;generalize a.inners[i] = r at *;refine zcj ?_;refine z7 (za (k := 3) (vs := Go.Am.e3 r) evr (by exact rfl) rfl (by exact rfl) g) ?_;refine OpsL.new (by subst_vars; decide) (zw (l := rep 3 [.int .i64 0]) (by exact rfl)) ?_;refine OpsL.upd (zp (k := 3) (u := .agg (Go.Am.e3 r).toArray) evd evd (by exact rfl) rfl (o := .cells (Go.Am.e3 r) 0 none false (some 51)) (zz (vs := Go.Am.e3 r) z6 rfl rfl)) ?_;obtain ⟨G4, hG4⟩ : ∃ G4, G4 = (H'.put nx' (.cells (rep 3 [.int .i64 0]) 0 none false (some 51))).put nx' (.cells (Go.Am.e3 r) 0 none false (some 51)) := ⟨_, rfl⟩;have hx4 : Ext nx' H' (nx' + 1) G4 := ⟨Nat.le_succ _, fun j hj => by rw [hG4, z5 (by omega), z5 (by omega)]⟩;have hok4 : ∀ id o, G4 id = some o → id < nx' + 1 := by rw [hG4]; exact zL (zB hok') z6
    have hb4 : G4 nx' = some (.cells (Go.Am.e3 r) 0 none false (some 51)) := by rw [hG4, z6]
    first | rw [← hG4] | skip
    clear hG4;have c0 : zb G4 ⟨nx', 0, none⟩ (.int .i64 r.1) := z8 hb4 rfl;have c1 : zb G4 ⟨nx', 0 + 1, none⟩ (.int .i64 r.2.1) := by rw [Nat.zero_add]; exact z8 hb4 rfl
    have c2 : zb G4 ⟨nx', 0 + 2, none⟩ (.int .i64 r.2.2) := by rw [Nat.zero_add]; exact z8 hb4 rfl
    refine zgb ?_;refine z7 (zy (v := .agg (Go.Am.e4 (z1N r)).toArray) (l := [(0, .int .i64 r.1), (1, .int .i64 0), (2, .int .i64 r.2.2), (3, .int .i64 0)]) (by simp only [zt, ASt.ev, z9, ↓reduceIte, reduceIte, Option.some.injEq, Nat.reduceEqDiff, zY, zk, *]) krf) ?_;refine OpsL.new (by subst_vars; decide) (zl (l := [(0, .agg (Go.Am.e4 (z1N r)).toArray)]) (r := (.slice (some ⟨nx' + 1, 0, none⟩) 1 1, .new (.cells (Go.Am.e4 (z1N r)) 4 none false (some 106)))) (by simp only [zt, ASt.ev, z9, ↓reduceIte, reduceIte, Option.some.injEq, Nat.reduceEqDiff, *]) krf) ?_;have hx5 : Ext (nx' + 1) G4 (nx' + 1 + 1) (G4.put (nx' + 1) (.cells (Go.Am.e4 (z1N r)) 4 none false (some 106))) := zg;have hok5 := zB (o := .cells (Go.Am.e4 (z1N r)) 4 none false (some 106)) hok4
    have hone : RowsAt Go.Am.e4 4 (G4.put (nx' + 1) (.cells (Go.Am.e4 (z1N r)) 4 none false (some 106))) (.slice (some ⟨nx' + 1, 0, none⟩) 1 1) [z1N r] := by
     refine .inr ⟨⟨nx' + 1, 0, none⟩, 1, rfl, fun j hj => ?_⟩;have : j = 0 := by simpa using hj
     subst this;exact z0j (by show 0 + 4 ≤ 4; decide)
    generalize G4.put (nx' + 1) (.cells (Go.Am.e4 (z1N r)) 4 none false (some 106)) = G5 at *;refine zR (bytes := 32) (z := rep 4 [.int .i64 0]) z0r z5c (by omega) (by subst_vars; decide) (OwnOf.ext (hx4.trans hx5) (fun b t h => (hob b t h).2) hown) hone evd evd (fun b t h => by have := (hob b t h).2; omega) (by exact rfl) (by exact rfl) (by exact rfl) (by exact rfl) (by exact rfl) rfl (by simp; omega) (by omega) ?_;intro v8 nx8 H8 ob8 hA8;refine zg7 ?_;refine ⟨i + 1, ⟨_, nx8, H8, ob8, v8, rfl, ⟨by have := hx.1; have := hA8.le; omega, fun j hj => ?_⟩, fun b t h => ?_, hA8.ok (fun b t h => by have := (hob b t h).2; omega) hok5, by rw [hst]; exact hA8.own, stp, stp, stp, stp, stp, by omega⟩, by omega⟩
    ·have := hx.1
     rw [hA8.same j (by omega) (fun b t h => by have := (hob b t h).1; omega), hx5.2 j (by omega), hx4.2 j (by omega), hx.2 j hj]
    ·obtain ⟨q1, q2⟩ := hA8.blk b t h
     refine ⟨?_, q1⟩;rcases q2 with rfl | ⟨t', h'⟩
     ·have := hx.1; omega
     ·exact (hob _ _ h').1
   ·have hin : i = a.inners.length := by omega
    subst hin;rw [List.take_length] at hown;refine z9t ?_;exact ⟨rfl, _, _, _, ob, v, rfl, hx, hob, hok', hown, stp, stp⟩
 clear d1 d3;rintro e st ⟨rfl, tm', m3, J3, p3, u3, rfl, y3, z3, f3, w3, d1, d3⟩;refine z6W ?_;refine zdC ?_;refine ⟨.inr rfl, _, zh, p3, by simpa [z9, *, zP] using w3, hx0.trans y3, fun b t h => by have := z3 b t h; omega⟩
end Go.Proofs.YteplpegfcpmflaaGreat
namespace Go.Am
open Go.RowKit
section
variable {α : Type} [DecidableEq α]
def z34 (l : List α) : List α := l.foldl (fun acc x => if acc.getLast? = some x then acc else acc ++ [x]) []
theorem z8Q (p : List α) (x : α) : z34 (p ++ [x]) = if (z34 p).getLast? = some x then z34 p else z34 p ++ [x] := by
 unfold z34;rw [List.foldl_append];rfl
theorem zdi (l : List α) : (z34 l).getLast? = l.getLast? := by
 rcases List.eq_nil_or_concat l with rfl | ⟨p, x, rfl⟩
 ·rfl
 ·rw [List.concat_eq_append, z8Q]
  split
  ·rename_i h; rw [h]; simp
  ·simp
theorem zbW (p : List α) (x : α) : z34 (p ++ [x]) = if p.getLast? = some x then z34 p else z34 p ++ [x] := by rw [z8Q, zdi]
theorem z1k (l : List α) {m : Nat} (h0 : 0 < m) (h : m < l.length) : z34 (l.take (m + 1)) = if l[m - 1] = l[m] then z34 (l.take m) else z34 (l.take m) ++ [l[m]] := by
 rw [List.take_add_one, List.getElem?_eq_getElem h, Option.toList_some, zbW]
 have : (l.take m).getLast? = some l[m - 1] := by
  rw [List.getLast?_eq_getElem?, List.length_take, Nat.min_eq_left (by omega), List.getElem?_take, if_pos (by omega), List.getElem?_eq_getElem]
 rw [this];simp
theorem z3S (l : List α) (h : l.length ≤ 1) : z34 l = l := by
 match l, h with
 | [], _ => rfl
 | [x], _ => rfl
theorem z21 (l : List α) : ∀ m, m ≤ l.length → (∀ i (h : i < l.length), 0 < i → i < m → l[i - 1] ≠ l[i]) → z34 (l.take m) = l.take m := by
 intro m
 induction m with
 | zero => intro _ _; rfl
 | succ m ih =>
  intro hm h;by_cases h0 : 0 < m
  ·rw [z1k l h0 (by omega), if_neg (h m (by omega) h0 (Nat.lt_succ_self _)), ih (by omega) (fun i hi a b => h i hi a (by omega)), List.take_add_one, List.getElem?_eq_getElem (by omega : m < l.length)]
   rfl
  ·have : m = 0 := by omega
   subst this;exact z3S _ (by simp; omega)
theorem z3T (l : List α) (x : α) : x ∈ z34 l ↔ x ∈ l := by
 have : ∀ l : List α, ∀ acc : List α, x ∈ l.foldl (fun acc x => if acc.getLast? = some x then acc else acc ++ [x]) acc ↔ x ∈ acc ∨ x ∈ l := by
  intro l
  induction l with
  | nil => intro acc; simp
  | cons y l ih =>
   intro acc;rw [List.foldl_cons, ih];split
   ·rename_i h
    have := List.mem_of_getLast? h;constructor
    ·rintro (h1 | h1)
     ·exact .inl h1
     ·exact .inr (List.mem_cons_of_mem _ h1)
    ·rintro (h1 | h1)
     ·exact .inl h1
     ·rcases List.mem_cons.1 h1 with rfl | h1
      ·exact .inl this
      ·exact .inr h1
   ·simp only [List.mem_append, List.mem_cons, List.not_mem_nil, or_false]
    constructor
    ·rintro ((h1 | h1) | h1)
     ·exact .inl h1
     ·exact .inr (.inl h1)
     ·exact .inr (.inr h1)
    ·rintro (h1 | h1 | h1)
     ·exact .inl (.inl h1)
     ·exact .inl (.inr h1)
     ·exact .inr h1
 have h := this l [];simpa [z34] using h
end
section
variable {α : Type} {enc : α → List Value} {sz : Nat} {H : Heap}
theorem zee (hk : ∀ x, (enc x).length = sz) : ∀ (l : List α) (i : Nat) (x : α), i < l.length → (l.flatMap enc).take (i * sz) ++ enc x ++ (l.flatMap enc).drop (i * sz + sz) = (l.set i x).flatMap enc := by
 intro l
 induction l with
 | nil => intro i x h; simp at h
 | cons y l ih =>
  intro i x h;cases i with
  | zero =>
   rw [Nat.zero_mul, Nat.zero_add, List.take_zero, List.nil_append, List.flatMap_cons, List.set_cons_zero, List.flatMap_cons];rw [show sz = (enc y).length from (hk y).symm, List.drop_left]
  | succ i =>
   have := ih i x (by simpa using h);rw [List.flatMap_cons, List.set_cons_succ, List.flatMap_cons, ← this];rw [Nat.add_mul, Nat.one_mul];rw [List.take_append, List.drop_append, hk, List.take_of_length_le (by rw [hk]; omega), List.drop_eq_nil_of_le (by rw [hk]; omega)];rw [show i * sz + sz - sz = i * sz by omega, show i * sz + sz + sz - sz = i * sz + sz by omega];simp
theorem z4G (hk : ∀ x, (enc x).length = sz) (h1 : ∀ x, (enc x).all (·.oneCell') = true) {b t : Nat} {el : TypeId} {l : List α} {rest : List Value} {i : Nat} {x : α} (hH : H b = some (.cells (l.flatMap enc ++ rest) sz (some t) false (some el))) (hi : i < l.length) :
  z3Q H ⟨b, 0 + i * sz, some t⟩ (enc x) = some (.cells ((l.set i x).flatMap enc ++ rest) sz (some t) false (some el)) := by
 have hfl := z03 hk l;have hle : (i + 1) * sz ≤ l.length * sz := Nat.mul_le_mul_right sz hi;rw [Nat.add_mul, Nat.one_mul] at hle;have hone := h1 x;unfold z3Q;simp only [hH, Nat.zero_add];rw [if_pos ⟨trivial, by rw [List.length_append, hfl, hk]; omega, trivial, hone⟩];rw [hk, List.take_append_of_le_length (by rw [hfl]; omega), List.drop_append_of_le_length (by rw [hfl]; omega), ← List.append_assoc, ← zee hk l i x hi]
theorem z0l (hk : ∀ x, (enc x).length = sz) {b t : Nat} {el : TypeId} {l : List α} {rest : List Value} {i : Nat} (hH : H b = some (.cells (l.flatMap enc ++ rest) sz (some t) false (some el))) (hi : i < l.length) : z0L H ⟨b, 0 + i * sz, some t⟩ sz = some (enc l[i]) := by
 have hfl := z03 hk l;have hle : (i + 1) * sz ≤ l.length * sz := Nat.mul_le_mul_right sz hi;rw [Nat.add_mul, Nat.one_mul] at hle;unfold z0L;simp only [hH, Nat.zero_add];rw [if_pos ⟨trivial, by rw [List.length_append, hfl]; omega⟩, List.drop_append_of_le_length (by rw [hfl]; omega), List.take_append_of_le_length (by rw [List.length_drop, hfl]; omega), z5T hk l i hi]
theorem zbp {z : List Value} (n : Nat) : (z0b z n).length = n * z.length := by
 induction n with
 | zero => simp [z0b, rep]
 | succ n ih => simp_all [z0b, rep, List.replicate_succ, Nat.add_mul]; omega
theorem zbo {z : List Value} (h : z.all (·.oneCell') = true) (n : Nat) : (z0b z n).all (·.oneCell') = true := by
 induction n with
 | zero => simp [z0b, rep]
 | succ n ih => simp_all [z0b, rep, List.replicate_succ]
theorem z5y (hk : ∀ x, (enc x).length = sz) {b t k : Nat} {el : TypeId} {l : List α} {rest z : List Value} (hz : z.length = sz) (hz1 : z.all (·.oneCell') = true) (hH : H b = some (.cells (l.flatMap enc ++ rest) sz (some t) false (some el))) (hkl : k ≤ l.length) :
  ∃ rest', z3Q H ⟨b, 0 + k * sz, some t⟩ (z0b z (l.length - k)) = some (.cells ((l.take k).flatMap enc ++ rest') sz (some t) false (some el)) := by
 have hfl := z03 hk l;have hft := z03 hk (l.take k);have hsplit : l.flatMap enc = (l.take k).flatMap enc ++ (l.drop k).flatMap enc := by rw [← List.flatMap_append, List.take_append_drop]
 have hmul : (l.length - k) * sz + k * sz = l.length * sz := by rw [← Nat.add_mul]; congr 1; omega
 refine ⟨z0b z (l.length - k) ++ ((l.flatMap enc ++ rest).drop (k * sz + (z0b z (l.length - k)).length)), ?_⟩;unfold z3Q;simp only [hH, Nat.zero_add];rw [if_pos ⟨trivial, by rw [List.length_append, hfl, zbp, hz]; omega, trivial, zbo hz1 _⟩]
 have ht : (l.flatMap enc ++ rest).take (k * sz) = (l.take k).flatMap enc := by
  rw [hsplit, List.append_assoc, List.take_append_of_le_length (by rw [hft, List.length_take, Nat.min_eq_left hkl]; exact Nat.le_refl _), List.take_of_length_le (by rw [hft, List.length_take, Nat.min_eq_left hkl]; exact Nat.le_refl _)]
 rw [ht, List.append_assoc]
end
section
variable {P : Program} {W0 : World} {H : Heap} {nx n : Nat} {type : TypeId} {pos : String} {after : Array Edge} {ops : Array Oper} {l : List Oper} {tm : Nat → Value} {QQ : ASt → Prop}
theorem OpsL.clear {t el : TypeId} {x : Operand} {a : Addr} {m c : Nat} {z : List Value} {o : AObj} (hx : ASt.ev ⟨tm, n, H, nx⟩ x = some (.slice (some a) m c)) (hu : P.underlying t = some (.slice el)) (hz : z0M P el = some z) (hm : m ≠ 0) (hs : z3Q H a (z0b z m) = some o) (h : OpsL P W0 ops l ⟨tm, n, H.put a.block o, nx⟩ QQ) :
  OpsL P W0 ops (⟨none, .call ⟨.builtin .clear, #[x], #[t]⟩, type, pos, after, none⟩ :: l) ⟨tm, n, H, nx⟩ QQ := by
 refine OpsL.upd (v := .tuple #[]) ?_ h;have hc : z8x P H #[t] (.slice (some a) m c) = none := by simp [z8x, hu]
 simp [aop, z0q, hx, z0s, hc, z7v, hu, hm, hz, hs]
end
end Go.Am
namespace Go.Am
section
variable {α : Type} {lt : α → α → Prop}
def z29 (lt : α → α → Prop) (l : List α) : Prop := l.Pairwise lt
def z3d (lt : α → α → Prop) (l : List α) : Prop := l.Pairwise fun x y => ¬ lt y x
structure OrdL (lt : α → α → Prop) : Prop where
 irr : ∀ x, ¬ lt x x
 tr : ∀ {x y z}, lt x y → lt y z → lt x z
 tot : ∀ {x y}, ¬ lt x y → ¬ lt y x → x = y
theorem z4j (ho : OrdL lt) : ∀ (l r : List α), z29 lt l → z29 lt r → (∀ x, x ∈ l ↔ x ∈ r) → l = r := by
 intro l
 induction l with
 | nil =>
  intro r _ _ h;cases r with
  | nil => rfl
  | cons y r => exact absurd ((h y).2 List.mem_cons_self) (by simp)
 | cons x l ih =>
  intro r hl hr h;cases r with
  | nil => exact absurd ((h x).1 List.mem_cons_self) (by simp)
  | cons y r =>
   unfold z29 at *;rw [List.pairwise_cons] at hl hr
   have hxy : x = y := by
    rcases List.mem_cons.1 ((h x).1 List.mem_cons_self) with e | hx
    ·exact e
    ·rcases List.mem_cons.1 ((h y).2 List.mem_cons_self) with e | hy
     ·exact e.symm
     ·exact absurd (ho.tr (hr.1 x hx) (hl.1 y hy)) (ho.irr _)
   subst hxy;congr 1;refine ih r hl.2 hr.2 fun z => ?_;constructor
   ·intro hz
    rcases List.mem_cons.1 ((h z).1 (List.mem_cons_of_mem _ hz)) with e | hz'
    ·subst e; exact absurd (hl.1 z hz) (ho.irr _)
    ·exact hz'
   ·intro hz
    rcases List.mem_cons.1 ((h z).2 (List.mem_cons_of_mem _ hz)) with e | hz'
    ·subst e; exact absurd (hr.1 z hz) (ho.irr _)
    ·exact hz'
variable [DecidableEq α]
theorem z3k (ho : OrdL lt) (l : List α) (h : z3d lt l) : z29 lt (z34 l) := by
 have key : ∀ n, n ≤ l.length → z29 lt (z34 (l.take n)) ∧ ∀ x ∈ z34 (l.take n), ∀ j (hj : j < l.length), n ≤ j → ¬ lt l[j] x := by
  have hmem : ∀ n, ∀ x ∈ z34 (l.take n), ∀ j (hj : j < l.length), n ≤ j → ¬ lt l[j] x := fun n x hx j hj hnj => by
   rw [z3T] at hx;obtain ⟨i, hi, rfl⟩ := List.getElem_of_mem hx;rw [List.length_take] at hi;rw [List.getElem_take];exact List.pairwise_iff_getElem.1 h i j (by omega) hj (by omega)
  intro n
  induction n with
  | zero => intro _; exact ⟨List.Pairwise.nil, fun x hx => by cases hx⟩
  | succ n ih =>
   intro hn;refine ⟨?_, hmem (n + 1)⟩;obtain ⟨i1, i2⟩ := ih (by omega);by_cases h0 : 0 < n
   ·rw [z1k l h0 (by omega)]
    split
    ·exact i1
    ·rename_i hne
     refine List.pairwise_append.2 ⟨i1, List.pairwise_singleton _ _, fun x hx y hy => ?_⟩;rw [List.mem_singleton] at hy;subst hy;by_cases hlt : lt x l[n]
     ·exact hlt
     ·have hxe : x = l[n] := ho.tot hlt (i2 x hx n (by omega) (Nat.le_refl _))
      rw [z3T] at hx;obtain ⟨i, hi, hxi⟩ := List.getElem_of_mem hx;rw [List.length_take] at hi;rw [List.getElem_take] at hxi;exfalso
      have h1 : ¬ lt l[n - 1] l[i] := by
       by_cases e : i = n - 1
       ·subst e; exact ho.irr _
       ·exact List.pairwise_iff_getElem.1 h i (n - 1) (by omega) (by omega) (by omega)
      have h2 : ¬ lt l[n] l[n - 1] := List.pairwise_iff_getElem.1 h (n - 1) n (by omega) (by omega) (by omega);have e1 : l[i] = l[n] := hxi.trans hxe;rw [e1] at h1;exact hne (ho.tot h1 h2)
   ·have : n = 0 := by omega
    subst this;rw [z3S _ (by simp; omega)]
    match l.take 1, (by simp; omega : (l.take 1).length ≤ 1) with
    | [], _ => exact List.Pairwise.nil
    | [x], _ => exact List.pairwise_singleton _ _
 have := (key l.length (Nat.le_refl _)).1
 rwa [List.take_length] at this
def zcg (lt : α → α → Prop) [DecidableRel lt] (x : α) : List α → List α
 | [] => [x]
 | y :: l => if lt x y then x :: y :: l else if x = y then y :: l else y :: zcg lt x l
def zT (lt : α → α → Prop) [DecidableRel lt] (l : List α) : List α := l.foldr (zcg lt) []
variable [DecidableRel lt]
theorem zaZ (x z : α) (l : List α) : z ∈ zcg lt x l ↔ z = x ∨ z ∈ l := by
 induction l with
 | nil => simp [zcg]
 | cons y l ih =>
  unfold zcg;split
  ·simp
  ·split
   ·rename_i h; subst h; simp
   ·simp only [List.mem_cons, ih]
    constructor
    ·rintro (h | h | h)
     ·exact .inr (.inl h)
     ·exact .inl h
     ·exact .inr (.inr h)
    ·rintro (h | h | h)
     ·exact .inr (.inl h)
     ·exact .inl h
     ·exact .inr (.inr h)
theorem z9X (ho : OrdL lt) (x : α) {l : List α} (h : z29 lt l) : z29 lt (zcg lt x l) := by
 induction l with
 | nil => exact List.pairwise_singleton _ _
 | cons y l ih =>
  unfold z29 at h;rw [List.pairwise_cons] at h;unfold zcg;split
  ·rename_i hxy
   exact List.pairwise_cons.2 ⟨fun z hz => by
    rcases List.mem_cons.1 hz with rfl | hz
    ·exact hxy
    ·exact ho.tr hxy (h.1 z hz), List.pairwise_cons.2 h⟩
  ·split
   ·exact List.pairwise_cons.2 h
   ·rename_i h1 h2
    refine List.pairwise_cons.2 ⟨fun z hz => ?_, ih h.2⟩;rcases (zaZ x z l).1 hz with rfl | hz
    ·by_cases h3 : lt y z
     ·exact h3
     ·exact absurd (ho.tot h1 h3) h2
    ·exact h.1 z hz
theorem z2G (ho : OrdL lt) (l : List α) : z29 lt (zT lt l) := by
 induction l with
 | nil => exact List.Pairwise.nil
 | cons x l ih => exact z9X ho x ih
theorem z14 (x : α) (l : List α) : x ∈ zT lt l ↔ x ∈ l := by
 induction l with
 | nil => exact Iff.rfl
 | cons y l ih =>
  show x ∈ zcg lt y (zT lt l) ↔ _;rw [zaZ, ih, List.mem_cons]
theorem z4B (ho : OrdL lt) {l r : List α} (h1 : z29 lt r) (h2 : ∀ x, x ∈ r ↔ x ∈ l) : r = zT lt l :=
 z4j ho _ _ h1 (z2G ho l) fun x => by rw [h2, z14]
theorem zec (x : α) (l : List α) : (zcg lt x l).length ≤ l.length + 1 := by
 induction l with
 | nil => simp [zcg]
 | cons y l ih =>
  unfold zcg;split
  ·simp
  ·split
   ·simp
   ·simp only [List.length_cons]; omega
theorem z0h (l : List α) : (zT lt l).length ≤ l.length := by
 induction l with
 | nil => exact Nat.le_refl _
 | cons y l ih =>
  have := zec (lt := lt) y (zT lt l);show (zcg lt y (zT lt l)).length ≤ l.length + 1;omega
theorem z4W (ho : OrdL lt) {l : List α} (h : z29 lt l) : zT lt l = l := (z4B ho h fun _ => Iff.rfl).symm
end
def lt4 (x y : R4) : Prop := x.1 < y.1 ∨ (x.1 = y.1 ∧ (x.2.1 < y.2.1 ∨ (x.2.1 = y.2.1 ∧ (x.2.2.1 < y.2.2.1 ∨ (x.2.2.1 = y.2.2.1 ∧ x.2.2.2 < y.2.2.2)))))
def lt3 (x y : R3) : Prop := x.1 < y.1 ∨ (x.1 = y.1 ∧ (x.2.1 < y.2.1 ∨ (x.2.1 = y.2.1 ∧ x.2.2 < y.2.2)))
def lt1 (x y : Int) : Prop := x < y
instance : DecidableRel lt4 := fun x y => by unfold lt4; infer_instance
instance : DecidableRel lt3 := fun x y => by unfold lt3; infer_instance
instance : DecidableRel lt1 := fun x y => by unfold lt1; infer_instance
theorem zeK : OrdL lt4 where
 irr x := by unfold lt4; omega
 tr h1 h2 := by unfold lt4 at *; omega
 tot {x y} h1 h2 := by
  obtain ⟨a, b, c, d⟩ := x;obtain ⟨a2, b2, c2, d2⟩ := y;unfold lt4 at *;simp only at *;have e1 : a = a2 := by omega
  have e2 : b = b2 := by omega
  have e3 : c = c2 := by omega
  have e4 : d = d2 := by omega
  rw [e1, e2, e3, e4]
theorem zgi : OrdL lt3 where
 irr x := by unfold lt3; omega
 tr h1 h2 := by unfold lt3 at *; omega
 tot {x y} h1 h2 := by
  obtain ⟨a, b, c⟩ := x;obtain ⟨a2, b2, c2⟩ := y;unfold lt3 at *;simp only at *;have e1 : a = a2 := by omega
  have e2 : b = b2 := by omega
  have e3 : c = c2 := by omega
  rw [e1, e2, e3]
theorem zeL : OrdL lt1 where
 irr x := by unfold lt1; omega
 tr h1 h2 := by unfold lt1 at *; omega
 tot h1 h2 := by unfold lt1 at *; omega
def orF : List Int → Int
 | [] => 0
 | x :: l => if x ≠ 0 then x else orF l
def z02 (a : Aut) : Aut := ⟨a.N, a.G, zT lt1 a.init, zT lt1 a.final, zT lt4 a.opens, zT lt4 a.closes, zT lt3 a.inners⟩
end Go.Am
