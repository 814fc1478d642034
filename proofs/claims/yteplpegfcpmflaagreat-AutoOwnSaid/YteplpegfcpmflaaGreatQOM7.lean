import Derived.Test.YteplpegfcpmflaaGreatQOM6
set_option linter.unusedSimpArgs false
set_option linter.unusedVariables false
set_option maxRecDepth 100000
set_option maxHeartbeats 64000000
namespace Go.Am
open Go.RowKit
def z2i (ops : Array Oper) (acts : List Nat) : Bool :=
 z26 (fun i oi => z26 (fun j oj => match oj.dst with
  | some t => if (z4d oi).contains t || z9u ops oi == some t then zaI oi j || (acts.contains j && zbw ops 4 oj i && !Nat.beq i j) else true
  | none => true) 0 ops.toList) 0 ops.toList
section
variable {P : Program} {W0 : World} {ops : Array Oper} {acts : List Nat} {K : Nat → Heap → Prop}
theorem z3v (h : z2i ops acts = true) {i j : Nat} {oi oj : Oper} {t : Tmp} (hi : ops[i]? = some oi) (hj : ops[j]? = some oj) (ht : t ∈ z4d oi ∨ z9u ops oi = some t) (hd : oj.dst = some t) : dep oi j ∨ (acts.contains j = true ∧ zdR ops j i = true ∧ i ≠ j) := by
 unfold z2i at h;have h1 := z0n _ _ (z0n _ _ h i oi (by simpa using hi)) j oj (by simpa using hj);simp only [Nat.zero_add, hd] at h1;rw [if_pos] at h1
 ·rw [Bool.or_eq_true] at h1;rcases h1 with h1 | h1
  ·exact .inl (z1G.1 h1)
  ·simp only [Bool.and_eq_true, Bool.not_eq_true'] at h1;refine .inr ⟨h1.1.1, ?_, fun e => ?_⟩
   ·unfold zdR;rw [hj];exact h1.1.2
   ·have := h1.2;rw [e] at this;simp at this
 ·rcases ht with ht | ht
  ·simp [ht]
  ·simp [ht]
structure RInvW (P : Program) (ops : Array Oper) (acts : List Nat) (K : Nat → Heap → Prop) (D L : List Nat) (listed : Array Bool) (tm T : Nat → Value) (n : Nat) (H : Heap) (nx : Nat) : Prop where
 size : listed.size = ops.size
 down : ∀ (i : Nat) (o : Oper), ops[i]? = some o → listed.getD i false = true → ∀ j, dep o j → listed.getD j false = true
 unl : ∀ i ∈ L, listed.getD i false = false
 all : ∀ i, i < ops.size → i ∈ D ∨ i ∈ L
 disj : ∀ p ∈ D, ∀ i ∈ L, p ≠ i
 topo : ∀ p ∈ D, ∀ i ∈ L, zdS ops p i = false
 nd : L.Nodup
 lt : ∀ i ∈ L, i < ops.size
 pend : ∀ i ∈ D, listed.getD i false = false → ∃ o, ops[i]? = some o ∧ zhW P ops acts K L T n H nx i o
 eqv : ∀ t, (∀ (i : Nat) (o : Oper), ops[i]? = some o → i ∈ D → listed.getD i false = false → o.dst ≠ some t) → tm t = T t
 actl : ∀ p ∈ D, acts.contains p = true → listed.getD p false = true
variable {D L : List Nat} {listed : Array Bool} {tm T : Nat → Value} {n nx : Nat} {H : Heap}
theorem RInvW.reads (hr : z2i ops acts = true) (hi : RInvW P ops acts K D L listed tm T n H nx) {i : Nat} {o : Oper} (ho : ops[i]? = some o) (hall : ∀ j, dep o j → listed.getD j false = true) {t : Tmp} (ht : t ∈ z4d o ∨ z9u ops o = some t) : tm t = T t := by
 refine hi.eqv t fun p op hop hp hun hd => ?_;rcases z3v hr ho hop ht hd with h | ⟨h, _, _⟩
 ·have := hall p h;rw [hun] at this;cases this
 ·have := hi.actl p hp h;rw [hun] at this;cases this
theorem z8D (hr : z2i ops acts = true) (hone : ∀ (i j : Nat) (oi oj : Oper) (d : Tmp), ops[i]? = some oi → ops[j]? = some oj → oi.dst = some d → oj.dst = some d → i = j) {i p : Nat} {o op : Oper} {H' : Heap} {nx' : Nat} (ho : ops[i]? = some o) (hop : ops[p]? = some op) (hpi : p ≠ i) (hni : zdS ops p i = false) (hact : acts.contains i = true → zdR ops i p = false) (v : Value)
  {L' : List Nat} (hsub : ∀ j ∈ L', j ∈ L) (hil : i ∈ L) (h : zhW P ops acts K L T n H nx p op) (hk : (H' = H ∧ nx' = nx) ∨ (acts.contains i = true ∧ zdR ops i p = false ∧ K nx' H')) : zhW P ops acts K L' (zl T o.dst v) n H' nx' p op := by
 obtain ⟨h2, val, h3, h4⟩ := h
 have hsame : ∀ t, (t ∈ z4d op ∨ z9u ops op = some t) → zl T o.dst v t = T t := fun t ht => by
  cases hd : o.dst with
  | none => rfl
  | some d =>
   have hne : t ≠ d := fun e => by
    subst e;rcases z3v hr hop ho ht hd with h | ⟨ha, hb, _⟩
    ·have := z1G.2 h;unfold zdS at hni;rw [hop] at hni;simp only at hni;rw [hni] at this;cases this
    ·rw [hact ha] at hb;cases hb
   simp only [zl, hne, if_false]
 refine ⟨h2, val, fun d hd => ?_, ?_⟩
 ·rw [← h3 d hd];cases hod : o.dst with
  | none => rfl
  | some d' =>
   have hne : d ≠ d' := fun e => hpi (hone p i op o d hop ho hd (by rw [hod, e]));simp only [zl, hne, if_false]
 ·rw [z1c (tm' := T) (fun d hd => hsame d (.inr hd)), z28 (tm' := T) (fun t ht => hsame t (.inl ht))];rcases h4 with h4 | ⟨h5, h6, h7⟩
  ·exact .inl h4
  ·refine .inr ⟨h5, ?_, ?_⟩
   ·rcases hk with ⟨rfl, rfl⟩ | ⟨he, hno, hK⟩
    ·exact h6
    ·rcases h7 with h7 | h7
     ·have := h7 i hil he;rw [hno] at this; cases this
     ·exact h7 _ _ hK
   ·rcases h7 with h7 | h7
    ·exact .inl fun j hj => h7 j (hsub j hj)
    ·exact .inr h7
theorem z39 (hr : z2i ops acts = true) (hlex : ∀ (i : Nat) (o : Oper), ops[i]? = some o → ∀ j, dep o j → j < i) {i : Nat} {o : Oper} (ho : ops[i]? = some o) (v : Value) {t : Tmp} (ht : t ∈ z4d o ∨ z9u ops o = some t) : zl T o.dst v t = T t := by
 cases hod : o.dst with
 | none => rfl
 | some d =>
  have hne : t ≠ d := fun e => by
   subst e;rcases z3v hr ho ho ht hod with h | ⟨_, _, h⟩
   ·exact absurd (hlex i o ho i h) (Nat.lt_irrefl _)
   ·exact h rfl
  simp only [zl, hne, if_false]
theorem RInvW.advance (hr : z2i ops acts = true) (hlex : ∀ (i : Nat) (o : Oper), ops[i]? = some o → ∀ j, dep o j → j < i) (hone : ∀ (i j : Nat) (oi oj : Oper) (d : Tmp), ops[i]? = some oi → ops[j]? = some oj → oi.dst = some d → oj.dst = some d → i = j) {i m : Nat} {Q : ASt → Prop} (hi : RInvW P ops acts K D (i :: L) listed tm T n H nx) (hna : acts.contains i = false) (hfr : z3D ops L i = true)
  (h : ∃ o, ops[i]? = some o ∧ z16 ⟨T, n, H, nx⟩ o = true ∧
   ((z15 ops ⟨T, n, H, nx⟩ o = false ∧ OpsR P W0 ops acts K m L (ASt.put ⟨T, n, H, nx⟩ o.dst undef .none) Q) ∨
    (z15 ops ⟨T, n, H, nx⟩ o = true ∧ ∃ v, aop P H nx (ASt.ev ⟨T, n, H, nx⟩) o = some (v, .none) ∧ (ze5 ops acts i o L = true ∨ ∀ H' nx', K nx' H' → aop P H' nx' (ASt.ev ⟨T, n, H, nx⟩) o = some (v, .none)) ∧ OpsR P W0 ops acts K m L (ASt.put ⟨T, n, H, nx⟩ o.dst v .none) Q))) :
  ∃ T', RInvW P ops acts K (i :: D) L listed tm T' n H nx ∧ OpsR P W0 ops acts K m L ⟨T', n, H, nx⟩ Q := by
 obtain ⟨o, ho, hd, h⟩ := h;have hl : ∀ j ∈ L, i ≠ j ∧ zdS ops i j = false := fun j hj => ⟨fun e => (List.nodup_cons.1 hi.nd).1 (e ▸ hj), z4I.1 hfr j hj⟩;have hdn := z1z hd
 have key : ∃ v, zhW P ops acts K L (zl T o.dst v) n H nx i o ∧ OpsR P W0 ops acts K m L ⟨zl T o.dst v, n, H, nx⟩ Q := by
  have hown : ∀ v d, o.dst = some d → zl T o.dst v d = v := fun v d hd => by simp [zl, hd]
  rcases h with ⟨hw, h⟩ | ⟨hw, v, hop, hedge, h⟩
  ·refine ⟨undef, ⟨hdn, undef, hown undef, .inl ⟨?_, rfl⟩⟩, h⟩;rw [z1c (tm' := T) (fun d hd => z39 hr hlex ho _ (.inr hd))];exact (z0I ⟨T, n, H, nx⟩ o).trans hw
  ·refine ⟨v, ⟨hdn, v, hown v, .inr ⟨?_, ?_, ?_⟩⟩, h⟩
   ·rw [z1c (tm' := T) (fun d hd => z39 hr hlex ho _ (.inr hd))];exact (z0I ⟨T, n, H, nx⟩ o).trans hw
   ·rw [z28 (tm' := T) (fun t ht => z39 hr hlex ho _ (.inl ht))];exact (z7n (st := ⟨T, n, H, nx⟩)).trans hop
   ·rcases hedge with hedge | hst
    ·unfold ze5 at hedge;rw [Bool.or_eq_true] at hedge;rcases hedge with hf | hf
     ·refine .inr fun H' nx' _ => ?_;rw [z28 (tm' := T) (fun t ht => z39 hr hlex ho _ (.inl ht)), z3L (H' := H) (nx' := nx) hf];exact (z7n (st := ⟨T, n, H, nx⟩)).trans hop
     ·refine .inl fun j hj hej => ?_;rw [List.all_eq_true] at hf;have := hf j hj;rw [hej] at this;simpa using this
    ·refine .inr fun H' nx' hK => ?_;rw [z28 (tm' := T) (fun t ht => z39 hr hlex ho _ (.inl ht))];exact (z7n (st := ⟨T, n, H, nx⟩)).trans (hst H' nx' hK)
 obtain ⟨v, hp, h2⟩ := key;refine ⟨zl T o.dst v, ⟨hi.size, hi.down, fun j hj => hi.unl j (List.mem_cons_of_mem _ hj), ?_, ?_, ?_, (List.nodup_cons.1 hi.nd).2, fun j hj => hi.lt j (List.mem_cons_of_mem _ hj), ?_, ?_, ?_⟩, h2⟩
 ·intro j hj;rcases hi.all j hj with h | h
  ·exact .inl (List.mem_cons_of_mem _ h)
  ·rcases List.mem_cons.1 h with rfl | h
   ·exact .inl List.mem_cons_self
   ·exact .inr h
 ·intro p hp j hj;rcases List.mem_cons.1 hp with rfl | hp
  ·exact (hl j hj).1
  ·exact hi.disj p hp j (List.mem_cons_of_mem _ hj)
 ·intro p hp j hj;rcases List.mem_cons.1 hp with rfl | hp
  ·exact (hl j hj).2
  ·exact hi.topo p hp j (List.mem_cons_of_mem _ hj)
 ·intro p hp2 hun;rcases List.mem_cons.1 hp2 with rfl | hp2
  ·exact ⟨o, ho, hp⟩
  ·obtain ⟨op, hop, hpe⟩ := hi.pend p hp2 hun;exact ⟨op, hop, z8D hr hone ho hop (hi.disj p hp2 i List.mem_cons_self) (hi.topo p hp2 i List.mem_cons_self) (fun h => by rw [hna] at h; cases h) v (fun j hj => List.mem_cons_of_mem _ hj) List.mem_cons_self hpe (.inl ⟨rfl, rfl⟩)⟩
 ·intro t ht;have h0 := hi.eqv t (fun p op hop hp hun => ht p op hop (List.mem_cons_of_mem _ hp) hun);have hne := ht i o ho List.mem_cons_self (hi.unl i List.mem_cons_self);rw [h0];cases hod : o.dst with
  | none => rfl
  | some d =>
   have : t ≠ d := fun e => hne (by rw [hod, e]);simp only [zl, this, if_false]
 ·intro p hp ha;rcases List.mem_cons.1 hp with rfl | hp
  ·rw [hna] at ha; cases ha
  ·exact hi.actl p hp ha
theorem RInvW.find (hr : z2i ops acts = true) (hlex : ∀ (i : Nat) (o : Oper), ops[i]? = some o → ∀ j, dep o j → j < i) (hone : ∀ (i j : Nat) (oi oj : Oper) (d : Tmp), ops[i]? = some oi → ops[j]? = some oj → oi.dst = some d → oj.dst = some d → i = j) {Q : ASt → Prop} {i : Nat} {o : Oper} (ho : ops[i]? = some o) (hall : ∀ j, dep o j → listed.getD j false = true) :
  ∀ (m : Nat) (L D : List Nat) (T : Nat → Value), RInvW P ops acts K D L listed tm T n H nx → OpsR P W0 ops acts K m L ⟨T, n, H, nx⟩ Q → i ∈ L → ∃ m' D' L' T', RInvW P ops acts K D' L' listed tm T' n H nx ∧ ((i ∈ D' ∧ OpsR P W0 ops acts K m' L' ⟨T', n, H, nx⟩ Q) ∨ (i ∈ L' ∧ z3D ops (L'.erase i) i = true ∧ ActStep P W0 ops acts K i ⟨T', n, H, nx⟩ fun s => OpsR P W0 ops acts K m' (L'.erase i) s Q)) := by
 intro m
 induction m with
 | zero =>
  intro L D T hi h hm;cases L with
  | nil => cases hm
  | cons k L => exact h.elim
 | succ m ih =>
  intro L D T hi h hm;cases L with
  | nil => cases hm
  | cons k L =>
   rcases h with ⟨hna, hfr, h⟩ | h
   ·obtain ⟨T', hi', h'⟩ := hi.advance hr hlex hone hna hfr h;by_cases hk : k = i
    ·subst hk;exact ⟨m, _, _, T', hi', .inl ⟨List.mem_cons_self, h'⟩⟩
    ·have hm2 : i ∈ L := by
      rcases List.mem_cons.1 hm with e | hm
      ·exact absurd e.symm hk
      ·exact hm
     exact ih _ _ _ hi' h' hm2
   ·have hfr : z3D ops ((k :: L).erase i) i = true := z4I.2 fun j hj => by
     cases hd : zdS ops i j with
     | false => rfl
     | true =>
      have hjl := hi.unl j (List.mem_of_mem_erase hj);unfold zdS at hd;rw [ho] at hd;have := hall j (z1G.1 hd);rw [hjl] at this;cases this
    exact ⟨m, D, _, T, hi, .inr ⟨hm, hfr, h i hm hfr⟩⟩
theorem zdj (hr : z2i ops acts = true) (hlex : ∀ (i : Nat) (o : Oper), ops[i]? = some o → ∀ j, dep o j → j < i) (hone : ∀ (i j : Nat) (oi oj : Oper) (d : Tmp), ops[i]? = some oi → ops[j]? = some oj → oi.dst = some d → oj.dst = some d → i = j) {ρ : Option Nat} {nx0 : Nat} {H0 : Heap} {C0 : Corr} {df : List Deferred} {Q' : ASt → Prop} {Q : Exit → Act → World → Prop}
  (hq : ∀ T H nx C a w, Q' ⟨T, n, H, nx⟩ → SRel W0 C ⟨T, n, H, nx⟩ a w → Stp nx0 H0 C0 nx H C → a.defers = df → Q .normal a w) :
  ∀ (fuel : Nat) (listed : Array Bool) (tm : Nat → Value) (m : Nat) (D L : List Nat) (T : Nat → Value) (H : Heap) (nx : Nat) (C : Corr) (a : Act) (w : World), RInvW P ops acts K D L listed tm T n H nx → ((List.range ops.size).filter fun i => !listed.getD i false).length = fuel →
   SRel W0 C ⟨tm, n, H, nx⟩ a w → Stp nx0 H0 C0 nx H C → a.defers = df → K nx H → OpsR P W0 ops acts K m L ⟨T, n, H, nx⟩ Q' → wpAnyIn (rf ρ) 0 P .any ops Q fuel listed a w := by
 intro fuel
 induction fuel with
 | zero =>
  intro listed tm m D L T H nx C a w hi hf hs hS hdf hK h
  have hall : ∀ i, i < ops.size → listed.getD i false = true := by
   intro i hlt;cases hl : listed.getD i false with
   | true => rfl
   | false =>
    have : i ∈ (List.range ops.size).filter fun i => !listed.getD i false := List.mem_filter.2 ⟨List.mem_range.2 hlt, by rw [hl]; rfl⟩;rw [List.length_eq_zero_iff.1 hf] at this;cases this
  refine ⟨?_, ?_⟩
  ·cases hrr : Region.ready .any ops listed with
   | nil => rfl
   | cons j r =>
    have hj : j ∈ Region.ready .any ops listed := by rw [hrr]; exact List.mem_cons_self ..
    obtain ⟨h0, o, ho, _⟩ := mem_ready.1 hj;have hlt : j < ops.size := (Array.getElem?_eq_some_iff.1 ho).1;have := hall j hlt;rw [z52 (by rw [hi.size]; exact hlt) false true, h0] at this;cases this
  ·cases L with
   | cons k L =>
    have := hi.unl k List.mem_cons_self;rw [hall k (hi.lt k List.mem_cons_self)] at this;cases this
   | nil =>
    have h : Q' ⟨T, n, H, nx⟩ := by cases m <;> exact h
    have htm : tm = T := by
     funext t;refine hi.eqv t fun p op hop hp hun => ?_;rw [hall p (Array.getElem?_eq_some_iff.1 hop).1] at hun;cases hun
    subst htm;exact hq _ _ _ C a w h hs hS hdf
 | succ fuel ih =>
  intro listed tm m D L T H nx C a w hi hf hs hS hdf hK h;refine ⟨?_, ?_⟩
  ·intro hrd;exfalso
   have hex : ∃ i, i < ops.size ∧ listed.getD i false = false ∧ ∀ j, j < i → listed.getD j false = true := by
    exact ziJ
   obtain ⟨i, hlt, hun, hmin⟩ := hex;have ho : ops[i]? = some ops[i] := by simp
   have : i ∈ Region.ready .any ops listed := mem_ready.2 ⟨by rw [z52 (by rw [hi.size]; exact hlt) true false]; exact hun, _, ho, fun e he hb => hmin _ (hlex i _ ho e.on ⟨e, he, hb, rfl⟩)⟩;rw [hrd] at this;cases this
  ·intro i hir;obtain ⟨h0, o, ho, hall0⟩ := mem_ready.1 hir;have hlt : i < ops.size := (Array.getElem?_eq_some_iff.1 ho).1;have hlts : i < listed.size := by rw [hi.size]; exact hlt
   have hun : listed.getD i false = false := by rw [z52 hlts false true]; exact h0
   have hall : ∀ j, dep o j → listed.getD j false = true := fun j ⟨e, he, hb, hj⟩ => hj ▸ hall0 e he hb
   have hcount : ((List.range ops.size).filter fun j => !(listed.setIfInBounds i true).getD j false).length = fuel := by
    exact ziN
   have hdown' : ∀ (k : Nat) (ok : Oper), ops[k]? = some ok → (listed.setIfInBounds i true).getD k false = true → ∀ j, dep ok j → (listed.setIfInBounds i true).getD j false = true := by
    intro k ok hok hk j hj;apply getD_set_true;by_cases e : i = k
    ·subst e;rw [ho] at hok;cases hok;exact hall j hj
    ·rw [getD_set_ne false e] at hk;exact hi.down k ok hok hk j hj
   have hwalk : ∃ m' D' L' T', RInvW P ops acts K D' L' listed tm T' n H nx ∧ ((i ∈ D' ∧ OpsR P W0 ops acts K m' L' ⟨T', n, H, nx⟩ Q') ∨ (i ∈ L' ∧ z3D ops (L'.erase i) i = true ∧ ActStep P W0 ops acts K i ⟨T', n, H, nx⟩ fun s => OpsR P W0 ops acts K m' (L'.erase i) s Q')) := by
    rcases hi.all i hlt with hD | hL
    ·exact ⟨m, D, L, T, hi, .inl ⟨hD, h⟩⟩
    ·exact RInvW.find hr hlex hone ho hall m L D T hi h hL
   clear hi h T D L m;obtain ⟨m, D, L, T, hi, hcase⟩ := hwalk;have hrd : ∀ t, (t ∈ z4d o ∨ z9u ops o = some t) → tm t = T t := fun t ht => hi.reads hr ho hall ht;rcases hcase with ⟨hD, h⟩ | ⟨hL, hfr, h⟩
   ·-- one that waits comes up
    obtain ⟨o', ho', hp⟩ := hi.pend i hD hun;rw [ho] at ho';cases ho';obtain ⟨p2, val, p3, p4⟩ := hp
    have hds : DStep P W0 ops tm n H nx o val H nx := by
     refine ⟨p2, ?_⟩;rw [z1c (tm' := T) (fun d hd => hrd d (.inr hd)), z28 (tm' := T) (fun t ht => hrd t (.inl ht))];rcases p4 with ⟨q1, q2⟩ | ⟨q1, q2, _⟩
     ·exact .inl ⟨q1, q2, rfl, rfl⟩
     ·exact .inr ⟨q1, .inl ⟨.none, q2, rfl, rfl⟩⟩
    refine hds.wp hs ho ?_;intro C' v' w' hs' hS';refine ih (listed.setIfInBounds i true) (zl tm o.dst val) m D L T H nx C' _ w' ⟨by simp [hi.size], hdown', ?_, hi.all, hi.disj, hi.topo, hi.nd, hi.lt, ?_, ?_, fun p hp ha => getD_set_true (hi.actl p hp ha)⟩ hcount hs' (hS.trans hS') ((z1x _ _ _).trans hdf) hK h
    ·intro j hj;rw [getD_set_ne false (hi.disj i hD j hj)];exact hi.unl j hj
    ·intro p hp hpu;by_cases e : i = p
     ·subst e;rw [z1j hlts] at hpu;cases hpu
     ·rw [getD_set_ne false e] at hpu;exact hi.pend p hp hpu
    ·intro t ht;by_cases hdt : o.dst = some t
     ·simp only [zl, hdt, if_true];exact (p3 t hdt).symm
     ·have hb : tm t = T t := hi.eqv t fun p op hop hp hpu => by
       by_cases e : i = p
       ·subst e;rw [ho] at hop;cases hop;exact hdt
       ·exact ht p op hop hp (by rw [getD_set_ne false e]; exact hpu)
      rw [← hb];cases hod : o.dst with
      | none => rfl
      | some d =>
       have : t ≠ d := fun e => hdt (by rw [hod, e]);simp only [zl, this, if_false]
   ·-- one that acts
    obtain ⟨o', ho', hd, hE, h⟩ := h;rw [ho] at ho';cases ho';have hdn := z1z hd;have hmE : ∀ j ∈ L.erase i, j ∈ L := fun j hj => List.mem_of_mem_erase hj;have hl : ∀ j ∈ L.erase i, i ≠ j ∧ zdS ops i j = false := fun j hj => ⟨fun e => by subst e; exact absurd hj (fun hx => (hi.nd.mem_erase_iff.1 hx).1 rfl), z4I.1 hfr j hj⟩
    have hnodep : ∀ p ∈ D, listed.getD p false = false → zdR ops i p = false := by
     intro p hp hpu;cases hx : zdR ops i p with
     | false => rfl
     | true =>
      have := zar hi.down ho hall hx;rw [hpu] at this;cases this
    have hnext : ∀ (v : Value) (H' : Heap) (nx' : Nat) (C' : Corr) (v' : Value) (w' : World), ((H' = H ∧ nx' = nx) ∨ K nx' H') → OpsR P W0 ops acts K m (L.erase i) ⟨zl T o.dst v, n, H', nx'⟩ Q' → SRel W0 C' ⟨zl tm o.dst v, n, H', nx'⟩ (a.put o.dst v') w' → Stp nx H C nx' H' C' → wpAnyIn (rf ρ) 0 P .any ops Q fuel (listed.setIfInBounds i true) (a.put o.dst v') w' := by
     intro v H' nx' C' v' w' hK' h' hs' hS';refine ih (listed.setIfInBounds i true) (zl tm o.dst v) m (i :: D) (L.erase i) (zl T o.dst v) H' nx' C' _ w' ⟨by simp [hi.size], hdown', ?_, ?_, ?_, ?_, hi.nd.erase i, fun j hj => hi.lt j (hmE j hj), ?_, ?_, ?_⟩ hcount hs' (hS.trans hS') ((z1x _ _ _).trans hdf) (by rcases hK' with ⟨rfl, rfl⟩ | hK'; exact hK; exact hK') h'
     ·intro j hj;rw [getD_set_ne false (hl j hj).1];exact hi.unl j (hmE j hj)
     ·intro j hj;rcases hi.all j hj with h | h
      ·exact .inl (List.mem_cons_of_mem _ h)
      ·by_cases e : j = i
       ·exact .inl (e ▸ List.mem_cons_self)
       ·exact .inr ((List.mem_erase_of_ne e).2 h)
     ·intro p hp j hj;rcases List.mem_cons.1 hp with rfl | hp
      ·exact (hl j hj).1
      ·exact hi.disj p hp j (hmE j hj)
     ·intro p hp j hj;rcases List.mem_cons.1 hp with rfl | hp
      ·exact (hl j hj).2
      ·exact hi.topo p hp j (hmE j hj)
     ·intro p hp hpu;rcases List.mem_cons.1 hp with rfl | hp
      ·rw [z1j hlts] at hpu;cases hpu
      ·have hne : i ≠ p := fun e => hi.disj p hp i hL e.symm;rw [getD_set_ne false hne] at hpu;obtain ⟨op, hop, hpe⟩ := hi.pend p hp hpu;refine ⟨op, hop, z8D hr hone ho hop (Ne.symm hne) (hi.topo p hp i hL) (fun _ => hnodep p hp hpu) v hmE hL hpe ?_⟩;rcases hK' with hK' | hK'
       ·exact .inl hK'
       ·exact .inr ⟨hE, hnodep p hp hpu, hK'⟩
     ·intro t ht;by_cases hdt : o.dst = some t
      ·simp only [zl, hdt, if_true]
      ·have hb : tm t = T t := hi.eqv t fun p op hop hp hpu => ht p op hop (List.mem_cons_of_mem _ hp) (by
        have hne : i ≠ p := fun e => hi.disj p hp i hL e.symm;rw [getD_set_ne false hne]; exact hpu)
       cases hod : o.dst with
       | none => exact hb
       | some d =>
        have : t ≠ d := fun e => hdt (by rw [hod, e]);simp only [zl, this, if_false];exact hb
     ·intro p hp ha;rcases List.mem_cons.1 hp with rfl | hp
      ·exact z1j hlts false
      ·exact getD_set_true (hi.actl p hp ha)
    have hwT : z25 ops tm o = z15 ops ⟨T, n, H, nx⟩ o := by
     rw [z1c (tm' := T) (fun d hd => hrd d (.inr hd))];exact z0I ⟨T, n, H, nx⟩ o
    have hevT : evR (z4d o) tm = evR (z4d o) T := z28 (fun t ht => hrd t (.inl ht));rcases h with ⟨hw, h⟩ | ⟨hw, ⟨v, e, hop, hKe, h⟩ | ⟨f, args, R, hc, hf2, hcall, h⟩⟩
    ·have hds : DStep P W0 ops tm n H nx o undef H nx := ⟨hdn, .inl ⟨hwT.trans hw, rfl, rfl, rfl⟩⟩;exact hds.wp hs ho fun C' v' w' hs' hS' => hnext undef H nx C' v' w' (.inl ⟨rfl, rfl⟩) h hs' hS'
    ·have hds : DStep P W0 ops tm n H nx o v (e.H nx H) (e.nx nx) := ⟨hdn, .inr ⟨hwT.trans hw, .inl ⟨e, by rw [hevT]; exact (z7n (st := ⟨T, n, H, nx⟩)).trans hop, rfl, rfl⟩⟩⟩;exact hds.wp hs ho fun C' v' w' hs' hS' => hnext v _ _ C' v' w' (.inr hKe) h hs' hS'
    ·refine zeF hs hdn (hwT.trans hw) (by rw [hevT]; exact (z4U (st := ⟨T, n, H, nx⟩)).trans hc) hf2 hcall ho ?_;intro v nx' H' C' v' w' hRv hs' hS';obtain ⟨hK', h'⟩ := h v nx' H' hRv;exact hnext v H' nx' C' v' w' (.inr hK') h' hs' hS'
theorem zG {id : Nat} {st : ASt} {Q : AExit → ASt → Prop} (acts : List Nat) (hm : P.follows .mixedOrders = true) (hs : z8l ops = true) (hr : z2i ops acts = true) (perm : List Nat) (hperm : ((List.range ops.size).all perm.contains && perm.all (fun i => decide (i < ops.size)) && decide perm.Nodup) = true) (h0 : K st.nx st.H) (h : OpsR P W0 ops acts K perm.length perm st (Q .normal)) : Trip P W0 (.region id ops true) st Q := by
 obtain ⟨b1, b2, _⟩ := z4j hs;simp only [Bool.and_eq_true, decide_eq_true_eq] at hperm;obtain ⟨⟨hp1, hp2⟩, hp3⟩ := hperm;intro ρ C a w hrr hss;have hs' : SRel W0 C st a w.drew := ⟨hss.tm, hss.sz, hss.rel.drew⟩
 have hfalse : ∀ i, (Array.replicate ops.size false).getD i false = false := fun i => by
  rw [Array.getD_eq_getD_getElem?, Array.getElem?_replicate]; split <;> rfl
 refine wpIn_region_any hm (zdj (P := P) (W0 := W0) (K := K) (n := st.n) (nx0 := st.nx) (H0 := st.H) (C0 := C) (df := a.defers) (Q' := Q .normal) hr b1 b2 (fun T H nx C' a' w' hq hs' hS hdf => ⟨.normal, _, C', rfl, hq, hs', hS, rfl, .of_eq hdf⟩) ops.size (Array.replicate ops.size false) st.tm perm.length [] perm st.tm st.H st.nx C a _ ?_ ?_ hs' (Stp.refl _ _ _) rfl h0 h)
 ·refine ⟨by simp, fun i o _ hl => (by rw [hfalse] at hl; cases hl), fun i _ => hfalse i, fun i hi => .inr ?_, fun p hp => (by cases hp), fun p hp => (by cases hp), hp3, fun i hi => (by have := List.all_eq_true.1 hp2 i hi; simpa using this), fun i hi => (by cases hi), fun t _ => rfl, fun p hp => (by cases hp)⟩;have := List.all_eq_true.1 hp1 i (List.mem_range.2 hi);simpa using this
 ·have : ((List.range ops.size).filter fun i => !(Array.replicate ops.size false).getD i false) = List.range ops.size := by
   rw [List.filter_eq_self];intro i _;rw [hfalse]; rfl
  rw [this, List.length_range]
theorem zt {i : Nat} {o : Oper} {st : ASt} {N : ASt → Prop} (ho : ops[i]? = some o) (he : acts.contains i = true) (h : OpsL P W0 ops [o] st fun s => K s.nx s.H ∧ N s) : ActStep P W0 ops acts K i st N := by
 obtain ⟨hd, h⟩ := h;refine ⟨o, ho, hd, he, ?_⟩;rcases h with ⟨hw, h⟩ | ⟨hw, ⟨v, e, hop, h⟩ | ⟨f, args, R, hc, hf, hcall, h⟩⟩
 ·exact .inl ⟨hw, h.2⟩
 ·exact .inr ⟨hw, .inl ⟨v, e, hop, h.1, h.2⟩⟩
 ·exact .inr ⟨hw, .inr ⟨f, args, R, hc, hf, hcall, fun v nx' H' hr => h v nx' H' hr⟩⟩
end
theorem z6o {P : Program} {H H' : Heap} {t : TypeId} {a : Option Addr} {n c : Nat} {lo hi mx : Option Value} (h : ∀ p, a = some p → H' p.block = H p.block) : z0E P H' t (.slice a n c) lo hi mx = z0E P H t (.slice a n c) lo hi mx := by
 cases a with
 | none =>
  unfold z0E;cases P.underlying t with
  | none => rfl
  | some d => cases d <;> rfl
 | some p =>
  unfold z0E;cases P.underlying t with
  | none => rfl
  | some d => cases d <;> first | rfl | simp only [h p rfl]
end Go.Am
namespace Go.Am
open Go.RowKit
section
variable {P : Program} {W0 : World} {ops : Array Oper} {acts : List Nat} {K : Nat → Heap → Prop}
theorem ActStep.skip {i j : Nat} {d d' : Tmp} {op : Op} {type : TypeId} {pos : String} {after : Array Edge} {tm : Nat → Value} {n nx : Nat} {H : Heap} {N : ASt → Prop} {want : Bool} (ho : ops[i]? = some ⟨some d, op, type, pos, after, some (j, want)⟩) (he : acts.contains i = true) (hd : d < n)
  (hj : (ops[j]?).bind (·.dst) = some d') (hb : tm d' = .bool (!want)) (h : N ⟨zl tm (some d) undef, n, H, nx⟩) : ActStep P W0 ops acts K i ⟨tm, n, H, nx⟩ N :=
 ⟨_, ho, by simp [z16, hd], he, .inl ⟨by cases want <;> simp [z15, hj, hb], h⟩⟩
theorem z6M {i j : Nat} {d d' : Tmp} {ts : Array TypeId} {type : TypeId} {pos : String} {after : Array Edge} {tm : Nat → Value} {n nx : Nat} {H : Heap} {f : FuncId} {R : Value → Nat → Heap → Prop} {N : ASt → Prop} {want : Bool} {c x y : Operand} {a b : Value} (ho : ops[i]? = some ⟨some d, .call ⟨.value c, #[x, y], ts⟩, type, pos, after, some (j, want)⟩) (he : acts.contains i = true) (hd : d < n)
  (hj : (ops[j]?).bind (·.dst) = some d') (hb : tm d' = .bool want) (hf' : ASt.ev ⟨tm, n, H, nx⟩ c = some (.func (.func f) #[] #[])) (hx : ASt.ev ⟨tm, n, H, nx⟩ x = some a) (hy : ASt.ev ⟨tm, n, H, nx⟩ y = some b) (hf : Am.z0O P f) (hcall : ACalls P W0 f [a, b] nx H R)
  (h : ∀ v nx' H', R v nx' H' → K nx' H' ∧ N ⟨zl tm (some d) v, n, H', nx'⟩) : ActStep P W0 ops acts K i ⟨tm, n, H, nx⟩ N :=
 ⟨_, ho, by simp [z16, hd], he, .inr ⟨by simp [z15, hj, hb], .inr ⟨f, [a, b], R, by simp [z0R, hf', z0B, hx, hy], hf, hcall, h⟩⟩⟩
theorem z86 {i j : Nat} {d d' : Tmp} {op : Op} {type : TypeId} {pos : String} {after : Array Edge} {tm : Nat → Value} {n nx : Nat} {H : Heap} {N : ASt → Prop} {want : Bool} (ho : ops[i]? = some ⟨some d, op, type, pos, after, some (j, want)⟩) (he : acts.contains i = true) (hd : d < n)
  (hj : (ops[j]?).bind (·.dst) = some d') (hb : tm d' = undef) (h : N ⟨zl tm (some d) undef, n, H, nx⟩) : ActStep P W0 ops acts K i ⟨tm, n, H, nx⟩ N :=
 ⟨_, ho, by simp [z16, hd], he, .inl ⟨by cases want <;> simp [z15, hj, hb, undef], h⟩⟩
end
theorem zE {H : Heap} {b e : Nat} {c vs : List Value} {t : Option Nat} {q : Option TypeId} (h : H b = some (.cells c e t false q)) (hl : vs.length = c.length) (ho : vs.all (·.oneCell') = true) : z5j H ⟨b, 0, t⟩ vs = some (.cells vs e t false q) := by
 unfold z5j;simp only [h];rw [if_pos ⟨trivial, zom, trivial, ho⟩];simp [hl]
end Go.Am
namespace Go.Am
open Go.RowKit
section
variable {P : Program} {W0 : World} {H : Heap} {nx n : Nat} {ev : Operand → Option Value} {dst : Option Tmp} {type : TypeId} {pos : String} {after : Array Edge} {guard : Option (Nat × Bool)}
theorem z98 {b m sz bytes : Nat} {el : TypeId} {u : Value} {xs z : List Value} {q : Option TypeId} {ro : Bool} {esz : Nat} {x y : Operand} {st xt : TypeId} {xd : TypeDesc} (hx : ev x = some (.slice (some ⟨b, 0, none⟩) 0 0)) (hy : ev y = some u)
  (hH : H b = some (.cells [] esz none ro q))
  (hs : z3x H sz u none = some (m, xs)) (h1 : xs.all (·.oneCell') = true) (hm : m ≠ 0) (hst : P.underlying st = some (.slice el)) (hxt : P.underlying xt = some xd) (hxd : z32 xd = true)
  (hsz : z1w P el = some sz) (hby : z0v P el = some bytes) (hz : z0D P el = some z) (hzl : z.length = sz) (hle : m ≤ 1099511627776) (hle2 : (2 * m + 192) * bytes ≤ 281474976710656) :
  aop P H nx ev ⟨dst, .call ⟨.builtin .append, #[x, y], #[st, xt]⟩, type, pos, after, guard⟩ = some (.slice (some ⟨nx, 0, some nx⟩) m m, .new (.cells xs sz (some nx) false (some el))) := by
 have hg : z0A H ⟨b, 0, none⟩ 0 = some [] := by
  unfold z0A;simp only [hH];rw [if_pos ⟨trivial, by simp⟩];simp
 simp [aop, hx, hy, z0B, z0F, z2v, hst, hxt, hsz, hby, hz, hxd, hzl, hs, hm, hH, hle, hle2, hg];rw [if_pos (by simpa using h1)]
theorem z7V {b sz bytes : Nat} {el : TypeId} {u : Value} {cs xs z : List Value} {q : Option TypeId} {tg : Option Nat} {ro : Bool} {esz : Nat} {x y : Operand} {st xt : TypeId} {xd : TypeDesc} (hx : ev x = some (.slice (some ⟨b, 0, tg⟩) 0 0)) (hy : ev y = some u)
  (hH : H b = some (.cells cs esz tg ro q))
  (hs : z3x H sz u none = some (0, xs)) (h1 : xs.all (·.oneCell') = true) (hst : P.underlying st = some (.slice el)) (hxt : P.underlying xt = some xd) (hxd : z32 xd = true)
  (hsz : z1w P el = some sz) (hby : z0v P el = some bytes) (hz : z0D P el = some z) (hzl : z.length = sz) :
  aop P H nx ev ⟨dst, .call ⟨.builtin .append, #[x, y], #[st, xt]⟩, type, pos, after, guard⟩ = some (.slice (some ⟨b, 0, tg⟩) 0 0, .none) := by
 simp [aop, hx, hy, z0B, z0F, z2v, hst, hxt, hsz, hby, hz, hxd, hzl, hs, hH];rw [if_pos (by simpa using h1)]
end
def RowE {α : Type} (enc : α → List Value) (sz : Nat) (el : TypeId) (H : Heap) (ob : Option (Nat × Nat)) (v : Value) (l : List α) : Prop :=
 OwnOf enc sz el H ob v l ∨ (ob = none ∧ l = [] ∧ ∃ b esz ro q, v = .slice (some ⟨b, 0, none⟩) 0 0 ∧ H b = some (.cells [] esz none ro q))
theorem RowE.at {α : Type} {enc : α → List Value} {sz : Nat} {el : TypeId} {H : Heap} {ob : Option (Nat × Nat)} {v : Value} {l : List α} (hk : ∀ x, (enc x).length = sz) (h : RowE enc sz el H ob v l) : RowsAt enc sz H v l := by
 rcases h with h | ⟨_, rfl, b, esz, ro, q, rfl, _⟩
 ·exact h.at hk
 ·exact .inr ⟨_, 0, rfl, fun i hi => absurd hi (by simp)⟩
theorem RowE.same {α : Type} {enc : α → List Value} {sz : Nat} {el : TypeId} {H H' : Heap} {nx nx' : Nat} {ob : Option (Nat × Nat)} {v : Value} {l : List α} (h : RowE enc sz el H ob v l) (hx : Ext nx H nx' H') (hok : ∀ id o, H id = some o → id < nx) (hlt : ∀ b t, ob = some (b, t) → b < nx) : RowE enc sz el H' ob v l := by
 rcases h with h | ⟨h1, h2, b, esz, ro, q, rfl, hH⟩
 ·exact .inl (h.ext hx hlt)
 ·exact .inr ⟨h1, h2, b, esz, ro, q, rfl, by rw [hx.2 b (hok _ _ hH)]; exact hH⟩
structure AppE {α : Type} (enc : α → List Value) (sz : Nat) (el : TypeId) (nx : Nat) (H : Heap) (ob : Option (Nat × Nat)) (l : List α) (v' : Value) (nx' : Nat) (H' : Heap) (ob' : Option (Nat × Nat)) : Prop where
 own : RowE enc sz el H' ob' v' l
 blk : ∀ b' t', ob' = some (b', t') → b' < nx' ∧ (b' = nx ∨ ∃ t, ob = some (b', t))
 le : nx ≤ nx'
 same : ∀ i, i < nx → (∀ b t, ob = some (b, t) → i ≠ b) → H' i = H i
 ok : (∀ b t, ob = some (b, t) → b < nx) → (∀ id o, H id = some o → id < nx) → ∀ id o, H' id = some o → id < nx'
attribute [local irreducible] aop OpsL Trip zI z2r OpsK OpsR
section
variable {P : Program} {W0 : World} {H : Heap} {nx n : Nat} {type : TypeId} {pos : String} {after : Array Edge} {ops : Array Oper} {l : List Oper} {tm : Nat → Value} {QQ : ASt → Prop} {d : Tmp}
theorem z0S {α : Type} {enc : α → List Value} {sz bytes : Nat} {z : List Value} {el st xt : TypeId} {ob : Option (Nat × Nat)} {v u : Value} {zs us : List α} {x y : Operand} (hk : ∀ x, (enc x).length = sz) (h1 : ∀ x, (enc x).all (·.oneCell') = true) (h0 : 0 < sz) (hd : d < n) (h : RowE enc sz el H ob v zs) (hu : RowsAt enc sz H u us) (hx : ASt.ev ⟨tm, n, H, nx⟩ x = some v) (hy : ASt.ev ⟨tm, n, H, nx⟩ y = some u) (hb : ∀ b t, ob = some (b, t) → b < nx)
  (hst : P.underlying st = some (.slice el)) (hxt : P.underlying xt = some (.slice el)) (hsz : z1w P el = some sz) (hby : z0v P el = some bytes) (hz : z0D P el = some z) (hzl : z.length = sz) (hle : zs.length + us.length ≤ 1000000) (hbl : bytes ≤ 1000)
  (hc : ∀ v' nx' H' ob', AppE enc sz el nx H ob (zs ++ us) v' nx' H' ob' → OpsL P W0 ops l ⟨zl tm (some d) v', n, H', nx'⟩ QQ) :
  OpsL P W0 ops (⟨some d, .call ⟨.builtin .append, #[x, y], #[st, xt]⟩, type, pos, after, none⟩ :: l) ⟨tm, n, H, nx⟩ QQ := by
 rcases h with h | ⟨rfl, rfl, b, esz, ro, q, rfl, hH⟩
 ·exact zO hk h1 h0 hd h hu hx hy hb hst hxt hsz hby hz hzl hle hbl fun v' nx' H' ob' hA => hc v' nx' H' ob' ⟨.inl hA.own, hA.blk, hA.le, hA.same, hA.ok⟩
 ·have hsrc := z7u hk h0 hu
  have hall : (us.flatMap enc).all (·.oneCell') = true := by
   rw [List.all_eq_true];intro v hv;obtain ⟨x, _, hx⟩ := List.mem_flatMap.1 hv;exact List.all_eq_true.1 (h1 x) v hx
  by_cases hl0 : us.length = 0
  ·have : us = [] := List.eq_nil_of_length_eq_zero hl0;subst this;refine z1R hd (z7V hx hy hH hsrc hall hst hxt rfl hsz hby hz hzl) (hc _ _ _ none ⟨.inr ⟨rfl, rfl, b, esz, ro, q, rfl, hH⟩, fun b' t' e => (by cases e), Nat.le_refl _, fun _ _ _ => rfl, fun _ h => h⟩)
  ·have hm1 : (2 * us.length + 192) * bytes ≤ 281474976710656 := by
    simp only [List.length_nil, Nat.zero_add] at hle;have : (2 * us.length + 192) * bytes ≤ (2 * us.length + 192) * 1000 := Nat.mul_le_mul_left _ hbl;omega
   refine OpsL.new hd (z98 hx hy hH hsrc hall hl0 hst hxt rfl hsz hby hz hzl (by simp at hle; omega) hm1) (hc _ _ _ (some (nx, nx)) ⟨.inl ⟨rfl, by rw [List.nil_append, z0j hk], [], by rw [zb, List.append_nil, List.nil_append]⟩, fun b' t' e => ?_, Nat.le_succ _, fun i hi _ => za zom, fun _ hok => zF hok⟩);cases e;exact ⟨Nat.lt_succ_self _, .inl rfl⟩
end
def z5v (x : Int) : List Value := [.int .i64 x]
theorem z5J (x : Int) : (z5v x).length = 1 := rfl
theorem z7C (x : Int) : (z5v x).all (·.oneCell') = true := rfl
theorem z1h {H : Heap} {v : Value} {l : List Int} (h : IntsAt H v l) : RowsAt z5v 1 H v l := by
 rcases h with h | ⟨a, c, rfl, hc⟩
 ·exact .inl h
 ·exact .inr ⟨a, c, rfl, fun i hi => by have := hc i hi; simpa [zh, z5v] using this⟩
theorem z1f {H : Heap} {v : Value} {l : List Int} (h : RowsAt z5v 1 H v l) : IntsAt H v l := by
 rcases h with h | ⟨a, c, rfl, hc⟩
 ·exact .inl h
 ·exact .inr ⟨a, c, rfl, fun i hi => by have := hc i hi; simpa [zh, z5v] using this⟩
def AppI (H : Heap) (ob : Option (Nat × Nat)) (el : TypeId) (v : Value) (xs : List Int) : Prop :=
 OwnInts H ob el v xs ∨ ∃ b t, ob = some (b, t) ∧ v = .slice (some ⟨b, 0, none⟩) xs.length xs.length ∧ xs ≠ [] ∧ H b = some (.cells (xs.map (.int .i64 ·)) 1 none false (some el))
theorem AppI.same {H H' : Heap} {ob : Option (Nat × Nat)} {el : TypeId} {v : Value} {xs : List Int} (hs : ∀ b t, ob = some (b, t) → H' b = H b) (h : AppI H ob el v xs) : AppI H' ob el v xs := by
 rcases h with h | ⟨b, t, rfl, h1, h2, h3⟩
 ·left;cases ob with
  | none => exact h
  | some bt =>
   obtain ⟨b, t⟩ := bt;obtain ⟨h1, h2, rest, h3⟩ := h;exact ⟨h1, h2, rest, by rw [hs b t rfl]; exact h3⟩
 ·exact .inr ⟨b, t, rfl, h1, h2, by rw [hs b t rfl]; exact h3⟩
theorem AppI.at {H : Heap} {ob : Option (Nat × Nat)} {el : TypeId} {v : Value} {xs : List Int} (h : AppI H ob el v xs) : IntsAt H v xs := by
 rcases h with h | ⟨b, t, rfl, rfl, h2, h3⟩
 ·exact OwnInts.at h
 ·exact NumsAt.own (rest := []) (by rw [List.append_nil]; exact h3)
section
variable {P : Program} {W0 : World} {H : Heap} {nx n : Nat} {ev : Operand → Option Value} {dst : Option Tmp} {type : TypeId} {pos : String} {after : Array Edge} {guard : Option (Nat × Bool)}
theorem z3O {b k m sz bytes : Nat} {el : TypeId} {u : Value} {cs xs z : List Value} {q : Option TypeId} {ro : Bool} {esz : Nat} {x y : Operand} {st xt : TypeId} {xd : TypeDesc} (hx : ev x = some (.slice (some ⟨b, 0, none⟩) k k)) (hy : ev y = some u)
  (hH : H b = some (.cells cs esz none ro q)) (hc : cs.length = k * sz)
  (hs : z3x H sz u none = some (m, xs)) (h1 : xs.all (·.oneCell') = true) (hm : m ≠ 0) (hst : P.underlying st = some (.slice el)) (hxt : P.underlying xt = some xd) (hxd : z32 xd = true)
  (hsz : z1w P el = some sz) (hby : z0v P el = some bytes) (hz : z0D P el = some z) (hzl : z.length = sz) (hle : k + m ≤ 1099511627776) (hle2 : (2 * (k + m) + 192) * bytes ≤ 281474976710656) :
  aop P H nx ev ⟨dst, .call ⟨.builtin .append, #[x, y], #[st, xt]⟩, type, pos, after, guard⟩ = some (.slice (some ⟨nx, 0, some nx⟩) (k + m) (k + m), .new (.cells (cs ++ xs) sz (some nx) false (some el))) := by
 have hg : z0A H ⟨b, 0, none⟩ (k * sz) = some cs := by
  unfold z0A;simp only [hH];rw [if_pos ⟨trivial, zom⟩];simp [← hc]
 simp [aop, hx, hy, z0B, z0F, z2v, hst, hxt, hsz, hby, hz, hxd, hzl, hs, hm, hH, hle, hle2, hg];rw [if_pos (by simpa using h1), if_neg (by omega : ¬ (k + m ≤ k))]
end
section
variable {P : Program} {W0 : World} {H : Heap} {nx n : Nat} {ops : Array Oper} {l : List Oper} {tm : Nat → Value} {QQ : ASt → Prop}
theorem z9m {d1 d2 dy : Tmp} {x : Operand} {st el ty1 ty2 : TypeId} {p1 p2 : String} {af1 af2 : Array Edge} {a : Int} {v : Value} {ob : Option (Nat × Nat)} {xs : List Int}
  (hd1 : d1 < n) (hd2 : d2 < n) (hx : ASt.ev ⟨tm, n, H, nx⟩ x = some (.int .i64 a)) (hne : dy ≠ d1) (hy : tm dy = v) (hv : AppI H ob el v xs) (hob : ∀ b t, ob = some (b, t) → b < nx)
  (hst : P.underlying st = some (.slice el)) (hsz : z1w P el = some 1) (hby : z0v P el = some 8) (hz : z0D P el = some [.int .i64 0]) (hle : xs.length ≤ 1000000000)
  (h : ∀ v' ob' H', OwnInts H' ob' el v' (xs ++ [a]) → (∃ b, ob' = some (b, nx + 1) ∧ (b = nx + 1 ∨ ∃ t, ob = some (b, t))) → (∀ k, k < nx → (∀ b t, ob = some (b, t) → k ≠ b) → H' k = H k) →
   OpsL P W0 ops l ⟨zl (zl tm (some d1) (.slice (some ⟨nx, 0, none⟩) 1 1)) (some d2) v', n, H', nx + 1 + 1⟩ QQ) :
  OpsL P W0 ops (⟨some d1, .buildSlice st 1 #[(0, x)], ty1, p1, af1, none⟩ :: ⟨some d2, .call ⟨.builtin .append, #[.tmp dy, .tmp d1], #[st, st]⟩, ty2, p2, af2, none⟩ :: l) ⟨tm, n, H, nx⟩ QQ := by
 rcases hv with hv | ⟨b, t, rfl, rfl, hne0, hH⟩
 ·exact z1C hd1 hd2 hx hne hy hv hob hst hsz hby hz hle h
 ·have hb := hob b t rfl;refine OpsL.new hd1 (z2E hx hst hsz hz) ?_
  refine OpsL.new hd2 (z3O (b := b) (sz := 1) (bytes := 8) (k := xs.length) (m := 1) (cs := xs.map (.int .i64 ·)) (xs := [.int .i64 a]) (u := .slice (some ⟨nx, 0, none⟩) 1 1) (xd := .slice el) (by simp [ASt.ev, zl, hne, hy]) (by simp [ASt.ev, zl])
   (by rw [za (show b ≠ nx by omega)]; exact hH) (by simp) (z6S (by exact zb) rfl zom) rfl zom hst hst rfl hsz hby hz rfl zom zom) ?_
  refine h _ (some (nx + 1, nx + 1)) _ ⟨by simp, by simp, [], ?_⟩ ⟨_, rfl, .inl rfl⟩ ?_
  ·rw [zb]; simp
  ·intro k hk _;rw [za zom, za zom]
end
end Go.Am
namespace Go.Am
open Go.RowKit
abbrev Thg := Int × Int
def z1q (t : Thg) : List Value := [.int .i64 t.1, .int .i64 t.2]
theorem z1F (t : Thg) : (z1q t).length = 2 := rfl
theorem z7B (t : Thg) : (z1q t).all (·.oneCell') = true := rfl
def thV (t : Thg) : Value := .agg (z1q t).toArray
def z08 (m : R4) : List Thg := [(0, m.1), (1, m.2.1)]
def z0t (m : R4) : List Thg := [(0, m.2.2.1), (1, m.2.2.2)]
def z1d (r : R4) : R4 := (r.1, 0, r.2.2.1, r.2.2.2)
def z1S (r : R4) : R4 := (r.1, r.2.2.1, r.2.2.2, 0)
def z3A (r : R3) : R4 := (r.1, 0, r.2.2, 0)
def z0b (a : Aut) : List R4 := a.opens.map z1d ++ a.closes.map z1S ++ a.inners.map z3A
def z5i (p : List Thg) : List Value := p.flatMap z1q
section
variable {P : Program} {H : Heap} {nx : Nat} {ev : Operand → Option Value} {dst : Option Tmp} {type : TypeId} {pos : String} {after : Array Edge} {guard : Option (Nat × Bool)}
theorem z0k {t : TypeId} {x i : Operand} {ok : Bool} {v k r : Value} (hx : ev x = some v) (hi : ev i = some k) (h : z1U P H t v k ok = some r) : aop P H nx ev ⟨dst, .lookup t x i ok, type, pos, after, guard⟩ = some (r, .none) := by simp [aop, hx, hi, h]
theorem z10 {t : TypeId} {m k x : Operand} {a b c : Value} {e : Eff} (hm : ev m = some a) (hk : ev k = some b) (hx : ev x = some c) (h : zP P H t a b c = some e) : aop P H nx ev ⟨dst, .mapUpdate t m k x, type, pos, after, guard⟩ = some (undef, e) := by simp [aop, hm, hk, hx, h]
theorem z2b {t : TypeId} : aop P H nx ev ⟨dst, .makeMap t none, type, pos, after, guard⟩ = some (.map (some nx), .new (.map [] [] 0)) := by simp [aop, z2d, z5N]
theorem z78 {t e : TypeId} {x i : Operand} {cs : Array Value} {len : Nat} {k : IntKind} {j : Int} {sz : Nat} {v : Value} (hx : ev x = some (.agg cs)) (hi : ev i = some (.int k j)) (hu : P.underlying t = some (.array len e)) (hs : z1w P e = some sz) (h0 : 0 ≤ j) (h1 : j < len) (hv : z0C P e cs.toList (j.toNat * sz) = some v) :
  aop P H nx ev ⟨dst, .index t x i, type, pos, after, guard⟩ = some (v, .none) := by
 simp [aop, zaQ, hx, hi, hu, hs, h0, h1, hv]
end
end Go.Am
namespace Go.Proofs.YteplpegfcpmflaaGreat
open Go.RowKit Go.Am
attribute [local irreducible] aop OpsL Trip zI z2r OpsK OpsR
theorem z6g : Am.z0O Tryz.prog 78 := ⟨Tryz.f78, Tryz.func78, by kernel_rfl, by kernel_rfl⟩
theorem zaf : Am.z0O Tryz.prog 61 := ⟨Tryz.f61, Tryz.func61, by kernel_rfl, by kernel_rfl⟩
theorem z96 : Am.z0O Tryz.prog 60 := ⟨Tryz.f60, Tryz.func60, by kernel_rfl, by kernel_rfl⟩
theorem zgp (H : Heap) (x y : Thg) : aEq Tryz.prog H 60 101 (thV x) (thV y) = some (decide (x = y)) := by
 have h1 : Tryz.prog.stoodInHeld 101 = false := by kernel_rfl
 obtain ⟨a, b⟩ := x;obtain ⟨c, d⟩ := y
 have key : aEq Tryz.prog H 60 101 (thV (a, b)) (thV (c, d)) = some ((a == c) && (b == d)) := by
  cases h : (a == c) <;> cases h2 : (b == d) <;> simp [thV, z1q, aEq, z20, z0C, z2t, h, h2, h1, Tryz.underlying101, Tryz.underlying3]
 rw [key];congr 1;rw [Bool.eq_iff_iff];simp
theorem z8K {v : Thg → Value} (H : Heap) (k : Thg) : ∀ (l : List Thg) (i : Nat), k ∉ l → z18 Tryz.prog H 101 (thV k) (l.map fun t => (thV t, v t)) i = some none := by
 intro l
 induction l with
 | nil => intro i _; rfl
 | cons t l ih =>
  intro i h;simp only [List.mem_cons, not_or] at h;simp only [List.map_cons, z18, zgp, decide_eq_false h.1];exact ih (i + 1) h.2
theorem zdr {v : Thg → Value} (H : Heap) (k : Thg) : ∀ (l : List Thg) (i : Nat), k ∈ l → ∃ j, z18 Tryz.prog H 101 (thV k) (l.map fun t => (thV t, v t)) i = some (some (i + j, v k)) ∧ l[j]? = some k := by
 intro l
 induction l with
 | nil => intro i h; cases h
 | cons t l ih =>
  intro i h;by_cases e : k = t
  ·subst e;exact ⟨0, by simp only [List.map_cons, z18, zgp, decide_true]; rfl, rfl⟩
  ·obtain ⟨j, h1, h2⟩ := ih (i + 1) ((List.mem_cons.1 h).resolve_left e);refine ⟨j + 1, ?_, h2⟩;simp only [List.map_cons, z18, zgp, decide_eq_false e];rw [h1];congr 3;omega
theorem z8k (k : Thg) (H : Heap) : z1a Tryz.prog 60 101 (thV k) = true ∧ z8h H (thV k) = true ∧ z2j (thV k) = true := ⟨by kernel_rfl, by kernel_rfl, by kernel_rfl⟩
def FoundAt (H : Heap) (v : Value) (F : List Thg) : Prop := ∃ m bs clk, v = .map (some m) ∧ H m = some (.map (F.map fun t => (thV t, .agg #[])) bs clk)
theorem FoundAt.ext {nx nx' : Nat} {H H' : Heap} {v : Value} {F : List Thg} (h : FoundAt H v F) (hx : Ext nx H nx' H') (hok : ∀ id o, H id = some o → id < nx) : FoundAt H' v F := by
 obtain ⟨m, bs, clk, h1, h2⟩ := h;exact ⟨m, bs, clk, h1, by rw [hx.2 m (hok _ _ h2)]; exact h2⟩
theorem FoundAt.told {H : Heap} {v : Value} {F : List Thg} (h : FoundAt H v F) (k : Thg) : z1U Tryz.prog H 53 v (thV k) true = some (.tuple #[.agg #[], .bool (decide (k ∈ F))]) := by
 obtain ⟨m, bs, clk, rfl, hm⟩ := h;have hmo : z4z H (.map (some m)) = some (F.map fun t => (thV t, .agg #[])) := by simp only [z4z, hm]
 obtain ⟨c1, _, _⟩ := z8k k H;unfold z1U;simp only [Tryz.underlying53, hmo, show z6A Tryz.prog 103 = some (.agg #[]) from rfl, c1, show (Tryz.prog.underlying 101).isSome = true from rfl, and_self, if_true];by_cases hk : k ∈ F
 ·obtain ⟨j, h1, _⟩ := zdr (v := fun _ => .agg #[]) H k F 0 hk;simp only [h1, hk, decide_true]
 ·simp only [z8K (v := fun _ => .agg #[]) H k F 0 hk, hk, decide_false]
theorem FoundAt.put {H : Heap} {m : Nat} {bs : List Nat} {clk : Nat} {F : List Thg} {k : Thg} (hm : H m = some (.map (F.map fun t => (thV t, .agg #[])) bs clk)) (hk : k ∉ F) :
  zP Tryz.prog H 53 (.map (some m)) (thV k) (.agg #[]) = some (.upd m (.map ((F ++ [k]).map fun t => (thV t, .agg #[])) (bs ++ [clk]) (clk + 1))) := by
 obtain ⟨c1, c2, _⟩ := z8k k H;unfold zP;simp only [Tryz.underlying53, hm, c1, c2, show (Tryz.prog.underlying 101).isSome = true from rfl, and_self, if_true, z8K (v := fun _ => .agg #[]) H k F 0 hk, List.map_append, List.map_cons, List.map_nil]
theorem zfb (W0 : World) {nx : Nat} {H : Heap} (m : R4) :
  ACalls Tryz.prog W0 78 [.agg (Go.Am.e4 m).toArray] nx H fun v nx' H' => v = .agg (z5i (z08 m)).toArray ∧ Ext nx H nx' H' := by
 refine zm (fn := Tryz.f78) (c := _) Tryz.func78 rfl (fun tm n hn0 htm => ?_);have q0 : tm 0 = .agg (Go.Am.e4 m).toArray := htm 0;clear htm;replace hn0 : n = 10 := hn0;refine z5h ?_;refine OpsL.new zsd (z0a evr) ?_;refine OpsL.new zsd (zD (l := rep 4 [.int .i64 0]) krf) ?_;obtain ⟨G, hG⟩ : ∃ G, G = (H.put nx (.cells (Value.agg (Go.Am.e4 m).toArray).cells.toList 0 none false (some 106))).put (nx + 1) (.cells (rep 4 [.int .i64 0]) 0 none false (some 108)) := ⟨_, rfl⟩;have hx0 : Ext nx H (nx + 1 + 1) G := by rw [hG]; exact zj.trans zj
 have gx : G nx = some (.cells (Go.Am.e4 m) 0 none false (some 106)) := by rw [hG, za zom, zb]; rfl
 have gy : G (nx + 1) = some (.cells (rep 4 [.int .i64 0]) 0 none false (some 108)) := by rw [hG, zb]
 have c1 : zh G ⟨nx, 0, none⟩ (.int .i64 m.1) := by exact ze gx rfl
 have c2 : zh G ⟨nx, 0 + 1, none⟩ (.int .i64 m.2.1) := by rw [Nat.zero_add]; exact ze gx rfl
 rw [← hG];clear hG q0;refine zhI ?_;refine zd (zC (v := thV (0, m.1)) (l := [(0, .int .i64 0), (1, .int .i64 m.1)]) zep krf) ?_
 repeat (refine zd (by first | exact ofa | exact old) ?_)
 refine zd (zC (v := thV (1, m.2.1)) (l := [(0, .int .i64 1), (1, .int .i64 m.2.1)]) zep krf) ?_;refine zd (zC (v := .agg (z5i (z08 m)).toArray) (l := [(0, thV (0, m.1)), (1, thV (1, m.2.1))]) zeq krf) ?_;refine OpsL.upd (zw (k := 4) evr evr zxr rfl (o := .cells (z5i (z08 m)) 0 none false (some 108)) (zE (vs := z5i (z08 m)) gy rfl rfl)) ?_;refine zeY ?_;have hrd : z1N Tryz.prog (G.put (nx + 1) (.cells (z5i (z08 m)) 0 none false (some 108))) 108 ⟨nx + 1, 0, none⟩ = some (.agg (z5i (z08 m)).toArray) := z1g (k := 4) zxr zxr zxr (zH zb rfl);exact ⟨.inr rfl, _, z2h (a := ⟨nx + 1, 0, none⟩) stp hrd, rfl, hx0.1, fun i hi => by show Heap.put G _ _ i = _; rw [za zom]; exact hx0.2 i hi⟩
theorem zho (W0 : World) {nx : Nat} {H : Heap} (m : R4) :
  ACalls Tryz.prog W0 61 [.agg (Go.Am.e4 m).toArray] nx H fun v nx' H' => v = .agg (z5i (z0t m)).toArray ∧ Ext nx H nx' H' := by
 refine zm (fn := Tryz.f61) (c := _) Tryz.func61 rfl (fun tm n hn0 htm => ?_);have q0 : tm 0 = .agg (Go.Am.e4 m).toArray := htm 0;clear htm;replace hn0 : n = 10 := hn0;refine z5h ?_;refine OpsL.new zsd (z0a evr) ?_;refine OpsL.new zsd (zD (l := rep 4 [.int .i64 0]) krf) ?_;obtain ⟨G, hG⟩ : ∃ G, G = (H.put nx (.cells (Value.agg (Go.Am.e4 m).toArray).cells.toList 0 none false (some 106))).put (nx + 1) (.cells (rep 4 [.int .i64 0]) 0 none false (some 108)) := ⟨_, rfl⟩;have hx0 : Ext nx H (nx + 1 + 1) G := by rw [hG]; exact zj.trans zj
 have gx : G nx = some (.cells (Go.Am.e4 m) 0 none false (some 106)) := by rw [hG, za zom, zb]; rfl
 have gy : G (nx + 1) = some (.cells (rep 4 [.int .i64 0]) 0 none false (some 108)) := by rw [hG, zb]
 have c1 : zh G ⟨nx, 0 + 2, none⟩ (.int .i64 m.2.2.1) := by rw [Nat.zero_add]; exact ze gx rfl
 have c2 : zh G ⟨nx, 0 + 3, none⟩ (.int .i64 m.2.2.2) := by rw [Nat.zero_add]; exact ze gx rfl
 rw [← hG];clear hG q0;refine zhI ?_;refine zd (zC (v := thV (0, m.2.2.1)) (l := [(0, .int .i64 0), (1, .int .i64 m.2.2.1)]) zep krf) ?_
 repeat (refine zd (by first | exact ofa | exact old) ?_)
 refine zd (zC (v := thV (1, m.2.2.2)) (l := [(0, .int .i64 1), (1, .int .i64 m.2.2.2)]) zep krf) ?_;refine zd (zC (v := .agg (z5i (z0t m)).toArray) (l := [(0, thV (0, m.2.2.1)), (1, thV (1, m.2.2.2))]) zeq krf) ?_;refine OpsL.upd (zw (k := 4) evr evr zxr rfl (o := .cells (z5i (z0t m)) 0 none false (some 108)) (zE (vs := z5i (z0t m)) gy rfl rfl)) ?_;refine zeY ?_;have hrd : z1N Tryz.prog (G.put (nx + 1) (.cells (z5i (z0t m)) 0 none false (some 108))) 108 ⟨nx + 1, 0, none⟩ = some (.agg (z5i (z0t m)).toArray) := z1g (k := 4) zxr zxr zxr (zH zb rfl);exact ⟨.inr rfl, _, z2h (a := ⟨nx + 1, 0, none⟩) stp hrd, rfl, hx0.1, fun i hi => by show Heap.put G _ _ i = _; rw [za zom]; exact hx0.2 i hi⟩
theorem zaZ (p : List Thg) (hp : p.length = 2) {i : Nat} (hi : i < 2) : z0C Tryz.prog 101 (z5i p) (i * 2) = some (thV (p[i]'zom)) := by
 have hfl := z0j z1F p;unfold z0C z5i;rw [Tryz.underlying101];simp only [z2t, if_true, show z1w Tryz.prog 101 = some 2 from rfl];rw [if_pos (by rw [hfl]; omega), z53 z1F p i zom];rfl
theorem zgi (W0 : World) {nx : Nat} {H : Heap} {fv : Value} {F : List Thg} (m : R4) (hF : FoundAt H fv F) :
  ACalls Tryz.prog W0 60 [fv, .agg (Go.Am.e4 m).toArray] nx H fun v nx' H' => v = .bool (decide (∀ t ∈ z08 m, t ∈ F)) ∧ Ext nx H nx' H' := by
 refine zm (fn := Tryz.f60) (c := _) Tryz.func60 rfl (fun tm n hn0 htm => ?_);have q0 : tm 0 = fv := htm 0;have q1 : tm 1 = .agg (Go.Am.e4 m).toArray := htm 1;clear htm;replace hn0 : n = 23 := hn0;refine Trip.ok fun hok => ?_;replace hok : ∀ id o, H id = some o → id < nx := hok;refine zcj ?_;refine OpsL.new zsd (z0a evr) ?_;have hx0 : Ext nx H (nx + 1) (H.put nx (.cells (Value.agg (Go.Am.e4 m).toArray).cells.toList 0 none false (some 106))) := zj;have gx : (H.put nx (.cells (Value.agg (Go.Am.e4 m).toArray).cells.toList 0 none false (some 106))) nx = some (.cells (Go.Am.e4 m) 0 none false (some 106)) := zb;have hok1 := zF (o := .cells (Value.agg (Go.Am.e4 m).toArray).cells.toList 0 none false (some 106)) hok;generalize H.put nx (.cells (Value.agg (Go.Am.e4 m).toArray).cells.toList 0 none false (some 106)) = G at *;refine z9q ?_;refine zd (zg (k := 4) (vs := Go.Am.e4 m) evd zxr rfl zxr (zH gx rfl)) ?_;refine z0c (hf := z6g) (hc := (zfb W0 m)) (h := ?_);rintro v1 n1 H1 ⟨rfl, x1⟩;have hx1 := hx0.trans x1
 repeat (first | refine zd (by exact omv) ?_ | refine Trip.block ?_ | (refine OpsL.nil ?_; (change Trip _ _ _ _ _)))
 have hlen : (z08 m).length = 2 := rfl;refine zu (fun (i : Nat) st => ∃ (tm' : Nat → Value) (nx' : Nat) (H' : Heap), st = ⟨tm', n, H', nx'⟩ ∧ Ext nx H nx' H' ∧ tm' 0 = fv ∧ tm' 10 = .agg (z5i (z08 m)).toArray ∧ tm' 11 = .int .i64 i ∧ i ≤ 2 ∧ ∀ (j : Nat) (h : j < (z08 m).length), j < i → (z08 m)[j] ∈ F) (fun i => 2 - i) 0 ?_ ?_
 ·exact ⟨_, _, _, rfl, hx1, stp, stp, stp, zom, fun j _ h => by omega⟩
 ·clear q0 q1;rintro i st ⟨tm, nx', H', rfl, hx, q0, q10, q11, hi, hs⟩;by_cases hlt : i < 2
  ·have hp := zaZ (z08 m) hlen hlt;generalize ht : (z08 m)[i]'zom = t at *;refine zgA ?_;refine zfx ?_;refine zd (z78 (len := 2) (e := 101) (sz := 2) (v := thV t) evr evr zxr zxr zom zom (by show z0C _ _ (z5i (z08 m)) ((i : Int).toNat * 2) = _; rw [Int.toNat_natCast]; exact hp)) ?_;refine OpsL.new zsd (zD (l := rep 2 [.int .i64 0]) krf) ?_;refine OpsL.upd (zw (k := 2) (u := thV t) evd evd zxr rfl (o := .cells (z1q t) 0 none false (some 101)) (zE (vs := z1q t) zb rfl rfl)) ?_;obtain ⟨G4, hG4⟩ : ∃ G4, G4 = (H'.put nx' (.cells (rep 2 [.int .i64 0]) 0 none false (some 101))).put nx' (.cells (z1q t) 0 none false (some 101)) := ⟨_, rfl⟩;have hx4 : Ext nx' H' (nx' + 1) G4 := ⟨Nat.le_succ _, fun j hj => by rw [hG4, za zom, za zom]⟩;have hb4 : G4 nx' = some (.cells (z1q t) 0 none false (some 101)) := by rw [hG4, zb]
   first | rw [← hG4] | skip
   clear hG4;have hF4 := (hF.ext (hx.trans hx4) hok).told t;refine zaE ?_;refine zd (zg (k := 2) (vs := z1q t) evd zxr rfl zxr (zH hb4 rfl)) ?_;refine zd (z0k evd evr hF4) ?_;refine zfz ?_;refine OpsL.new zsd (zD (l := []) krf) ?_;refine OpsL.upd (zw (k := 0) (u := .agg #[]) evd evr zxr rfl (o := .cells [] 0 none false (some 103)) (zE (vs := []) zb rfl rfl)) ?_;obtain ⟨G5, hG5⟩ : ∃ G5, G5 = (G4.put (nx' + 1) (.cells [] 0 none false (some 103))).put (nx' + 1) (.cells [] 0 none false (some 103)) := ⟨_, rfl⟩;have hx5 : Ext (nx' + 1) G4 (nx' + 1 + 1) G5 := ⟨Nat.le_succ _, fun j hj => by rw [hG5, za zom, za zom]⟩
   first | rw [← hG5] | skip
   clear hG5 hF4 hb4;have hx9 := (hx.trans hx4).trans hx5;by_cases htF : t ∈ F
   ·simp only [htF, decide_true]
    repeat (first | (refine zd (by first | exact omv | exact z0y | exact z7e) ?_) | refine Trip.seq ?_ | refine zk ?_ | (refine OpsL.nil ?_; (change Trip _ _ _ _ _)))
    refine zck ?_;refine ⟨i + 1, ⟨_, _, _, rfl, hx9, stp, stp, stp, zom, fun j hj hji => ?_⟩, zom⟩;by_cases e : j = i
    ·subst e; rw [ht]; exact htF
    ·exact hs j hj zom
   ·simp only [htF, decide_false]
    repeat (first | (refine zd (by first | exact omv | exact z0y | exact z7e) ?_) | refine Trip.seq ?_ | refine zk ?_ | (refine OpsL.nil ?_; (change Trip _ _ _ _ _)))
    refine zdN ?_;refine ⟨.inr rfl, _, zy, ?_, hx9⟩;have : ¬ ∀ t ∈ z08 m, t ∈ F := fun h => htF (by rw [← ht]; exact h _ (List.getElem_mem _));rw [decide_eq_false this];simp [zl]
  ·have hi2 : i = 2 := by omega
   subst hi2;refine zcl ?_;refine zhQ ?_;refine ⟨.inr rfl, _, zy, ?_, hx⟩
   have : ∀ t ∈ z08 m, t ∈ F := fun t ht => by
    obtain ⟨j, hj, rfl⟩ := List.getElem_of_mem ht;exact hs j hj zom
   rw [decide_eq_true this];simp [zl]
end Go.Proofs.YteplpegfcpmflaaGreat
namespace Go.Am
open Go.RowKit
theorem z0X (r : R4) : (e4 r).length = 4 := rfl
theorem z5m (r : R4) : (e4 r).all (·.oneCell') = true := rfl
theorem z48 (r : R3) : (e3 r).length = 3 := rfl
theorem zcF (r : R3) : (e3 r).all (·.oneCell') = true := rfl
def z1O (ss : List (ByteArray × Int)) (k : Int) (i : Nat) : List Int := (((List.range i).filter fun j => match ss[j]? with | some x => decide (x.2 = k) | none => false).map fun (j : Nat) => (j : Int))
theorem z9X (ss : List (ByteArray × Int)) (k : Int) {i : Nat} (hi : i < ss.length) : z1O ss k (i + 1) = if ss[i].2 = k then z1O ss k i ++ [(i : Int)] else z1O ss k i := by
 unfold z1O;rw [List.range_succ, List.filter_append, List.map_append];simp only [List.filter_cons, List.filter_nil, List.getElem?_eq_getElem hi, decide_eq_true_eq];split <;> simp_all
theorem zbL (ss : List (ByteArray × Int)) (k : Int) (i : Nat) : (z1O ss k i).length ≤ i := by
 unfold z1O;rw [List.length_map];refine Nat.le_trans (List.length_filter_le _ _) ?_;simp
theorem zbK {ss : List (ByteArray × Int)} {k : Int} {i : Nat} (hi : i ≤ ss.length) {x : Int} (h : x ∈ z1O ss k i) : kdF ss x k = true := by
 unfold z1O at h;rw [List.mem_map] at h;obtain ⟨j, hj, rfl⟩ := h;rw [List.mem_filter, List.mem_range] at hj;obtain ⟨h1, h2⟩ := hj;unfold kdF;rw [Int.toNat_natCast];have h3 : j < ss.length := by omega
 simp only [List.getElem?_eq_getElem h3, decide_eq_true_eq] at h2 ⊢;simp [h2, h3]
def z43 (ss : List (ByteArray × Int)) (k x : Int) : Int := match (z1O ss k ss.length)[(x % ((z1O ss k ss.length).length : Int)).toNat]? with | some y => y | none => -1
theorem z57 {ss : List (ByteArray × Int)} {k x : Int} (h : 0 ≤ z43 ss k x) : kdF ss (z43 ss k x) k = true := by
 unfold z43 at *;split at h
 ·rename_i y hy;exact zbK (Nat.le_refl _) (List.mem_of_getElem? hy)
 ·omega
def z5F (a : Aut) (p : Int) : Aut := ⟨a.N, a.G, a.init ++ [p], a.final, a.opens, a.closes, a.inners⟩
def zcs (a : Aut) (p : Int) : Aut := ⟨a.N, a.G, a.init, a.final ++ [p], a.opens, a.closes, a.inners⟩
def zdP (a : Aut) (p : R4) : Aut := ⟨a.N, a.G, a.init, a.final, a.opens ++ [p], a.closes, a.inners⟩
def zdQ (a : Aut) (p : R4) : Aut := ⟨a.N, a.G, a.init, a.final, a.opens, a.closes ++ [p], a.inners⟩
def zdY (a : Aut) (p : R3) : Aut := ⟨a.N, a.G, a.init, a.final, a.opens, a.closes, a.inners ++ [p]⟩
def zbt (ss : List (ByteArray × Int)) (a : Aut) (x : Int) : Aut :=
 let y := x % 1099511627776
 let p := y / 8 % a.N
 let q := y / 80 % a.N
 let z := y / 800 % 7
 if y % 8 = 0 then z5F a p
 else if y % 8 = 1 then zcs a p
 else if y % 8 = 2 ∨ y % 8 = 3 then (if 0 ≤ z43 ss 1 z then zdP a (p, z43 ss 1 z, q, 1 + y / 8000 % a.G) else a)
 else if y % 8 = 4 ∨ y % 8 = 5 then (if 0 ≤ z43 ss 2 z then zdQ a (p, z43 ss 2 z, y / 8000 % (a.G + 1), q) else a)
 else (if 0 ≤ z43 ss 3 z then zdY a (p, z43 ss 3 z, q) else a)
def z44 (size most : Int) : Aut := ⟨1 + size % most, 1 + size.tdiv 7 % 2, [], [], [], [], []⟩
def z5A (ss : List (ByteArray × Int)) (size most : Int) (ns : List Int) (i : Nat) : Aut := (ns.take i).foldl (zbt ss) (z44 size most)
def zbu (a : Aut) : Aut := if a.init = [] then z5F a 0 else a
def z5T (ss : List (ByteArray × Int)) (size most : Int) (ns : List Int) : Aut := zbu (z5A ss size most ns 24)
theorem z6Z (ss : List (ByteArray × Int)) (size most : Int) (ns : List Int) {i : Nat} (hi : i < ns.length) : z5A ss size most ns (i + 1) = zbt ss (z5A ss size most ns i) ns[i] := by
 unfold z5A;rw [List.take_succ_eq_append_getElem hi, List.foldl_append];rfl
structure GoodM (ss : List (ByteArray × Int)) (most : Int) (a : Aut) (i : Nat) : Prop where
 N0 : 1 ≤ a.N
 N1 : a.N ≤ most
 G0 : 1 ≤ a.G
 G1 : a.G ≤ 2
 init : a.init.all (stF a.N) = true
 final : a.final.all (stF a.N) = true
 opens : a.opens.all (okO ss a) = true
 closes : a.closes.all (okC ss a) = true
 inners : a.inners.all (okI ss a) = true
 len : a.init.length ≤ i ∧ a.final.length ≤ i ∧ a.opens.length ≤ i ∧ a.closes.length ≤ i ∧ a.inners.length ≤ i
theorem zaA (ss : List (ByteArray × Int)) {size most : Int} (h : 1 ≤ most) : GoodM ss most (z44 size most) 0 := by
 have h1 := Int.emod_nonneg size (show most ≠ 0 by omega);have h2 := Int.emod_lt_of_pos size (show 0 < most by omega);have h3 := Int.emod_nonneg (size.tdiv 7) (show (2 : Int) ≠ 0 by omega);have h4 := Int.emod_lt_of_pos (size.tdiv 7) (show (0 : Int) < 2 by omega);exact ⟨by simp [z44]; omega, by simp [z44]; omega, by simp [z44]; omega, by simp [z44]; omega, rfl, rfl, rfl, rfl, rfl, by simp [z44]⟩
theorem z4E {α : Type} {p : α → Bool} {l : List α} {x : α} (h : l.all p = true) (hx : p x = true) : (l ++ [x]).all p = true := by
 rw [List.all_append, h];simp [hx]
theorem z60 {N x : Int} (h : 1 ≤ N) : stF N (x % N) = true := by
 have h1 := Int.emod_nonneg x (show N ≠ 0 by omega);have h2 := Int.emod_lt_of_pos x (show 0 < N by omega);simp [stF, h1, h2]
theorem GoodM.up {ss : List (ByteArray × Int)} {most : Int} {a : Aut} {i : Nat} (h : GoodM ss most a i) : GoodM ss most a (i + 1) :=
 ⟨h.N0, h.N1, h.G0, h.G1, h.init, h.final, h.opens, h.closes, h.inners, by have := h.len; omega⟩
theorem GoodM.putI {ss : List (ByteArray × Int)} {most : Int} {a : Aut} {i : Nat} {p : Int} (h : GoodM ss most a i) (hp : stF a.N p = true) : GoodM ss most (z5F a p) (i + 1) :=
 ⟨h.N0, h.N1, h.G0, h.G1, z4E h.init hp, h.final, h.opens, h.closes, h.inners, by have := h.len; simp [Am.z5F]; omega⟩
theorem GoodM.putF {ss : List (ByteArray × Int)} {most : Int} {a : Aut} {i : Nat} {p : Int} (h : GoodM ss most a i) (hp : stF a.N p = true) : GoodM ss most (zcs a p) (i + 1) :=
 ⟨h.N0, h.N1, h.G0, h.G1, h.init, z4E h.final hp, h.opens, h.closes, h.inners, by have := h.len; simp [Am.zcs]; omega⟩
theorem GoodM.putO {ss : List (ByteArray × Int)} {most : Int} {a : Aut} {i : Nat} {p : R4} (h : GoodM ss most a i) (hp : okO ss a p = true) : GoodM ss most (zdP a p) (i + 1) :=
 ⟨h.N0, h.N1, h.G0, h.G1, h.init, h.final, z4E h.opens hp, h.closes, h.inners, by have := h.len; simp [Am.zdP]; omega⟩
theorem GoodM.putC {ss : List (ByteArray × Int)} {most : Int} {a : Aut} {i : Nat} {p : R4} (h : GoodM ss most a i) (hp : okC ss a p = true) : GoodM ss most (zdQ a p) (i + 1) :=
 ⟨h.N0, h.N1, h.G0, h.G1, h.init, h.final, h.opens, z4E h.closes hp, h.inners, by have := h.len; simp [Am.zdQ]; omega⟩
theorem GoodM.putN {ss : List (ByteArray × Int)} {most : Int} {a : Aut} {i : Nat} {p : R3} (h : GoodM ss most a i) (hp : okI ss a p = true) : GoodM ss most (zdY a p) (i + 1) :=
 ⟨h.N0, h.N1, h.G0, h.G1, h.init, h.final, h.opens, h.closes, z4E h.inners hp, by have := h.len; simp [Am.zdY]; omega⟩
theorem GoodM.step {ss : List (ByteArray × Int)} {most : Int} {a : Aut} {i : Nat} (h : GoodM ss most a i) (x : Int) : GoodM ss most (zbt ss a x) (i + 1) := by
 have hy := Int.emod_nonneg x (show (1099511627776 : Int) ≠ 0 by omega);unfold zbt;have g1 := Int.emod_nonneg (x % 1099511627776 / 8000) (show a.G ≠ 0 by have := h.G0; omega);have g2 := Int.emod_lt_of_pos (x % 1099511627776 / 8000) (show 0 < a.G by have := h.G0; omega);have g3 := Int.emod_nonneg (x % 1099511627776 / 8000) (show a.G + 1 ≠ 0 by have := h.G0; omega);have g4 := Int.emod_lt_of_pos (x % 1099511627776 / 8000) (show 0 < a.G + 1 by have := h.G0; omega);dsimp only;split
 ·exact h.putI (z60 h.N0)
 split
 ·exact h.putF (z60 h.N0)
 split
 ·split
  ·rename_i hk;exact h.putO (by simp only [okO, z60 h.N0, z57 hk, btF, Bool.true_and, Bool.and_eq_true, decide_eq_true_eq]; omega)
  ·exact h.up
 split
 ·split
  ·rename_i hk;exact h.putC (by simp only [okC, z60 h.N0, z57 hk, btF, Bool.true_and, Bool.and_eq_true, decide_eq_true_eq]; omega)
  ·exact h.up
 ·split
  ·rename_i hk;exact h.putN (by simp only [okI, z60 h.N0, z57 hk, Bool.true_and])
  ·exact h.up
theorem z5d (ss : List (ByteArray × Int)) {size most : Int} (h : 1 ≤ most) (ns : List Int) : ∀ i, i ≤ ns.length → GoodM ss most (z5A ss size most ns i) i := by
 intro i
 induction i with
 | zero => intro _; exact zaA ss h
 | succ i ih =>
  intro hi;rw [z6Z ss size most ns (show i < ns.length by omega)];exact (ih zom).step _
theorem GoodM.last {ss : List (ByteArray × Int)} {most : Int} {a : Aut} {i : Nat} (h : GoodM ss most a i) : GoodM ss most (zbu a) (i + 1) := by
 unfold zbu;split
 ·refine h.putI ?_;have := h.N0;simp [stF];omega
 ·exact h.up
theorem z6Y (ss : List (ByteArray × Int)) (size most : Int) (ns : List Int) {i : Nat} (h : ns.length ≤ i) : z5A ss size most ns i = z5A ss size most ns ns.length := by
 unfold z5A;rw [List.take_of_length_le h, List.take_length]
theorem zci (ss : List (ByteArray × Int)) {size most : Int} (h : 1 ≤ most) (ns : List Int) : GoodM ss most (z5T ss size most ns) 25 := by
 unfold z5T;by_cases h24 : 24 ≤ ns.length
 ·exact (z5d ss h ns 24 h24).last
 ·rw [z6Y ss size most ns (show ns.length ≤ 24 by omega)];have := (z5d ss (size := size) h ns ns.length (Nat.le_refl _)).last;exact ⟨this.N0, this.N1, this.G0, this.G1, this.init, this.final, this.opens, this.closes, this.inners, by have := this.len; omega⟩
theorem GoodM.check {ss : List (ByteArray × Int)} {most : Int} {a : Aut} {i : Nat} (h : GoodM ss most a i) (hm : most ≤ 200) (hi : i ≤ 1000) : z2I ss a = true := by
 have h1 := h.len;have h2 := h.N0;have h3 := h.N1;have h4 := h.G0;have h5 := h.G1;unfold z2I z9D btF;simp only [h.init, h.final, h.opens, h.closes, h.inners, Bool.and_true, Bool.and_eq_true, decide_eq_true_eq];omega
theorem GoodM.lens {ss : List (ByteArray × Int)} {most : Int} {a : Aut} {i : Nat} (h : GoodM ss most a i) (hi : i ≤ 1000) : AutLen a := by
 have h1 := h.len;exact ⟨zom, zom, zom, zom, zom⟩
end Go.Am
namespace Go.Proofs.YteplpegfcpmflaaGreat
open Go.RowKit Go.Am
attribute [local irreducible] aop OpsL Trip zI z2r OpsK OpsR
abbrev zcp (H : Heap) (ob : Option (Nat × Nat)) (v : Value) (l : List R4) : Prop := OwnOf Go.Am.e4 4 106 H ob v l
theorem zV {H : Heap} {nx k : Nat} {o o' : AObj} (hok : ∀ id o, H id = some o → id < nx) (hk : H k = some o') : ∀ id p, (H.put k o) id = some p → id < nx := fun id p h => by
 by_cases e : id = k
 ·subst e; exact hok _ _ hk
 ·rw [za e] at h; exact hok _ _ h
theorem z6h : Am.z0O Tryz.prog 59 := ⟨Tryz.f59, Tryz.func59, by kernel_rfl, by kernel_rfl⟩
theorem zh9 {A : Prop} (h : A := by
 refine zO (bytes := 32) (z := rep 4 [.int .i64 0]) z0X z5m zom zsd (OwnOf.ext (hx4.trans hx5) (fun b t h => (hob b t h).2) hown) hone evd evd (fun b t h => by have := (hob b t h).2; omega) zxr zxr zxr zxr zxr rfl (by simp; omega) zom ?_;intro v8 nx8 H8 ob8 hA8;refine zg7 ?_;refine ⟨i + 1, ⟨_, nx8, H8, ob8, v8, rfl, ⟨by have := hx.1; have := hA8.le; omega, fun j hj => ?_⟩, fun b t h => ?_, hA8.ok (fun b t h => by have := (hob b t h).2; omega) hok5, by rw [hst]; exact hA8.own, stp, stp, stp, stp, stp, zom⟩, zom⟩
 ·have := hx.1;rw [hA8.same j zom (fun b t h => by have := (hob b t h).1; omega), hx5.2 j zom, hx4.2 j zom, hx.2 j hj]
 ·obtain ⟨q1, q2⟩ := hA8.blk b t h;refine ⟨?_, q1⟩;rcases q2 with rfl | ⟨t', h'⟩
  ·have := hx.1; omega
  ·exact (hob _ _ h').1) : A := h
theorem zfc (W0 : World) {nx : Nat} {H : Heap} {a : Aut} {vi vf vo vc vn : Value} (ha : AutIn H a vi vf vo vc vn) (hn : AutLen a) :
  ACalls Tryz.prog W0 59 [.agg (zz a vi vf vo vc vn).toArray] nx H fun v nx' H' => ∃ ob, zcp H' ob v (z0b a) ∧ Ext nx H nx' H' ∧ ∀ b t, ob = some (b, t) → nx ≤ b ∧ b < nx' := by
 obtain ⟨ai, ci, rfl⟩ := ha.init.slice;obtain ⟨af, cf, rfl⟩ := ha.final.slice;obtain ⟨ao, co, rfl⟩ := ha.opens.slice;obtain ⟨ac, cc, rfl⟩ := ha.closes.slice;obtain ⟨an, cn, rfl⟩ := ha.inners.slice;refine zm (fn := Tryz.f59) (c := _) Tryz.func59 rfl (fun tm n hn0 htm => ?_);have q0 : tm 0 = .agg (zz a (.slice ai a.init.length ci) (.slice af a.final.length cf) (.slice ao a.opens.length co) (.slice ac a.closes.length cc) (.slice an a.inners.length cn)).toArray := htm 0;clear htm;replace hn0 : n = 63 := hn0;refine Trip.ok fun hok => ?_;replace hok : ∀ id o, H id = some o → id < nx := hok;refine z5h ?_;refine OpsL.new zsd (z0a evr) ?_;have hx0 : Ext nx H (nx + 1) (H.put nx (.cells (Value.agg (zz a (.slice ai a.init.length ci) (.slice af a.final.length cf) (.slice ao a.opens.length co) (.slice ac a.closes.length cc) (.slice an a.inners.length cn)).toArray).cells.toList 0 none false (some 30))) := zj;have gx : (H.put nx (.cells (Value.agg (zz a (.slice ai a.init.length ci) (.slice af a.final.length cf) (.slice ao a.opens.length co) (.slice ac a.closes.length cc) (.slice an a.inners.length cn)).toArray).cells.toList 0 none false (some 30))) nx = some (.cells (zz a (.slice ai a.init.length ci) (.slice af a.final.length cf) (.slice ao a.opens.length co) (.slice ac a.closes.length cc) (.slice an a.inners.length cn)) 0 none false (some 30)) := zb;have hokG := zF (o := .cells (Value.agg (zz a (.slice ai a.init.length ci) (.slice af a.final.length cf) (.slice ao a.opens.length co) (.slice ac a.closes.length cc) (.slice an a.inners.length cn)).toArray).cells.toList 0 none false (some 30)) hok;generalize H.put nx (.cells (Value.agg (zz a (.slice ai a.init.length ci) (.slice af a.final.length cf) (.slice ao a.opens.length co) (.slice ac a.closes.length cc) (.slice an a.inners.length cn)).toArray).cells.toList 0 none false (some 30)) = G at *;replace ha := ha.ext hx0 hok;have l1 := hn.opens;have l2 := hn.closes;have l3 := hn.inners
 repeat (first | (refine zd (by first | exact z0y | exact ofa) ?_) | refine Trip.seq ?_ | refine zk ?_ | (refine OpsL.nil ?_; (change Trip _ _ _ _ _)))
 have cb0 : zh G ⟨nx, 0 + 4, none⟩ (.slice ao a.opens.length co) := by rw [Nat.zero_add]; exact ze gx rfl
 repeat (first | (refine zd (by first | exact omv | exact z1D | exact old) ?_) | refine Trip.block ?_ | (refine OpsL.nil ?_; (change Trip _ _ _ _ _)))
 refine Trip.mono (Q := fun e st => e = .exit 0 ∧ ∃ (tm' : Nat → Value) (nx' : Nat) (H' : Heap) (ob : Option (Nat × Nat)) (v : Value), st = ⟨tm', n, H', nx'⟩ ∧ Ext (nx + 1) G nx' H' ∧ (∀ b t, ob = some (b, t) → nx + 1 ≤ b ∧ b < nx') ∧ (∀ id o, H' id = some o → id < nx') ∧ zcp H' ob v (a.opens.map z1d) ∧ tm' 1 = .pointer (some ⟨nx, 0, none⟩) ∧ tm' 3 = v) ?_ ?_
 ·refine zu (fun (i : Nat) st => ∃ (tm' : Nat → Value) (nx' : Nat) (H' : Heap) (ob : Option (Nat × Nat)) (v : Value), st = ⟨tm', n, H', nx'⟩ ∧ Ext (nx + 1) G nx' H' ∧ (∀ b t, ob = some (b, t) → nx + 1 ≤ b ∧ b < nx') ∧ (∀ id o, H' id = some o → id < nx') ∧ zcp H' ob v ((a.opens.take i).map z1d) ∧ tm' 1 = .pointer (some ⟨nx, 0, none⟩) ∧ tm' 3 = v ∧ tm' 11 = .slice ao a.opens.length co ∧ tm' 12 = .int .i64 a.opens.length ∧ tm' 13 = .int .i64 i ∧ i ≤ a.opens.length) (fun i => a.opens.length - i) 0 ?_ ?_
  ·exact ⟨_, _, _, none, .slice none 0 0, rfl, Ext.refl, fun _ _ h => (by cases h), hokG, ⟨rfl, by simp, by simp⟩, stp, stp, stp, stp, stp, Nat.zero_le _⟩
  ·rintro i st ⟨tm, nx', H', ob, v, rfl, hx, hob, hok', hown, d1, d3, dsl, dln, dix, hi⟩;by_cases hlt : i < a.opens.length
   ·obtain ⟨p, hp0, g⟩ := zX (ha.opens.ext hx hokG) hlt;subst hp0;have hst : (a.opens.take (i + 1)).map z1d = ((a.opens.take i).map z1d) ++ [z1d a.opens[i]] := by rw [List.take_succ_eq_append_getElem hlt, List.map_append]; rfl
    have hzl : ((a.opens.take i).map z1d).length ≤ 3000 := by simp only [List.length_append, List.length_map, List.length_take]; omega
    generalize (a.opens.take i).map z1d = zs at *;generalize a.opens[i] = r at *;refine zcq ?_;refine zd (zg (k := 4) (vs := Go.Am.e4 r) evr zxr rfl zxr g) ?_;refine OpsL.new zsd (zD (l := rep 4 [.int .i64 0]) zxr) ?_;refine OpsL.upd (zw (k := 4) (u := .agg (Go.Am.e4 r).toArray) evd evd zxr rfl (o := .cells (Go.Am.e4 r) 0 none false (some 43)) (zE (vs := Go.Am.e4 r) zb rfl rfl)) ?_;obtain ⟨G4, hG4⟩ : ∃ G4, G4 = (H'.put nx' (.cells (rep 4 [.int .i64 0]) 0 none false (some 43))).put nx' (.cells (Go.Am.e4 r) 0 none false (some 43)) := ⟨_, rfl⟩;have hx4 : Ext nx' H' (nx' + 1) G4 := ⟨Nat.le_succ _, fun j hj => by rw [hG4, za zom, za zom]⟩;have hok4 : ∀ id o, G4 id = some o → id < nx' + 1 := by rw [hG4]; exact zV (zF hok') zb
    have hb4 : G4 nx' = some (.cells (Go.Am.e4 r) 0 none false (some 43)) := by rw [hG4, zb]
    first | rw [← hG4] | skip
    clear hG4;have c0 : zh G4 ⟨nx', 0, none⟩ (.int .i64 r.1) := ze hb4 rfl;have c1 : zh G4 ⟨nx', 0 + 1, none⟩ (.int .i64 r.2.1) := by rw [Nat.zero_add]; exact ze hb4 rfl
    have c2 : zh G4 ⟨nx', 0 + 2, none⟩ (.int .i64 r.2.2.1) := by rw [Nat.zero_add]; exact ze hb4 rfl
    have c3 : zh G4 ⟨nx', 0 + 3, none⟩ (.int .i64 r.2.2.2) := by rw [Nat.zero_add]; exact ze hb4 rfl
    refine zeZ ?_;refine zd (zC (v := .agg (Go.Am.e4 (z1d r)).toArray) (l := [(0, .int .i64 r.1), (1, .int .i64 0), (2, .int .i64 r.2.2.1), (3, .int .i64 r.2.2.2)]) zep krf) ?_;refine OpsL.new zsd (zq (l := [(0, .agg (Go.Am.e4 (z1d r)).toArray)]) (r := (.slice (some ⟨nx' + 1, 0, none⟩) 1 1, .new (.cells (Go.Am.e4 (z1d r)) 4 none false (some 106)))) zeq krf) ?_;have hx5 : Ext (nx' + 1) G4 (nx' + 1 + 1) (G4.put (nx' + 1) (.cells (Go.Am.e4 (z1d r)) 4 none false (some 106))) := zj;have hok5 := zF (o := .cells (Go.Am.e4 (z1d r)) 4 none false (some 106)) hok4
    have hone : RowsAt Go.Am.e4 4 (G4.put (nx' + 1) (.cells (Go.Am.e4 (z1d r)) 4 none false (some 106))) (.slice (some ⟨nx' + 1, 0, none⟩) 1 1) [z1d r] := by
     refine .inr ⟨⟨nx' + 1, 0, none⟩, 1, rfl, fun j hj => ?_⟩;have : j = 0 := by simpa using hj
     subst this;exact z01 (by show 0 + 4 ≤ 4; decide)
    generalize G4.put (nx' + 1) (.cells (Go.Am.e4 (z1d r)) 4 none false (some 106)) = G5 at *;exact zh9
   ·have hin : i = a.opens.length := by omega
    subst hin;rw [List.take_length] at hown;refine z4e ?_;exact ⟨rfl, _, _, _, ob, v, rfl, hx, hob, hok', hown, stp, stp⟩
 rintro e st ⟨rfl, tm', m1, J1, p1, u1, rfl, y1, z1, f1, w1, d1, d3⟩;refine z4r ?_;have hb1 : J1 nx = some (.cells (zz a (.slice ai a.init.length ci) (.slice af a.final.length cf) (.slice ao a.opens.length co) (.slice ac a.closes.length cc) (.slice an a.inners.length cn)) 0 none false (some 30)) := (y1.2 nx zom).trans gx;have cb1 : zh J1 ⟨nx, 0 + 5, none⟩ (.slice ac a.closes.length cc) := by rw [Nat.zero_add]; exact ze hb1 rfl
 refine zfn ?_;refine Trip.mono (Q := fun e st => e = .exit 2 ∧ ∃ (tm' : Nat → Value) (nx' : Nat) (H' : Heap) (ob : Option (Nat × Nat)) (v : Value), st = ⟨tm', n, H', nx'⟩ ∧ Ext (nx + 1) G nx' H' ∧ (∀ b t, ob = some (b, t) → nx + 1 ≤ b ∧ b < nx') ∧ (∀ id o, H' id = some o → id < nx') ∧ zcp H' ob v ((a.opens.map z1d) ++ a.closes.map z1S) ∧ tm' 1 = .pointer (some ⟨nx, 0, none⟩) ∧ tm' 3 = v) ?_ ?_
 ·refine zu (fun (i : Nat) st => ∃ (tm' : Nat → Value) (nx' : Nat) (H' : Heap) (ob : Option (Nat × Nat)) (v : Value), st = ⟨tm', n, H', nx'⟩ ∧ Ext (nx + 1) G nx' H' ∧ (∀ b t, ob = some (b, t) → nx + 1 ≤ b ∧ b < nx') ∧ (∀ id o, H' id = some o → id < nx') ∧ zcp H' ob v ((a.opens.map z1d) ++ (a.closes.take i).map z1S) ∧ tm' 1 = .pointer (some ⟨nx, 0, none⟩) ∧ tm' 3 = v ∧ tm' 29 = .slice ac a.closes.length cc ∧ tm' 30 = .int .i64 a.closes.length ∧ tm' 31 = .int .i64 i ∧ i ≤ a.closes.length) (fun i => a.closes.length - i) 0 ?_ ?_
  ·exact ⟨_, m1, J1, p1, u1, rfl, y1, z1, f1, by simpa using w1, stp, stp, stp, stp, stp, Nat.zero_le _⟩
  ·clear d1 d3;rintro i st ⟨tm, nx', H', ob, v, rfl, hx, hob, hok', hown, d1, d3, dsl, dln, dix, hi⟩;by_cases hlt : i < a.closes.length
   ·obtain ⟨p, hp0, g⟩ := zX (ha.closes.ext hx hokG) hlt;subst hp0;have hst : (a.opens.map z1d) ++ (a.closes.take (i + 1)).map z1S = ((a.opens.map z1d) ++ (a.closes.take i).map z1S) ++ [z1S a.closes[i]] := by rw [List.take_succ_eq_append_getElem hlt, List.map_append, ← List.append_assoc]; rfl
    have hzl : ((a.opens.map z1d) ++ (a.closes.take i).map z1S).length ≤ 3000 := by simp only [List.length_append, List.length_map, List.length_take]; omega
    generalize (a.opens.map z1d) ++ (a.closes.take i).map z1S = zs at *;generalize a.closes[i] = r at *;refine zcq ?_;refine zd (zg (k := 4) (vs := Go.Am.e4 r) evr zxr rfl zxr g) ?_;refine OpsL.new zsd (zD (l := rep 4 [.int .i64 0]) zxr) ?_;refine OpsL.upd (zw (k := 4) (u := .agg (Go.Am.e4 r).toArray) evd evd zxr rfl (o := .cells (Go.Am.e4 r) 0 none false (some 45)) (zE (vs := Go.Am.e4 r) zb rfl rfl)) ?_;obtain ⟨G4, hG4⟩ : ∃ G4, G4 = (H'.put nx' (.cells (rep 4 [.int .i64 0]) 0 none false (some 45))).put nx' (.cells (Go.Am.e4 r) 0 none false (some 45)) := ⟨_, rfl⟩;have hx4 : Ext nx' H' (nx' + 1) G4 := ⟨Nat.le_succ _, fun j hj => by rw [hG4, za zom, za zom]⟩;have hok4 : ∀ id o, G4 id = some o → id < nx' + 1 := by rw [hG4]; exact zV (zF hok') zb
    have hb4 : G4 nx' = some (.cells (Go.Am.e4 r) 0 none false (some 45)) := by rw [hG4, zb]
    first | rw [← hG4] | skip
    clear hG4;have c0 : zh G4 ⟨nx', 0, none⟩ (.int .i64 r.1) := ze hb4 rfl;have c1 : zh G4 ⟨nx', 0 + 1, none⟩ (.int .i64 r.2.1) := by rw [Nat.zero_add]; exact ze hb4 rfl
    have c2 : zh G4 ⟨nx', 0 + 2, none⟩ (.int .i64 r.2.2.1) := by rw [Nat.zero_add]; exact ze hb4 rfl
    have c3 : zh G4 ⟨nx', 0 + 3, none⟩ (.int .i64 r.2.2.2) := by rw [Nat.zero_add]; exact ze hb4 rfl
    refine zeZ ?_;refine zd (zC (v := .agg (Go.Am.e4 (z1S r)).toArray) (l := [(0, .int .i64 r.1), (1, .int .i64 r.2.2.1), (2, .int .i64 r.2.2.2), (3, .int .i64 0)]) zep krf) ?_;refine OpsL.new zsd (zq (l := [(0, .agg (Go.Am.e4 (z1S r)).toArray)]) (r := (.slice (some ⟨nx' + 1, 0, none⟩) 1 1, .new (.cells (Go.Am.e4 (z1S r)) 4 none false (some 106)))) zeq krf) ?_;have hx5 : Ext (nx' + 1) G4 (nx' + 1 + 1) (G4.put (nx' + 1) (.cells (Go.Am.e4 (z1S r)) 4 none false (some 106))) := zj;have hok5 := zF (o := .cells (Go.Am.e4 (z1S r)) 4 none false (some 106)) hok4
    have hone : RowsAt Go.Am.e4 4 (G4.put (nx' + 1) (.cells (Go.Am.e4 (z1S r)) 4 none false (some 106))) (.slice (some ⟨nx' + 1, 0, none⟩) 1 1) [z1S r] := by
     refine .inr ⟨⟨nx' + 1, 0, none⟩, 1, rfl, fun j hj => ?_⟩;have : j = 0 := by simpa using hj
     subst this;exact z01 (by show 0 + 4 ≤ 4; decide)
    generalize G4.put (nx' + 1) (.cells (Go.Am.e4 (z1S r)) 4 none false (some 106)) = G5 at *;exact zh9
   ·have hin : i = a.closes.length := by omega
    subst hin;rw [List.take_length] at hown;refine z4e ?_;exact ⟨rfl, _, _, _, ob, v, rfl, hx, hob, hok', hown, stp, stp⟩
 clear d1 d3;rintro e st ⟨rfl, tm', m2, J2, p2, u2, rfl, y2, z2, f2, w2, d1, d3⟩;refine z4r ?_;have hb2 : J2 nx = some (.cells (zz a (.slice ai a.init.length ci) (.slice af a.final.length cf) (.slice ao a.opens.length co) (.slice ac a.closes.length cc) (.slice an a.inners.length cn)) 0 none false (some 30)) := (y2.2 nx zom).trans gx;have cb2 : zh J2 ⟨nx, 0 + 6, none⟩ (.slice an a.inners.length cn) := by rw [Nat.zero_add]; exact ze hb2 rfl
 refine zfn ?_;refine Trip.mono (Q := fun e st => e = .exit 4 ∧ ∃ (tm' : Nat → Value) (nx' : Nat) (H' : Heap) (ob : Option (Nat × Nat)) (v : Value), st = ⟨tm', n, H', nx'⟩ ∧ Ext (nx + 1) G nx' H' ∧ (∀ b t, ob = some (b, t) → nx + 1 ≤ b ∧ b < nx') ∧ (∀ id o, H' id = some o → id < nx') ∧ zcp H' ob v ((a.opens.map z1d ++ a.closes.map z1S) ++ a.inners.map z3A) ∧ tm' 1 = .pointer (some ⟨nx, 0, none⟩) ∧ tm' 3 = v) ?_ ?_
 ·refine zu (fun (i : Nat) st => ∃ (tm' : Nat → Value) (nx' : Nat) (H' : Heap) (ob : Option (Nat × Nat)) (v : Value), st = ⟨tm', n, H', nx'⟩ ∧ Ext (nx + 1) G nx' H' ∧ (∀ b t, ob = some (b, t) → nx + 1 ≤ b ∧ b < nx') ∧ (∀ id o, H' id = some o → id < nx') ∧ zcp H' ob v ((a.opens.map z1d ++ a.closes.map z1S) ++ (a.inners.take i).map z3A) ∧ tm' 1 = .pointer (some ⟨nx, 0, none⟩) ∧ tm' 3 = v ∧ tm' 47 = .slice an a.inners.length cn ∧ tm' 48 = .int .i64 a.inners.length ∧ tm' 49 = .int .i64 i ∧ i ≤ a.inners.length) (fun i => a.inners.length - i) 0 ?_ ?_
  ·exact ⟨_, m2, J2, p2, u2, rfl, y2, z2, f2, by simpa using w2, stp, stp, stp, stp, stp, Nat.zero_le _⟩
  ·clear d1 d3;rintro i st ⟨tm, nx', H', ob, v, rfl, hx, hob, hok', hown, d1, d3, dsl, dln, dix, hi⟩;by_cases hlt : i < a.inners.length
   ·obtain ⟨p, hp0, g⟩ := zX (ha.inners.ext hx hokG) hlt;subst hp0;have hst : (a.opens.map z1d ++ a.closes.map z1S) ++ (a.inners.take (i + 1)).map z3A = ((a.opens.map z1d ++ a.closes.map z1S) ++ (a.inners.take i).map z3A) ++ [z3A a.inners[i]] := by rw [List.take_succ_eq_append_getElem hlt, List.map_append, ← List.append_assoc]; rfl
    have hzl : ((a.opens.map z1d ++ a.closes.map z1S) ++ (a.inners.take i).map z3A).length ≤ 3000 := by simp only [List.length_append, List.length_map, List.length_take]; omega
    generalize (a.opens.map z1d ++ a.closes.map z1S) ++ (a.inners.take i).map z3A = zs at *;generalize a.inners[i] = r at *;refine zcq ?_;refine zd (zg (k := 3) (vs := Go.Am.e3 r) evr zxr rfl zxr g) ?_;refine OpsL.new zsd (zD (l := rep 3 [.int .i64 0]) zxr) ?_;refine OpsL.upd (zw (k := 3) (u := .agg (Go.Am.e3 r).toArray) evd evd zxr rfl (o := .cells (Go.Am.e3 r) 0 none false (some 51)) (zE (vs := Go.Am.e3 r) zb rfl rfl)) ?_;obtain ⟨G4, hG4⟩ : ∃ G4, G4 = (H'.put nx' (.cells (rep 3 [.int .i64 0]) 0 none false (some 51))).put nx' (.cells (Go.Am.e3 r) 0 none false (some 51)) := ⟨_, rfl⟩;have hx4 : Ext nx' H' (nx' + 1) G4 := ⟨Nat.le_succ _, fun j hj => by rw [hG4, za zom, za zom]⟩;have hok4 : ∀ id o, G4 id = some o → id < nx' + 1 := by rw [hG4]; exact zV (zF hok') zb
    have hb4 : G4 nx' = some (.cells (Go.Am.e3 r) 0 none false (some 51)) := by rw [hG4, zb]
    first | rw [← hG4] | skip
    clear hG4;have c0 : zh G4 ⟨nx', 0, none⟩ (.int .i64 r.1) := ze hb4 rfl;have c1 : zh G4 ⟨nx', 0 + 1, none⟩ (.int .i64 r.2.1) := by rw [Nat.zero_add]; exact ze hb4 rfl
    have c2 : zh G4 ⟨nx', 0 + 2, none⟩ (.int .i64 r.2.2) := by rw [Nat.zero_add]; exact ze hb4 rfl
    refine zeZ ?_;refine zd (zC (v := .agg (Go.Am.e4 (z3A r)).toArray) (l := [(0, .int .i64 r.1), (1, .int .i64 0), (2, .int .i64 r.2.2), (3, .int .i64 0)]) zep krf) ?_;refine OpsL.new zsd (zq (l := [(0, .agg (Go.Am.e4 (z3A r)).toArray)]) (r := (.slice (some ⟨nx' + 1, 0, none⟩) 1 1, .new (.cells (Go.Am.e4 (z3A r)) 4 none false (some 106)))) zeq krf) ?_;have hx5 : Ext (nx' + 1) G4 (nx' + 1 + 1) (G4.put (nx' + 1) (.cells (Go.Am.e4 (z3A r)) 4 none false (some 106))) := zj;have hok5 := zF (o := .cells (Go.Am.e4 (z3A r)) 4 none false (some 106)) hok4
    have hone : RowsAt Go.Am.e4 4 (G4.put (nx' + 1) (.cells (Go.Am.e4 (z3A r)) 4 none false (some 106))) (.slice (some ⟨nx' + 1, 0, none⟩) 1 1) [z3A r] := by
     refine .inr ⟨⟨nx' + 1, 0, none⟩, 1, rfl, fun j hj => ?_⟩;have : j = 0 := by simpa using hj
     subst this;exact z01 (by show 0 + 4 ≤ 4; decide)
    generalize G4.put (nx' + 1) (.cells (Go.Am.e4 (z3A r)) 4 none false (some 106)) = G5 at *;exact zh9
   ·have hin : i = a.inners.length := by omega
    subst hin;rw [List.take_length] at hown;refine z4e ?_;exact ⟨rfl, _, _, _, ob, v, rfl, hx, hob, hok', hown, stp, stp⟩
 clear d1 d3;rintro e st ⟨rfl, tm', m3, J3, p3, u3, rfl, y3, z3, f3, w3, d1, d3⟩;refine z4r ?_;refine zcr ?_;refine ⟨.inr rfl, _, zy, p3, by simpa [zl, *, z0b] using w3, hx0.trans y3, fun b t h => by have := z3 b t h; omega⟩
end Go.Proofs.YteplpegfcpmflaaGreat
