import Derived.Test.YtjgbcpagfghfnaaQYM14
set_option linter.unusedVariables false
set_option linter.unusedSimpArgs false
set_option linter.unnecessarySimpa false
namespace Go.Am
open Go.RowKit
def StepV (P : Program) (W0 : World) (ops : Array Oper) (acts : List Nat) (K : Nat → Heap → Prop) (i : Nat) (st : ASt) (N : ASt → Prop) : Prop :=
 ActStep P W0 ops acts K i st N ∨
 ∃ o, ops[i]? = some o ∧ z1B st o = true ∧ acts.contains i = true ∧ z18 ops st o = true ∧ ∃ R : Value → Eff → Prop,
  (∀ (r : Option Nat) (C : Corr) (w : World) (e : Operand → Value), Rel W0 C st.nx st.H w → (∀ x v, evR (z3V o) st.tm x = some v → VR st.nx st.H C v (e x)) → ∃ v ef, R v ef ∧ zfz W0 C st.nx st.H ((o.semAt r e).run P w) v ef) ∧
  ∀ v ef, R v ef → K (ef.nx st.nx) (ef.H st.nx st.H) ∧ N (st.put o.dst v ef)
def OpsQ (P : Program) (W0 : World) (ops : Array Oper) (acts : List Nat) (K : Nat → Nat → Heap → Prop) : Nat → List Nat → ASt → (ASt → Prop) → Prop
 | _, [], st, Q => Q st
 | 0, _ :: _, _, _ => False
 | m + 1, i :: l, st, Q =>
  (acts.contains i = false ∧ z2G ops l i = true ∧ ∃ o, ops[i]? = some o ∧ z1B st o = true ∧
   ((z18 ops st o = false ∧ OpsQ P W0 ops acts K m l (st.put o.dst undef .none) Q) ∨
    (z18 ops st o = true ∧ ∃ v, aop P st.H st.nx st.ev o = some (v, .none) ∧ (z8G ops acts i o l = true ∨ ∃ j ∈ l, acts.contains j = true ∧ z7x ops j i = true ∧ ∀ H' nx', K j nx' H' → aop P H' nx' st.ev o = some (v, .none)) ∧ OpsQ P W0 ops acts K m l (st.put o.dst v .none) Q))) ∨
  (∀ j ∈ i :: l, z2G ops ((i :: l).erase j) j = true → StepV P W0 ops acts (fun nx H => ∀ k ∈ (i :: l).erase j, K k nx H) j st fun s => OpsQ P W0 ops acts K m ((i :: l).erase j) s Q)
section
variable {P : Program} {W0 : World} {ops : Array Oper} {acts : List Nat} {K : Nat → Nat → Heap → Prop}
theorem StepV.out {KK : Nat → Heap → Prop} {i : Nat} {st : ASt} {N : ASt → Prop} (h : StepV P W0 ops acts KK i st N) : ∃ o, ops[i]? = some o ∧ z1B st o = true ∧ acts.contains i = true ∧
  ((z18 ops st o = false ∧ N (st.put o.dst undef .none)) ∨
   (z18 ops st o = true ∧
    ((∃ v e, aop P st.H st.nx st.ev o = some (v, e) ∧ KK (e.nx st.nx) (e.H st.nx st.H) ∧ N (st.put o.dst v e)) ∨
    (∃ f args R, z1z st o = some (f, args) ∧ z1G P f ∧ ACalls P W0 f args st.nx st.H R ∧ ∀ v nx' H', R v nx' H' → KK nx' H' ∧ N ⟨zb st.tm o.dst v, st.n, H', nx'⟩) ∨
    (∃ R : Value → Eff → Prop, (∀ (r : Option Nat) (C : Corr) (w : World) (e : Operand → Value), Rel W0 C st.nx st.H w → (∀ x v, evR (z3V o) st.tm x = some v → VR st.nx st.H C v (e x)) → ∃ v ef, R v ef ∧ zfz W0 C st.nx st.H ((o.semAt r e).run P w) v ef) ∧
     ∀ v ef, R v ef → KK (ef.nx st.nx) (ef.H st.nx st.H) ∧ N (st.put o.dst v ef))))) := by
 rcases h with ⟨o, ho, hd, he, h⟩ | ⟨o, ho, hd, he, hw, h⟩
 ·refine ⟨o, ho, hd, he, ?_⟩;rcases h with h | ⟨hw, h | h⟩
  ·exact .inl h
  ·exact .inr ⟨hw, .inl h⟩
  ·exact .inr ⟨hw, .inr (.inl h)⟩
 ·exact ⟨o, ho, hd, he, .inr ⟨hw, .inr (.inr h)⟩⟩
theorem zdF {ρ : Option Nat} {C : Corr} {tm : Nat → Value} {n nx : Nat} {H : Heap} {o : Oper} {R : Value → Eff → Prop} {a : Act} {w : World} {i : Nat} {KK : Act → World → Prop} {Q : Exit → Act → World → Prop} (hs : SRel W0 C ⟨tm, n, H, nx⟩ a w) (hd : ∀ d, o.dst = some d → d < n) (hw : z2m ops tm o = true)
  (hsnd : ∀ (r : Option Nat) (C : Corr) (w : World) (e : Operand → Value), Rel W0 C nx H w → (∀ x v, evR (z3V o) tm x = some v → VR nx H C v (e x)) → ∃ v ef, R v ef ∧ zfz W0 C nx H ((o.semAt r e).run P w) v ef) (ho : ops[i]? = some o)
  (hk : ∀ v ef C' v' w', R v ef → SRel W0 C' ⟨zb tm o.dst v, n, ef.H nx H, ef.nx nx⟩ (a.put o.dst v') w' → Stp nx H C (ef.nx nx) (ef.H nx H) C' → KK (a.put o.dst v') w') : wpOpIn (rf ρ) 0 P ops Q i KK a w := by
 have hww := z1S hs ops o;rw [← z0Q] at hww;unfold wpOpIn;rw [ho];simp only [hww, hw, if_true];refine ⟨fun _ _ => trivial, ?_⟩;obtain ⟨v, ef, hR, nn, v', w', C', hrun, hn, hRel, hS, hv⟩ := hsnd _ C w _ hs.rel (z9a hs _);rw [hrun];have := hk v ef C' v' w' hR (hs.put hd hRel hS hv) hS;rcases hn with rfl | ⟨rfl, rfl⟩
 ·exact this
 ·exact this
def zdA (P : Program) (ops : Array Oper) (acts : List Nat) (K : Nat → Nat → Heap → Prop) (L : List Nat) (T : Nat → Value) (n : Nat) (H : Heap) (nx : Nat) (i : Nat) (o : Oper) : Prop :=
 (∀ d, o.dst = some d → d < n) ∧ ∃ val, (∀ d, o.dst = some d → T d = val) ∧ ((z2m ops T o = false ∧ val = undef) ∨
  (z2m ops T o = true ∧ aop P H nx (evR (z3V o) T) o = some (val, .none) ∧ ((∀ j ∈ L, acts.contains j = true → z7x ops j i = true) ∨ (∀ H' nx', aop P H' nx' (evR (z3V o) T) o = some (val, .none)) ∨ ∃ j ∈ L, acts.contains j = true ∧ z7x ops j i = true ∧ ∀ H' nx', K j nx' H' → aop P H' nx' (evR (z3V o) T) o = some (val, .none))))
structure RInvQ (P : Program) (ops : Array Oper) (acts : List Nat) (K : Nat → Nat → Heap → Prop) (D L : List Nat) (listed : Array Bool) (tm T : Nat → Value) (n : Nat) (H : Heap) (nx : Nat) : Prop where
 size : listed.size = ops.size
 down : ∀ (i : Nat) (o : Oper), ops[i]? = some o → listed.getD i false = true → ∀ j, dep o j → listed.getD j false = true
 unl : ∀ i ∈ L, listed.getD i false = false
 all : ∀ i, i < ops.size → i ∈ D ∨ i ∈ L
 disj : ∀ p ∈ D, ∀ i ∈ L, p ≠ i
 topo : ∀ p ∈ D, ∀ i ∈ L, z79 ops p i = false
 nd : L.Nodup
 lt : ∀ i ∈ L, i < ops.size
 pend : ∀ i ∈ D, listed.getD i false = false → ∃ o, ops[i]? = some o ∧ zdA P ops acts K L T n H nx i o
 eqv : ∀ t, (∀ (i : Nat) (o : Oper), ops[i]? = some o → i ∈ D → listed.getD i false = false → o.dst ≠ some t) → tm t = T t
 actl : ∀ p ∈ D, acts.contains p = true → listed.getD p false = true
variable {D L : List Nat} {listed : Array Bool} {tm T : Nat → Value} {n nx : Nat} {H : Heap}
theorem RInvQ.reads (hr : z0Z ops acts = true) (hi : RInvQ P ops acts K D L listed tm T n H nx) {i : Nat} {o : Oper} (ho : ops[i]? = some o) (hall : ∀ j, dep o j → listed.getD j false = true) {t : Tmp} (ht : t ∈ z3V o ∨ z8D ops o = some t) : tm t = T t := by
 refine hi.eqv t fun p op hop hp hun hd => ?_;rcases z1v hr ho hop ht hd with h | ⟨h, _, _⟩
 ·have := hall p h;rw [hun] at this;cases this
 ·have := hi.actl p hp h;rw [hun] at this;cases this
theorem z91 (hr : z0Z ops acts = true) (hone : ∀ (i j : Nat) (oi oj : Oper) (d : Tmp), ops[i]? = some oi → ops[j]? = some oj → oi.dst = some d → oj.dst = some d → i = j) {i p : Nat} {o op : Oper} {H' : Heap} {nx' : Nat} (ho : ops[i]? = some o) (hop : ops[p]? = some op) (hpi : p ≠ i) (hni : z79 ops p i = false) (hact : acts.contains i = true → z7x ops i p = false) (v : Value)
  {L' : List Nat} (hsub : ∀ j ∈ L', j ∈ L) (hkeep : ∀ j ∈ L, acts.contains j = true → j ≠ i → j ∈ L') (hil : i ∈ L) (h : zdA P ops acts K L T n H nx p op) (hk : (H' = H ∧ nx' = nx ∧ acts.contains i = false) ∨ (acts.contains i = true ∧ z7x ops i p = false ∧ ((H' = H ∧ nx' = nx) ∨ ∀ j ∈ L', K j nx' H'))) : zdA P ops acts K L' (zb T o.dst v) n H' nx' p op := by
 obtain ⟨h2, val, h3, h4⟩ := h
 have hsame : ∀ t, (t ∈ z3V op ∨ z8D ops op = some t) → zb T o.dst v t = T t := fun t ht => by
  cases hd : o.dst with
  | none => rfl
  | some d =>
   have hne : t ≠ d := fun e => by
    subst e;rcases z1v hr hop ho ht hd with h | ⟨ha, hb, _⟩
    ·have := z2w.2 h;unfold z79 at hni;rw [hop] at hni;simp only at hni;rw [hni] at this;cases this
    ·rw [hact ha] at hb;cases hb
   simp only [zb, hne, if_false]
 refine ⟨h2, val, fun d hd => ?_, ?_⟩
 ·rw [← h3 d hd];cases hod : o.dst with
  | none => rfl
  | some d' =>
   have hne : d ≠ d' := fun e => hpi (hone p i op o d hop ho hd (by rw [hod, e]));simp only [zb, hne, if_false]
 ·rw [z0D (tm' := T) (fun d hd => hsame d (.inr hd)), z1d (tm' := T) (fun t ht => hsame t (.inl ht))];rcases h4 with h4 | ⟨h5, h6, h7⟩
  ·exact .inl h4
  ·refine .inr ⟨h5, ?_, ?_⟩
   ·rcases hk with ⟨rfl, rfl, _⟩ | ⟨he, hno, ⟨rfl, rfl⟩ | hK⟩
    ·exact h6
    ·exact h6
    ·rcases h7 with h7 | h7 | ⟨j, hj, hja, hjd, h7⟩
     ·have := h7 i hil he;rw [hno] at this; cases this
     ·exact h7 _ _
     ·exact h7 _ _ (hK j (hkeep j hj hja fun e => by rw [e, hno] at hjd; cases hjd))
   ·rcases h7 with h7 | h7 | ⟨j, hj, hja, hjd, h7⟩
    ·exact .inl fun j hj => h7 j (hsub j hj)
    ·exact .inr (.inl h7)
    ·refine .inr (.inr ⟨j, hkeep j hj hja fun e => ?_, hja, hjd, h7⟩);rcases hk with ⟨_, _, hna⟩ | ⟨_, hno, _⟩
     ·rw [e, hna] at hja; cases hja
     ·rw [e, hno] at hjd; cases hjd
theorem z3n (hr : z0Z ops acts = true) (hlex : ∀ (i : Nat) (o : Oper), ops[i]? = some o → ∀ j, dep o j → j < i) {i : Nat} {o : Oper} (ho : ops[i]? = some o) (v : Value) {t : Tmp} (ht : t ∈ z3V o ∨ z8D ops o = some t) : zb T o.dst v t = T t := by
 cases hod : o.dst with
 | none => rfl
 | some d =>
  have hne : t ≠ d := fun e => by
   subst e;rcases z1v hr ho ho ht hod with h | ⟨_, _, h⟩
   ·exact absurd (hlex i o ho i h) (Nat.lt_irrefl _)
   ·exact h rfl
  simp only [zb, hne, if_false]
theorem RInvQ.advance (hr : z0Z ops acts = true) (hlex : ∀ (i : Nat) (o : Oper), ops[i]? = some o → ∀ j, dep o j → j < i) (hone : ∀ (i j : Nat) (oi oj : Oper) (d : Tmp), ops[i]? = some oi → ops[j]? = some oj → oi.dst = some d → oj.dst = some d → i = j) {i m : Nat} {Q : ASt → Prop} (hi : RInvQ P ops acts K D (i :: L) listed tm T n H nx) (hna : acts.contains i = false) (hfr : z2G ops L i = true)
  (h : ∃ o, ops[i]? = some o ∧ z1B ⟨T, n, H, nx⟩ o = true ∧
   ((z18 ops ⟨T, n, H, nx⟩ o = false ∧ OpsQ P W0 ops acts K m L (ASt.put ⟨T, n, H, nx⟩ o.dst undef .none) Q) ∨
    (z18 ops ⟨T, n, H, nx⟩ o = true ∧ ∃ v, aop P H nx (ASt.ev ⟨T, n, H, nx⟩) o = some (v, .none) ∧ (z8G ops acts i o L = true ∨ ∃ j ∈ L, acts.contains j = true ∧ z7x ops j i = true ∧ ∀ H' nx', K j nx' H' → aop P H' nx' (ASt.ev ⟨T, n, H, nx⟩) o = some (v, .none)) ∧ OpsQ P W0 ops acts K m L (ASt.put ⟨T, n, H, nx⟩ o.dst v .none) Q))) :
  ∃ T', RInvQ P ops acts K (i :: D) L listed tm T' n H nx ∧ OpsQ P W0 ops acts K m L ⟨T', n, H, nx⟩ Q := by
 obtain ⟨o, ho, hd, h⟩ := h;have hl : ∀ j ∈ L, i ≠ j ∧ z79 ops i j = false := fun j hj => ⟨fun e => (List.nodup_cons.1 hi.nd).1 (e ▸ hj), z1l.1 hfr j hj⟩;have hdn := z1t hd
 have key : ∃ v, zdA P ops acts K L (zb T o.dst v) n H nx i o ∧ OpsQ P W0 ops acts K m L ⟨zb T o.dst v, n, H, nx⟩ Q := by
  have hown : ∀ v d, o.dst = some d → zb T o.dst v d = v := fun v d hd => by simp [zb, hd]
  rcases h with ⟨hw, h⟩ | ⟨hw, v, hop, hedge, h⟩
  ·refine ⟨undef, ⟨hdn, undef, hown undef, .inl ⟨?_, rfl⟩⟩, h⟩;rw [z0D (tm' := T) (fun d hd => z3n hr hlex ho _ (.inr hd))];exact (z0Q ⟨T, n, H, nx⟩ o).trans hw
  ·refine ⟨v, ⟨hdn, v, hown v, .inr ⟨?_, ?_, ?_⟩⟩, h⟩
   ·rw [z0D (tm' := T) (fun d hd => z3n hr hlex ho _ (.inr hd))];exact (z0Q ⟨T, n, H, nx⟩ o).trans hw
   ·rw [z1d (tm' := T) (fun t ht => z3n hr hlex ho _ (.inl ht))];exact (z45 (st := ⟨T, n, H, nx⟩)).trans hop
   ·rcases hedge with hedge | ⟨j, hj, hja, hjd, hst⟩
    ·unfold z8G at hedge;rw [Bool.or_eq_true] at hedge;rcases hedge with hf | hf
     ·refine .inr (.inl fun H' nx' => ?_);rw [z1d (tm' := T) (fun t ht => z3n hr hlex ho _ (.inl ht)), z5W (H' := H) (nx' := nx) hf];exact (z45 (st := ⟨T, n, H, nx⟩)).trans hop
     ·refine .inl fun j hj hej => ?_;rw [List.all_eq_true] at hf;have := hf j hj;rw [hej] at this;simpa using this
    ·refine .inr (.inr ⟨j, hj, hja, hjd, fun H' nx' hK => ?_⟩);rw [z1d (tm' := T) (fun t ht => z3n hr hlex ho _ (.inl ht))];exact (z45 (st := ⟨T, n, H, nx⟩)).trans (hst H' nx' hK)
 obtain ⟨v, hp, h2⟩ := key;refine ⟨zb T o.dst v, ⟨hi.size, hi.down, fun j hj => hi.unl j (List.mem_cons_of_mem _ hj), ?_, ?_, ?_, (List.nodup_cons.1 hi.nd).2, fun j hj => hi.lt j (List.mem_cons_of_mem _ hj), ?_, ?_, ?_⟩, h2⟩
 ·intro j hj;rcases hi.all j hj with h | h
  ·exact .inl (List.mem_cons_of_mem _ h)
  ·rcases List.mem_cons.1 h with rfl | h
   ·exact .inl List.mem_cons_self
   ·exact .inr h
 ·intro p hp j hj;rcases List.mem_cons.1 hp with rfl | hp
  ·exact (hl j hj).1
  ·exact hi.disj p hp j (List.mem_cons_of_mem _ hj)
 ·intro p hp j hj;rcases List.mem_cons.1 hp with rfl | hp
  ·exact (hl j hj).2
  ·exact hi.topo p hp j (List.mem_cons_of_mem _ hj)
 ·intro p hp2 hun;rcases List.mem_cons.1 hp2 with rfl | hp2
  ·exact ⟨o, ho, hp⟩
  ·obtain ⟨op, hop, hpe⟩ := hi.pend p hp2 hun;exact ⟨op, hop, z91 hr hone ho hop (hi.disj p hp2 i List.mem_cons_self) (hi.topo p hp2 i List.mem_cons_self) (fun h => by rw [hna] at h; cases h) v (fun j hj => List.mem_cons_of_mem _ hj) (fun j hj hja hji => (List.mem_cons.1 hj).resolve_left hji) List.mem_cons_self hpe (.inl ⟨rfl, rfl, hna⟩)⟩
 ·intro t ht;have h0 := hi.eqv t (fun p op hop hp hun => ht p op hop (List.mem_cons_of_mem _ hp) hun);have hne := ht i o ho List.mem_cons_self (hi.unl i List.mem_cons_self);rw [h0];cases hod : o.dst with
  | none => rfl
  | some d =>
   have : t ≠ d := fun e => hne (by rw [hod, e]);simp only [zb, this, if_false]
 ·intro p hp ha;rcases List.mem_cons.1 hp with rfl | hp
  ·rw [hna] at ha; cases ha
  ·exact hi.actl p hp ha
theorem RInvQ.find (hr : z0Z ops acts = true) (hlex : ∀ (i : Nat) (o : Oper), ops[i]? = some o → ∀ j, dep o j → j < i) (hone : ∀ (i j : Nat) (oi oj : Oper) (d : Tmp), ops[i]? = some oi → ops[j]? = some oj → oi.dst = some d → oj.dst = some d → i = j) {Q : ASt → Prop} {i : Nat} {o : Oper} (ho : ops[i]? = some o) (hall : ∀ j, dep o j → listed.getD j false = true) :
  ∀ (m : Nat) (L D : List Nat) (T : Nat → Value), RInvQ P ops acts K D L listed tm T n H nx → OpsQ P W0 ops acts K m L ⟨T, n, H, nx⟩ Q → i ∈ L → ∃ m' D' L' T', RInvQ P ops acts K D' L' listed tm T' n H nx ∧ (∀ k ∈ L', k ∈ L) ∧ ((i ∈ D' ∧ OpsQ P W0 ops acts K m' L' ⟨T', n, H, nx⟩ Q) ∨ (i ∈ L' ∧ z2G ops (L'.erase i) i = true ∧ StepV P W0 ops acts (fun nx H => ∀ k ∈ L'.erase i, K k nx H) i ⟨T', n, H, nx⟩ fun s => OpsQ P W0 ops acts K m' (L'.erase i) s Q)) := by
 intro m
 induction m with
 | zero =>
  intro L D T hi h hm;cases L with
  | nil => cases hm
  | cons k L => exact h.elim
 | succ m ih =>
  intro L D T hi h hm;cases L with
  | nil => cases hm
  | cons k L =>
   rcases h with ⟨hna, hfr, h⟩ | h
   ·obtain ⟨T', hi', h'⟩ := hi.advance hr hlex hone hna hfr h;by_cases hk : k = i
    ·subst hk;exact ⟨m, _, _, T', hi', fun _ h => List.mem_cons_of_mem _ h, .inl ⟨List.mem_cons_self, h'⟩⟩
    ·have hm2 : i ∈ L := by
      rcases List.mem_cons.1 hm with e | hm
      ·exact absurd e.symm hk
      ·exact hm
     obtain ⟨m2, D2, L2, T2, q1, q2, q3⟩ := ih _ _ _ hi' h' hm2;exact ⟨m2, D2, L2, T2, q1, fun k hk => List.mem_cons_of_mem _ (q2 k hk), q3⟩
   ·have hfr : z2G ops ((k :: L).erase i) i = true := z1l.2 fun j hj => by
     cases hd : z79 ops i j with
     | false => rfl
     | true =>
      have hjl := hi.unl j (List.mem_of_mem_erase hj);unfold z79 at hd;rw [ho] at hd;have := hall j (z2w.1 hd);rw [hjl] at this;cases this
    exact ⟨m, D, _, T, hi, fun _ h => h, .inr ⟨hm, hfr, h i hm hfr⟩⟩
theorem zdO (hr : z0Z ops acts = true) (hlex : ∀ (i : Nat) (o : Oper), ops[i]? = some o → ∀ j, dep o j → j < i) (hone : ∀ (i j : Nat) (oi oj : Oper) (d : Tmp), ops[i]? = some oi → ops[j]? = some oj → oi.dst = some d → oj.dst = some d → i = j) {ρ : Option Nat} {nx0 : Nat} {H0 : Heap} {C0 : Corr} {df : List Deferred} {Q' : ASt → Prop} {Q : Exit → Act → World → Prop}
  (hq : ∀ T H nx C a w, Q' ⟨T, n, H, nx⟩ → SRel W0 C ⟨T, n, H, nx⟩ a w → Stp nx0 H0 C0 nx H C → a.defers = df → Q .normal a w) :
  ∀ (fuel : Nat) (listed : Array Bool) (tm : Nat → Value) (m : Nat) (D L : List Nat) (T : Nat → Value) (H : Heap) (nx : Nat) (C : Corr) (a : Act) (w : World), RInvQ P ops acts K D L listed tm T n H nx → ((List.range ops.size).filter fun i => !listed.getD i false).length = fuel →
   SRel W0 C ⟨tm, n, H, nx⟩ a w → Stp nx0 H0 C0 nx H C → a.defers = df → (∀ k ∈ L, K k nx H) → OpsQ P W0 ops acts K m L ⟨T, n, H, nx⟩ Q' → wpAnyIn (rf ρ) 0 P .any ops Q fuel listed a w := by
 intro fuel
 induction fuel with
 | zero =>
  intro listed tm m D L T H nx C a w hi hf hs hS hdf hK h
  have hall : ∀ i, i < ops.size → listed.getD i false = true := by
   intro i hlt;cases hl : listed.getD i false with
   | true => rfl
   | false =>
    have : i ∈ (List.range ops.size).filter fun i => !listed.getD i false := List.mem_filter.2 ⟨List.mem_range.2 hlt, by rw [hl]; rfl⟩;rw [List.length_eq_zero_iff.1 hf] at this;cases this
  refine ⟨?_, ?_⟩
  ·cases hrr : Region.ready .any ops listed with
   | nil => rfl
   | cons j r =>
    have hj : j ∈ Region.ready .any ops listed := by rw [hrr]; exact List.mem_cons_self ..
    obtain ⟨h0, o, ho, _⟩ := mem_ready.1 hj;have hlt : j < ops.size := (Array.getElem?_eq_some_iff.1 ho).1;have := hall j hlt;rw [z5B (by rw [hi.size]; exact hlt) false true, h0] at this;cases this
  ·cases L with
   | cons k L =>
    have := hi.unl k List.mem_cons_self;rw [hall k (hi.lt k List.mem_cons_self)] at this;cases this
   | nil =>
    have h : Q' ⟨T, n, H, nx⟩ := by cases m <;> exact h
    have htm : tm = T := by
     funext t;refine hi.eqv t fun p op hop hp hun => ?_;rw [hall p (Array.getElem?_eq_some_iff.1 hop).1] at hun;cases hun
    subst htm;exact hq _ _ _ C a w h hs hS hdf
 | succ fuel ih =>
  intro listed tm m D L T H nx C a w hi hf hs hS hdf hK h;refine ⟨?_, ?_⟩
  ·intro hrd;exfalso
   have hex : ∃ i, i < ops.size ∧ listed.getD i false = false ∧ ∀ j, j < i → listed.getD j false = true := by
    have : ∃ i, i < ops.size ∧ listed.getD i false = false := by
     cases hl : (List.range ops.size).filter fun i => !listed.getD i false with
     | nil => rw [hl] at hf; simp at hf
     | cons i r =>
      have : i ∈ (List.range ops.size).filter fun i => !listed.getD i false := by rw [hl]; exact List.mem_cons_self ..
      obtain ⟨h1, h2⟩ := List.mem_filter.1 this;exact ⟨i, List.mem_range.1 h1, by simpa using h2⟩
    obtain ⟨i, h1, h2⟩ := this
    induction i using Nat.strongRecOn with
    | _ i ihh =>
     by_cases hm : ∃ j, j < i ∧ listed.getD j false = false
     ·obtain ⟨j, hj1, hj2⟩ := hm;exact ihh j hj1 (by omega) hj2
     ·refine ⟨i, h1, h2, fun j hj => ?_⟩;cases hl : listed.getD j false with
      | true => rfl
      | false => exact absurd ⟨j, hj, hl⟩ hm
   obtain ⟨i, hlt, hun, hmin⟩ := hex;have ho : ops[i]? = some ops[i] := by simp
   have : i ∈ Region.ready .any ops listed := mem_ready.2 ⟨by rw [z5B (by rw [hi.size]; exact hlt) true false]; exact hun, _, ho, fun e he hb => hmin _ (hlex i _ ho e.on ⟨e, he, hb, rfl⟩)⟩;rw [hrd] at this;cases this
  ·intro i hir;obtain ⟨h0, o, ho, hall0⟩ := mem_ready.1 hir;have hlt : i < ops.size := (Array.getElem?_eq_some_iff.1 ho).1;have hlts : i < listed.size := by rw [hi.size]; exact hlt
   have hun : listed.getD i false = false := by rw [z5B hlts false true]; exact h0
   have hall : ∀ j, dep o j → listed.getD j false = true := fun j ⟨e, he, hb, hj⟩ => hj ▸ hall0 e he hb
   have hcount : ((List.range ops.size).filter fun j => !(listed.setIfInBounds i true).getD j false).length = fuel := by
    have key : ∀ (l : List Nat), l.Nodup → i ∈ l → ((l.filter fun j => !(listed.setIfInBounds i true).getD j false).length + 1 = (l.filter fun j => !listed.getD j false).length) := by
     intro l
     induction l with
     | nil => intro _ hm; cases hm
     | cons x l ihl =>
      intro hnd hm;rw [List.nodup_cons] at hnd;by_cases e : x = i
      ·subst e
       have hsame : (l.filter fun j => !(listed.setIfInBounds x true).getD j false) = (l.filter fun j => !listed.getD j false) := by
        apply List.filter_congr;intro y hy;rw [getD_set_ne false (fun z : x = y => hnd.1 (by rw [z]; exact hy))]
       rw [List.filter_cons, List.filter_cons];simp only [z0T hlts, hun, Bool.not_true, Bool.not_false, Bool.false_eq_true, if_false, if_true, List.length_cons, hsame]
      ·have hm' : i ∈ l := by
        cases hm with
        | head => exact absurd rfl e
        | tail _ hm => exact hm
       have := ihl hnd.2 hm';rw [List.filter_cons, List.filter_cons, getD_set_ne false (Ne.symm e)];split
       ·simp only [List.length_cons]; omega
       ·exact this
    have := key (List.range ops.size) List.nodup_range (List.mem_range.2 hlt);omega
   have hdown' : ∀ (k : Nat) (ok : Oper), ops[k]? = some ok → (listed.setIfInBounds i true).getD k false = true → ∀ j, dep ok j → (listed.setIfInBounds i true).getD j false = true := by
    intro k ok hok hk j hj;apply getD_set_true;by_cases e : i = k
    ·subst e;rw [ho] at hok;cases hok;exact hall j hj
    ·rw [getD_set_ne false e] at hk;exact hi.down k ok hok hk j hj
   have hwalk : ∃ m' D' L' T', RInvQ P ops acts K D' L' listed tm T' n H nx ∧ (∀ k ∈ L', k ∈ L) ∧ ((i ∈ D' ∧ OpsQ P W0 ops acts K m' L' ⟨T', n, H, nx⟩ Q') ∨ (i ∈ L' ∧ z2G ops (L'.erase i) i = true ∧ StepV P W0 ops acts (fun nx H => ∀ k ∈ L'.erase i, K k nx H) i ⟨T', n, H, nx⟩ fun s => OpsQ P W0 ops acts K m' (L'.erase i) s Q')) := by
    rcases hi.all i hlt with hD | hL
    ·exact ⟨m, D, L, T, hi, fun _ h => h, .inl ⟨hD, h⟩⟩
    ·exact RInvQ.find hr hlex hone ho hall m L D T hi h hL
   obtain ⟨m1, D1, L1, T1, hi1, hsubL, hcase⟩ := hwalk;replace hK : ∀ k ∈ L1, K k nx H := fun k hk => hK k (hsubL k hk);clear hi h hsubL T D L m;obtain ⟨m, hm1⟩ : ∃ m, m = m1 := ⟨_, rfl⟩;obtain ⟨D, hD1⟩ : ∃ D, D = D1 := ⟨_, rfl⟩;obtain ⟨L, hL1⟩ : ∃ L, L = L1 := ⟨_, rfl⟩;obtain ⟨T, hT1⟩ : ∃ T, T = T1 := ⟨_, rfl⟩;rw [← hm1, ← hD1, ← hL1, ← hT1] at hcase;rw [← hD1, ← hL1, ← hT1] at hi1;rw [← hL1] at hK;clear hm1 hD1 hL1 hT1 m1 D1 L1 T1;have hi := hi1;clear hi1;have hrd : ∀ t, (t ∈ z3V o ∨ z8D ops o = some t) → tm t = T t := fun t ht => hi.reads hr ho hall ht;rcases hcase with ⟨hD, h⟩ | ⟨hL, hfr, h⟩
   ·-- one that waits comes up
    obtain ⟨o', ho', hp⟩ := hi.pend i hD hun;rw [ho] at ho';cases ho';obtain ⟨p2, val, p3, p4⟩ := hp
    have hds : DStep P W0 ops tm n H nx o val H nx := by
     refine ⟨p2, ?_⟩;rw [z0D (tm' := T) (fun d hd => hrd d (.inr hd)), z1d (tm' := T) (fun t ht => hrd t (.inl ht))];rcases p4 with ⟨q1, q2⟩ | ⟨q1, q2, _⟩
     ·exact .inl ⟨q1, q2, rfl, rfl⟩
     ·exact .inr ⟨q1, .inl ⟨.none, q2, rfl, rfl⟩⟩
    refine hds.wp hs ho ?_;intro C' v' w' hs' hS';refine ih (listed.setIfInBounds i true) (zb tm o.dst val) m D L T H nx C' _ w' ⟨by simp [hi.size], hdown', ?_, hi.all, hi.disj, hi.topo, hi.nd, hi.lt, ?_, ?_, fun p hp ha => getD_set_true (hi.actl p hp ha)⟩ hcount hs' (hS.trans hS') ((z1q _ _ _).trans hdf) hK h
    ·intro j hj;rw [getD_set_ne false (hi.disj i hD j hj)];exact hi.unl j hj
    ·intro p hp hpu;by_cases e : i = p
     ·subst e;rw [z0T hlts] at hpu;cases hpu
     ·rw [getD_set_ne false e] at hpu;exact hi.pend p hp hpu
    ·intro t ht;by_cases hdt : o.dst = some t
     ·simp only [zb, hdt, if_true];exact (p3 t hdt).symm
     ·have hb : tm t = T t := hi.eqv t fun p op hop hp hpu => by
       by_cases e : i = p
       ·subst e;rw [ho] at hop;cases hop;exact hdt
       ·exact ht p op hop hp (by rw [getD_set_ne false e]; exact hpu)
      rw [← hb];cases hod : o.dst with
      | none => rfl
      | some d =>
       have : t ≠ d := fun e => hdt (by rw [hod, e]);simp only [zb, this, if_false]
   ·-- one that acts
    obtain ⟨o', ho', hd, hE, h⟩ := h.out;rw [ho] at ho';cases ho';have hdn := z1t hd;have hmE : ∀ j ∈ L.erase i, j ∈ L := fun j hj => List.mem_of_mem_erase hj;have hl : ∀ j ∈ L.erase i, i ≠ j ∧ z79 ops i j = false := fun j hj => ⟨fun e => by subst e; exact absurd hj (fun hx => (hi.nd.mem_erase_iff.1 hx).1 rfl), z1l.1 hfr j hj⟩
    have hnodep : ∀ p ∈ D, listed.getD p false = false → z7x ops i p = false := by
     intro p hp hpu;cases hx : z7x ops i p with
     | false => rfl
     | true =>
      have := z72 hi.down ho hall hx;rw [hpu] at this;cases this
    have hnext : ∀ (v : Value) (H' : Heap) (nx' : Nat) (C' : Corr) (v' : Value) (w' : World), ((H' = H ∧ nx' = nx) ∨ ∀ k ∈ L.erase i, K k nx' H') → OpsQ P W0 ops acts K m (L.erase i) ⟨zb T o.dst v, n, H', nx'⟩ Q' → SRel W0 C' ⟨zb tm o.dst v, n, H', nx'⟩ (a.put o.dst v') w' → Stp nx H C nx' H' C' → wpAnyIn (rf ρ) 0 P .any ops Q fuel (listed.setIfInBounds i true) (a.put o.dst v') w' := by
     intro v H' nx' C' v' w' hK' h' hs' hS';refine ih (listed.setIfInBounds i true) (zb tm o.dst v) m (i :: D) (L.erase i) (zb T o.dst v) H' nx' C' _ w' ⟨by simp [hi.size], hdown', ?_, ?_, ?_, ?_, hi.nd.erase i, fun j hj => hi.lt j (hmE j hj), ?_, ?_, ?_⟩ hcount hs' (hS.trans hS') ((z1q _ _ _).trans hdf) (by rcases hK' with ⟨rfl, rfl⟩ | hK'; exact fun k hk => hK k (hmE k hk); exact hK') h'
     ·intro j hj;rw [getD_set_ne false (hl j hj).1];exact hi.unl j (hmE j hj)
     ·intro j hj;rcases hi.all j hj with h | h
      ·exact .inl (List.mem_cons_of_mem _ h)
      ·by_cases e : j = i
       ·exact .inl (e ▸ List.mem_cons_self)
       ·exact .inr ((List.mem_erase_of_ne e).2 h)
     ·intro p hp j hj;rcases List.mem_cons.1 hp with rfl | hp
      ·exact (hl j hj).1
      ·exact hi.disj p hp j (hmE j hj)
     ·intro p hp j hj;rcases List.mem_cons.1 hp with rfl | hp
      ·exact (hl j hj).2
      ·exact hi.topo p hp j (hmE j hj)
     ·intro p hp hpu;rcases List.mem_cons.1 hp with rfl | hp
      ·rw [z0T hlts] at hpu;cases hpu
      ·have hne : i ≠ p := fun e => hi.disj p hp i hL e.symm;rw [getD_set_ne false hne] at hpu;obtain ⟨op, hop, hpe⟩ := hi.pend p hp hpu;refine ⟨op, hop, z91 hr hone ho hop (Ne.symm hne) (hi.topo p hp i hL) (fun _ => hnodep p hp hpu) v hmE (fun j hj _ hji => (List.mem_erase_of_ne hji).2 hj) hL hpe ?_⟩;exact .inr ⟨hE, hnodep p hp hpu, hK'⟩
     ·intro t ht;by_cases hdt : o.dst = some t
      ·simp only [zb, hdt, if_true]
      ·have hb : tm t = T t := hi.eqv t fun p op hop hp hpu => ht p op hop (List.mem_cons_of_mem _ hp) (by
        have hne : i ≠ p := fun e => hi.disj p hp i hL e.symm;rw [getD_set_ne false hne]; exact hpu)
       cases hod : o.dst with
       | none => exact hb
       | some d =>
        have : t ≠ d := fun e => hdt (by rw [hod, e]);simp only [zb, this, if_false];exact hb
     ·intro p hp ha;rcases List.mem_cons.1 hp with rfl | hp
      ·exact z0T hlts false
      ·exact getD_set_true (hi.actl p hp ha)
    have hwT : z2m ops tm o = z18 ops ⟨T, n, H, nx⟩ o := by
     rw [z0D (tm' := T) (fun d hd => hrd d (.inr hd))];exact z0Q ⟨T, n, H, nx⟩ o
    have hevT : evR (z3V o) tm = evR (z3V o) T := z1d (fun t ht => hrd t (.inl ht));rcases h with ⟨hw, h⟩ | ⟨hw, ⟨v, e, hop, hKe, h⟩ | ⟨f, args, R, hc, hf2, hcall, h⟩ | ⟨R, hsnd, h⟩⟩
    ·have hds : DStep P W0 ops tm n H nx o undef H nx := ⟨hdn, .inl ⟨hwT.trans hw, rfl, rfl, rfl⟩⟩;exact hds.wp hs ho fun C' v' w' hs' hS' => hnext undef H nx C' v' w' (.inl ⟨rfl, rfl⟩) h hs' hS'
    ·have hds : DStep P W0 ops tm n H nx o v (e.H nx H) (e.nx nx) := ⟨hdn, .inr ⟨hwT.trans hw, .inl ⟨e, by rw [hevT]; exact (z45 (st := ⟨T, n, H, nx⟩)).trans hop, rfl, rfl⟩⟩⟩;exact hds.wp hs ho fun C' v' w' hs' hS' => hnext v _ _ C' v' w' (.inr hKe) h hs' hS'
    ·refine zb6 hs hdn (hwT.trans hw) (by rw [hevT]; exact (z5p (st := ⟨T, n, H, nx⟩)).trans hc) hf2 hcall ho ?_;intro v nx' H' C' v' w' hRv hs' hS';obtain ⟨hK', h'⟩ := h v nx' H' hRv;exact hnext v H' nx' C' v' w' (.inr hK') h' hs' hS'
    ·refine zdF hs hdn (hwT.trans hw) (R := R) (by rw [hevT]; exact hsnd) ho ?_;intro v e C' v' w' hRv hs' hS';obtain ⟨hK', h'⟩ := h v e hRv;exact hnext v _ _ C' v' w' (.inr hK') h' hs' hS'
theorem OpsQ.drawn {id : Nat} {st : ASt} {Q : AExit → ASt → Prop} (acts : List Nat) (hm : P.follows .mixedOrders = true) (hs : zaI ops = true) (hr : z0Z ops acts = true) (perm : List Nat) (hperm : ((List.range ops.size).all perm.contains && perm.all (fun i => decide (i < ops.size)) && decide perm.Nodup) = true) (h0 : ∀ k ∈ perm, K k st.nx st.H) (h : OpsQ P W0 ops acts K perm.length perm st (Q .normal)) : Trip P W0 (.region id ops true) st Q := by
 obtain ⟨b1, b2, _⟩ := z6S hs;simp only [Bool.and_eq_true, decide_eq_true_eq] at hperm;obtain ⟨⟨hp1, hp2⟩, hp3⟩ := hperm;intro ρ C a w hrr hss;have hs' : SRel W0 C st a w.drew := ⟨hss.tm, hss.sz, hss.rel.drew⟩
 have hfalse : ∀ i, (Array.replicate ops.size false).getD i false = false := fun i => by
  rw [Array.getD_eq_getD_getElem?, Array.getElem?_replicate]; split <;> rfl
 refine wpIn_region_any hm (zdO (P := P) (W0 := W0) (K := K) (n := st.n) (nx0 := st.nx) (H0 := st.H) (C0 := C) (df := a.defers) (Q' := Q .normal) hr b1 b2 (fun T H nx C' a' w' hq hs' hS hdf => ⟨.normal, _, C', rfl, hq, hs', hS, rfl, .of_eq hdf⟩) ops.size (Array.replicate ops.size false) st.tm perm.length [] perm st.tm st.H st.nx C a _ ?_ ?_ hs' (Stp.refl _ _ _) rfl h0 h)
 ·refine ⟨by simp, fun i o _ hl => (by rw [hfalse] at hl; cases hl), fun i _ => hfalse i, fun i hi => .inr ?_, fun p hp => (by cases hp), fun p hp => (by cases hp), hp3, fun i hi => (by have := List.all_eq_true.1 hp2 i hi; simpa using this), fun i hi => (by cases hi), fun t _ => rfl, fun p hp => (by cases hp)⟩;have := List.all_eq_true.1 hp1 i (List.mem_range.2 hi);simpa using this
 ·have : ((List.range ops.size).filter fun i => !(Array.replicate ops.size false).getD i false) = List.range ops.size := by
   rw [List.filter_eq_self];intro i _;rw [hfalse]; rfl
  rw [this, List.length_range]
theorem OpsQ.nil {m : Nat} {st : ASt} {Q : ASt → Prop} (h : Q st) : OpsQ P W0 ops acts K m [] st Q := by cases m <;> exact h
theorem OpsQ.one {m i : Nat} {l : List Nat} {o : Oper} {st : ASt} {Q : ASt → Prop} (ho : ops[i]? = some o) (hn : acts.contains i = false) (he : z7f o.op = false) (hk : (z2G ops l i && z8G ops acts i o l) = true) (h : OpsL P W0 ops [o] st fun s => OpsQ P W0 ops acts K m l s Q) : OpsQ P W0 ops acts K (m + 1) (i :: l) st Q := by
 rw [Bool.and_eq_true] at hk;obtain ⟨hd, h⟩ := h;refine .inl ⟨hn, hk.1, o, ho, hd, ?_⟩;rcases h with ⟨hw, h⟩ | ⟨hw, ⟨v, e, hop, h⟩ | ⟨f, args, R, hc, _⟩⟩
 ·exact .inl ⟨hw, h⟩
 ·have := z7J he hop;subst this;exact .inr ⟨hw, v, hop, .inl hk.2, h⟩
 ·have := z7H (z5o hc);rw [he] at this;cases this
theorem z00 (j : Nat) {m i : Nat} {l : List Nat} {d : Tmp} {op : Op} {type : TypeId} {pos : String} {after : Array Edge} {tm : Nat → Value} {n nx : Nat} {H : Heap} {v : Value} {Q : ASt → Prop} (ho : ops[i]? = some ⟨some d, op, type, pos, after, none⟩) (he : (!acts.contains i && z2G ops l i && (l.contains j && acts.contains j && z7x ops j i)) = true) (hd : d < n) (hK : K j nx H)
  (hop : ∀ H' nx', K j nx' H' → aop P H' nx' (ASt.ev ⟨tm, n, H, nx⟩) ⟨some d, op, type, pos, after, none⟩ = some (v, .none)) (h : OpsQ P W0 ops acts K m l ⟨zb tm (some d) v, n, H, nx⟩ Q) : OpsQ P W0 ops acts K (m + 1) (i :: l) ⟨tm, n, H, nx⟩ Q := by
 simp only [Bool.and_eq_true, Bool.not_eq_true'] at he;exact .inl ⟨he.1.1, he.1.2, _, ho, by simp [z1B, hd], .inr ⟨rfl, v, hop H nx hK, .inr ⟨j, by simpa using he.2.1.1, he.2.1.2, he.2.2, hop⟩, h⟩⟩
theorem zbf {m i : Nat} {l : List Nat} {st : ASt} {Q : ASt → Prop} (hw : z5x ops l (i :: l) = true) (h : ActStep P W0 ops acts (fun nx H => ∀ k ∈ l, K k nx H) i st fun s => OpsQ P W0 ops acts K m l s Q) : OpsQ P W0 ops acts K (m + 1) (i :: l) st Q := by
 refine .inr fun j hj hf => ?_;by_cases e : j = i
 ·subst e;simp only [List.erase_cons_head];exact .inl h
 ·have hj2 : j ∈ l := by
   rcases List.mem_cons.1 hj with h | h
   ·exact absurd h e
   ·exact h
  rw [z4g hw hj2] at hf;cases hf
theorem ActStep.conv {K1 K2 : Nat → Heap → Prop} {i : Nat} {st : ASt} {N N' : ASt → Prop} (h : ActStep P W0 ops acts K1 i st N) (hN : ∀ s, N s → N' s ∧ K2 s.nx s.H) : ActStep P W0 ops acts K2 i st N' := by
 obtain ⟨o, ho, hd, he, h⟩ := h;refine ⟨o, ho, hd, he, ?_⟩;rcases h with ⟨hw, h⟩ | ⟨hw, ⟨v, e, hop, hk, h⟩ | ⟨f, args, R, hc, hf, hcall, h⟩⟩
 ·exact .inl ⟨hw, (hN _ h).1⟩
 ·exact .inr ⟨hw, .inl ⟨v, e, hop, (hN _ h).2, (hN _ h).1⟩⟩
 ·exact .inr ⟨hw, .inr ⟨f, args, R, hc, hf, hcall, fun v nx' H' hr => ⟨(hN _ (h v nx' H' hr).2).2, (hN _ (h v nx' H' hr).2).1⟩⟩⟩
theorem zbe {J : List Nat → ASt → Prop} {L0 : List Nat} {Q : ASt → Prop} (hK : ∀ l st, J l st → ∀ k ∈ l, K k st.nx st.H)
  (hstep : ∀ (l : List Nat) (st : ASt) (j : Nat), (∀ x ∈ l, x ∈ L0) → l.Nodup → J l st → j ∈ l → z2G ops (l.erase j) j = true → ActStep P W0 ops acts (fun _ _ => True) j st (J (l.erase j))) (hend : ∀ st, J [] st → Q st) :
  ∀ (m : Nat) (l : List Nat) (st : ASt), l.length ≤ m → (∀ x ∈ l, x ∈ L0) → l.Nodup → J l st → OpsQ P W0 ops acts K m l st Q := by
 intro m
 induction m with
 | zero =>
  intro l st hm _ _ hJ;cases l with
  | nil => exact hend st hJ
  | cons i l => simp at hm
 | succ m ih =>
  intro l st hm hs hn hJ;cases l with
  | nil => exact hend st hJ
  | cons i l =>
   refine .inr fun j hj hf => ?_;refine .inl <| (hstep (i :: l) st j hs hn hJ hj hf).conv fun s hJ' => ⟨ih _ s ?_ (fun x hx => hs x (List.mem_of_mem_erase hx)) (hn.erase j) hJ', fun k hk => hK _ s hJ' k hk⟩;rw [List.length_erase_of_mem hj];simp at hm ⊢;omega
def zgh (ops : Array Oper) (L0 L1 : List Nat) : Bool := L1.all fun j => !L0.any (Nat.beq j) && (L0.all (fun i => z79 ops j i) || L1.any fun k => !Nat.beq k j && z79 ops j k)
theorem zgA {J : List Nat → ASt → Prop} {L0 L1 : List Nat} {Q : ASt → Prop} (ht : zgh ops L0 L1 = true) (hK : ∀ l st, J l st → ∀ k ∈ l ++ L1, K k st.nx st.H)
  (hstep : ∀ (l : List Nat) (st : ASt) (j : Nat), (∀ x ∈ l, x ∈ L0) → l.Nodup → J l st → j ∈ l → z2G ops (l.erase j ++ L1) j = true → ActStep P W0 ops acts (fun _ _ => True) j st (J (l.erase j))) (hend : ∀ m st, J [] st → OpsQ P W0 ops acts K (L1.length + m) L1 st Q) :
  ∀ (m : Nat) (l : List Nat) (st : ASt), (∀ x ∈ l, x ∈ L0) → l.Nodup → l.length ≤ m → J l st → OpsQ P W0 ops acts K (L1.length + m) (l ++ L1) st Q := by
 intro m
 induction m with
 | zero =>
  intro l st _ _ hm hJ;cases l with
  | nil => exact hend 0 st hJ
  | cons i l => simp at hm
 | succ m ih =>
  intro l st hs hn hm hJ;cases l with
  | nil => exact hend (m + 1) st hJ
  | cons i l =>
   refine .inr fun j hj hf => ?_;by_cases hjl : j ∈ i :: l
   ·have he : (i :: l ++ L1).erase j = (i :: l).erase j ++ L1 := List.erase_append_left _ hjl;change StepV P W0 ops acts (fun nx H => ∀ k ∈ (i :: l ++ L1).erase j, K k nx H) j st fun s => OpsQ P W0 ops acts K (L1.length + m) ((i :: l ++ L1).erase j) s Q;change z2G ops ((i :: l ++ L1).erase j) j = true at hf;rw [he] at hf ⊢;refine .inl <| (hstep (i :: l) st j hs hn hJ hjl hf).conv fun s hJ' => ⟨ih _ s (fun x hx => hs x (List.mem_of_mem_erase hx)) (hn.erase j) ?_ hJ', fun k hk => hK _ s hJ' k hk⟩;rw [List.length_erase_of_mem hjl];simp at hm ⊢;omega
   ·exfalso
    have hj1 : j ∈ L1 := by
     rcases List.mem_append.1 (show j ∈ i :: l ++ L1 from hj) with h | h
     ·exact absurd h hjl
     ·exact h
    have := List.all_eq_true.1 ht j hj1;simp only [Bool.and_eq_true, Bool.or_eq_true, Bool.not_eq_true', List.all_eq_true, List.any_eq_true] at this;obtain ⟨_, h | ⟨k, hk, hkj, hd⟩⟩ := this
    ·have hi : i ∈ (i :: l ++ L1).erase j := (List.mem_erase_of_ne (fun e => hjl (by rw [← e]; exact List.mem_cons_self))).2 (List.mem_append_left _ List.mem_cons_self);have := z1l.1 hf i hi;rw [h i (hs i List.mem_cons_self)] at this;cases this
    ·have hkj' : k ≠ j := fun e => by subst e; simp at hkj
     have hk2 : k ∈ (i :: l ++ L1).erase j := (List.mem_erase_of_ne hkj').2 (List.mem_append_right _ hk);have := z1l.1 hf k hk2;rw [hd] at this;cases this
theorem zW {m a : Nat} {l : List Nat} {st : ASt} {Q : ASt → Prop} (x : Nat) (l1 : List Nat) (hw : ((a :: l).all (fun j => !z2G ops ((a :: l).erase j) j || Nat.beq j x) && decide ((a :: l).erase x = l1)) = true) (h : ActStep P W0 ops acts (fun nx H => ∀ k ∈ l1, K k nx H) x st fun s => OpsQ P W0 ops acts K m l1 s Q) : OpsQ P W0 ops acts K (m + 1) (a :: l) st Q := by
 simp only [Bool.and_eq_true, List.all_eq_true, Bool.or_eq_true, decide_eq_true_eq] at hw;refine .inr fun j hj hf => ?_;rcases hw.1 j hj with h1 | h1
 ·rw [hf] at h1; cases h1
 ·have := Nat.eq_of_beq_eq_true h1;subst this;rw [hw.2];exact .inl h
theorem z2L {m a : Nat} {l : List Nat} {st : ASt} {Q : ASt → Prop} (x y : Nat) (l1 l2 : List Nat) (hw : ((a :: l).all (fun j => !z2G ops ((a :: l).erase j) j || Nat.beq j x || Nat.beq j y) && decide ((a :: l).erase x = l1) && decide ((a :: l).erase y = l2)) = true) (h : ActStep P W0 ops acts (fun nx H => ∀ k ∈ l1, K k nx H) x st fun s => OpsQ P W0 ops acts K m l1 s Q) (k : ActStep P W0 ops acts (fun nx H => ∀ k ∈ l2, K k nx H) y st fun s => OpsQ P W0 ops acts K m l2 s Q) : OpsQ P W0 ops acts K (m + 1) (a :: l) st Q := by
 simp only [Bool.and_eq_true, List.all_eq_true, Bool.or_eq_true, decide_eq_true_eq] at hw;refine .inr fun j hj hf => ?_;rcases hw.1.1 j hj with (h1 | h1) | h1
 ·rw [hf] at h1; cases h1
 ·have := Nat.eq_of_beq_eq_true h1;subst this;rw [hw.1.2];exact .inl h
 ·have := Nat.eq_of_beq_eq_true h1;subst this;rw [hw.2];exact .inl k
end
end Go.Am
