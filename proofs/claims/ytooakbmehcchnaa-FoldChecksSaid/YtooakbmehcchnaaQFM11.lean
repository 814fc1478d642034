import Derived.Test.YtooakbmehcchnaaQFM10
set_option linter.unusedSimpArgs false
set_option linter.unusedVariables false
set_option maxRecDepth 100000
set_option maxHeartbeats 16000000
namespace Go.Am
open Go.RowKit
def OpsQ (P : Program) (W0 : World) (ops : Array Oper) (acts : List Nat) (K : Nat → Nat → Heap → Prop) : Nat → List Nat → ASt → (ASt → Prop) → Prop
  | _, [], st, Q => Q st
  | 0, _ :: _, _, _ => False
  | m + 1, i :: l, st, Q =>
    (acts.contains i = false ∧ front ops l i = true ∧ ∃ o, ops[i]? = some o ∧ dstOk st o = true ∧
      ((wants ops st o = false ∧ OpsQ P W0 ops acts K m l (st.put o.dst undef .none) Q) ∨
       (wants ops st o = true ∧ ∃ v, aop P st.H st.nx st.ev o = some (v, .none) ∧ (edgeR ops acts i o l = true ∨ ∃ j ∈ l, acts.contains j = true ∧ depT ops j i = true ∧ ∀ H' nx', K j nx' H' → aop P H' nx' st.ev o = some (v, .none)) ∧ OpsQ P W0 ops acts K m l (st.put o.dst v .none) Q))) ∨
    (∀ j ∈ i :: l, front ops ((i :: l).erase j) j = true → ActStep P W0 ops acts (fun nx H => ∀ k ∈ (i :: l).erase j, K k nx H) j st fun s => OpsQ P W0 ops acts K m ((i :: l).erase j) s Q)
section
variable {P : Program} {W0 : World} {ops : Array Oper} {acts : List Nat} {K : Nat → Nat → Heap → Prop}
def PendQ (P : Program) (ops : Array Oper) (acts : List Nat) (K : Nat → Nat → Heap → Prop) (L : List Nat) (T : Nat → Value) (n : Nat) (H : Heap) (nx : Nat) (i : Nat) (o : Oper) : Prop :=
  (∀ d, o.dst = some d → d < n) ∧ ∃ val, (∀ d, o.dst = some d → T d = val) ∧ ((wantsT ops T o = false ∧ val = undef) ∨
    (wantsT ops T o = true ∧ aop P H nx (evR (opTs o) T) o = some (val, .none) ∧ ((∀ j ∈ L, acts.contains j = true → depT ops j i = true) ∨ (∀ H' nx', aop P H' nx' (evR (opTs o) T) o = some (val, .none)) ∨ ∃ j ∈ L, acts.contains j = true ∧ depT ops j i = true ∧ ∀ H' nx', K j nx' H' → aop P H' nx' (evR (opTs o) T) o = some (val, .none))))
structure RInvQ (P : Program) (ops : Array Oper) (acts : List Nat) (K : Nat → Nat → Heap → Prop) (D L : List Nat) (listed : Array Bool) (tm T : Nat → Value) (n : Nat) (H : Heap) (nx : Nat) : Prop where
  size : listed.size = ops.size
  down : ∀ (i : Nat) (o : Oper), ops[i]? = some o → listed.getD i false = true → ∀ j, dep o j → listed.getD j false = true
  unl : ∀ i ∈ L, listed.getD i false = false
  all : ∀ i, i < ops.size → i ∈ D ∨ i ∈ L
  disj : ∀ p ∈ D, ∀ i ∈ L, p ≠ i
  topo : ∀ p ∈ D, ∀ i ∈ L, depD ops p i = false
  nd : L.Nodup
  lt : ∀ i ∈ L, i < ops.size
  pend : ∀ i ∈ D, listed.getD i false = false → ∃ o, ops[i]? = some o ∧ PendQ P ops acts K L T n H nx i o
  eqv : ∀ t, (∀ (i : Nat) (o : Oper), ops[i]? = some o → i ∈ D → listed.getD i false = false → o.dst ≠ some t) → tm t = T t
  actl : ∀ p ∈ D, acts.contains p = true → listed.getD p false = true
variable {D L : List Nat} {listed : Array Bool} {tm T : Nat → Value} {n nx : Nat} {H : Heap}
theorem RInvQ.reads (hr : readsOkW ops acts = true) (hi : RInvQ P ops acts K D L listed tm T n H nx) {i : Nat} {o : Oper} (ho : ops[i]? = some o) (hall : ∀ j, dep o j → listed.getD j false = true) {t : Tmp} (ht : t ∈ opTs o ∨ gdst ops o = some t) : tm t = T t := by
  refine hi.eqv t fun p op hop hp hun hd => ?_
  rcases readsOkW_spec hr ho hop ht hd with h | ⟨h, _, _⟩
  · have := hall p h
    rw [hun] at this
    cases this
  · have := hi.actl p hp h
    rw [hun] at this
    cases this
theorem pend_putQ (hr : readsOkW ops acts = true) (hone : ∀ (i j : Nat) (oi oj : Oper) (d : Tmp), ops[i]? = some oi → ops[j]? = some oj → oi.dst = some d → oj.dst = some d → i = j) {i p : Nat} {o op : Oper} {H' : Heap} {nx' : Nat} (ho : ops[i]? = some o) (hop : ops[p]? = some op) (hpi : p ≠ i) (hni : depD ops p i = false) (hact : acts.contains i = true → depT ops i p = false) (v : Value)
    {L' : List Nat} (hsub : ∀ j ∈ L', j ∈ L) (hkeep : ∀ j ∈ L, acts.contains j = true → j ≠ i → j ∈ L') (hil : i ∈ L) (h : PendQ P ops acts K L T n H nx p op) (hk : (H' = H ∧ nx' = nx ∧ acts.contains i = false) ∨ (acts.contains i = true ∧ depT ops i p = false ∧ ((H' = H ∧ nx' = nx) ∨ ∀ j ∈ L', K j nx' H'))) : PendQ P ops acts K L' (tmPut T o.dst v) n H' nx' p op := by
  obtain ⟨h2, val, h3, h4⟩ := h
  have hsame : ∀ t, (t ∈ opTs op ∨ gdst ops op = some t) → tmPut T o.dst v t = T t := fun t ht => by
    cases hd : o.dst with
    | none => rfl
    | some d =>
      have hne : t ≠ d := fun e => by
        subst e
        rcases readsOkW_spec hr hop ho ht hd with h | ⟨ha, hb, _⟩
        · have := depB_iff.2 h
          unfold depD at hni
          rw [hop] at hni
          simp only at hni
          rw [hni] at this
          cases this
        · rw [hact ha] at hb
          cases hb
      simp only [tmPut, hne, if_false]
  refine ⟨h2, val, fun d hd => ?_, ?_⟩
  · rw [← h3 d hd]
    cases hod : o.dst with
    | none => rfl
    | some d' =>
      have hne : d ≠ d' := fun e => hpi (hone p i op o d hop ho hd (by rw [hod, e]))
      simp only [tmPut, hne, if_false]
  · rw [wantsT_congr (tm' := T) (fun d hd => hsame d (.inr hd)), evR_congr (tm' := T) (fun t ht => hsame t (.inl ht))]
    rcases h4 with h4 | ⟨h5, h6, h7⟩
    · exact .inl h4
    · refine .inr ⟨h5, ?_, ?_⟩
      · rcases hk with ⟨rfl, rfl, _⟩ | ⟨he, hno, ⟨rfl, rfl⟩ | hK⟩
        · exact h6
        · exact h6
        · rcases h7 with h7 | h7 | ⟨j, hj, hja, hjd, h7⟩
          · have := h7 i hil he
            rw [hno] at this; cases this
          · exact h7 _ _
          · exact h7 _ _ (hK j (hkeep j hj hja fun e => by rw [e, hno] at hjd; cases hjd))
      · rcases h7 with h7 | h7 | ⟨j, hj, hja, hjd, h7⟩
        · exact .inl fun j hj => h7 j (hsub j hj)
        · exact .inr (.inl h7)
        · refine .inr (.inr ⟨j, hkeep j hj hja fun e => ?_, hja, hjd, h7⟩)
          rcases hk with ⟨_, _, hna⟩ | ⟨_, hno, _⟩
          · rw [e, hna] at hja; cases hja
          · rw [e, hno] at hjd; cases hjd
theorem read_sameQ (hr : readsOkW ops acts = true) (hlex : ∀ (i : Nat) (o : Oper), ops[i]? = some o → ∀ j, dep o j → j < i) {i : Nat} {o : Oper} (ho : ops[i]? = some o) (v : Value) {t : Tmp} (ht : t ∈ opTs o ∨ gdst ops o = some t) : tmPut T o.dst v t = T t := by
  cases hod : o.dst with
  | none => rfl
  | some d =>
    have hne : t ≠ d := fun e => by
      subst e
      rcases readsOkW_spec hr ho ho ht hod with h | ⟨_, _, h⟩
      · exact absurd (hlex i o ho i h) (Nat.lt_irrefl _)
      · exact h rfl
    simp only [tmPut, hne, if_false]
theorem RInvQ.advance (hr : readsOkW ops acts = true) (hlex : ∀ (i : Nat) (o : Oper), ops[i]? = some o → ∀ j, dep o j → j < i) (hone : ∀ (i j : Nat) (oi oj : Oper) (d : Tmp), ops[i]? = some oi → ops[j]? = some oj → oi.dst = some d → oj.dst = some d → i = j) {i m : Nat} {Q : ASt → Prop} (hi : RInvQ P ops acts K D (i :: L) listed tm T n H nx) (hna : acts.contains i = false) (hfr : front ops L i = true)
    (h : ∃ o, ops[i]? = some o ∧ dstOk ⟨T, n, H, nx⟩ o = true ∧
      ((wants ops ⟨T, n, H, nx⟩ o = false ∧ OpsQ P W0 ops acts K m L (ASt.put ⟨T, n, H, nx⟩ o.dst undef .none) Q) ∨
       (wants ops ⟨T, n, H, nx⟩ o = true ∧ ∃ v, aop P H nx (ASt.ev ⟨T, n, H, nx⟩) o = some (v, .none) ∧ (edgeR ops acts i o L = true ∨ ∃ j ∈ L, acts.contains j = true ∧ depT ops j i = true ∧ ∀ H' nx', K j nx' H' → aop P H' nx' (ASt.ev ⟨T, n, H, nx⟩) o = some (v, .none)) ∧ OpsQ P W0 ops acts K m L (ASt.put ⟨T, n, H, nx⟩ o.dst v .none) Q))) :
    ∃ T', RInvQ P ops acts K (i :: D) L listed tm T' n H nx ∧ OpsQ P W0 ops acts K m L ⟨T', n, H, nx⟩ Q := by
  obtain ⟨o, ho, hd, h⟩ := h
  have hl : ∀ j ∈ L, i ≠ j ∧ depD ops i j = false := fun j hj => ⟨fun e => (List.nodup_cons.1 hi.nd).1 (e ▸ hj), front_iff.1 hfr j hj⟩
  have hdn := dstOk_spec hd
  have key : ∃ v, PendQ P ops acts K L (tmPut T o.dst v) n H nx i o ∧ OpsQ P W0 ops acts K m L ⟨tmPut T o.dst v, n, H, nx⟩ Q := by
    have hown : ∀ v d, o.dst = some d → tmPut T o.dst v d = v := fun v d hd => by simp [tmPut, hd]
    rcases h with ⟨hw, h⟩ | ⟨hw, v, hop, hedge, h⟩
    · refine ⟨undef, ⟨hdn, undef, hown undef, .inl ⟨?_, rfl⟩⟩, h⟩
      rw [wantsT_congr (tm' := T) (fun d hd => read_sameQ hr hlex ho _ (.inr hd))]
      exact (wantsT_wants ⟨T, n, H, nx⟩ o).trans hw
    · refine ⟨v, ⟨hdn, v, hown v, .inr ⟨?_, ?_, ?_⟩⟩, h⟩
      · rw [wantsT_congr (tm' := T) (fun d hd => read_sameQ hr hlex ho _ (.inr hd))]
        exact (wantsT_wants ⟨T, n, H, nx⟩ o).trans hw
      · rw [evR_congr (tm' := T) (fun t ht => read_sameQ hr hlex ho _ (.inl ht))]
        exact (aop_evR (st := ⟨T, n, H, nx⟩)).trans hop
      · rcases hedge with hedge | ⟨j, hj, hja, hjd, hst⟩
        · unfold edgeR at hedge
          rw [Bool.or_eq_true] at hedge
          rcases hedge with hf | hf
          · refine .inr (.inl fun H' nx' => ?_)
            rw [evR_congr (tm' := T) (fun t ht => read_sameQ hr hlex ho _ (.inl ht)), heapFree_aop (H' := H) (nx' := nx) hf]
            exact (aop_evR (st := ⟨T, n, H, nx⟩)).trans hop
          · refine .inl fun j hj hej => ?_
            rw [List.all_eq_true] at hf
            have := hf j hj
            rw [hej] at this
            simpa using this
        · refine .inr (.inr ⟨j, hj, hja, hjd, fun H' nx' hK => ?_⟩)
          rw [evR_congr (tm' := T) (fun t ht => read_sameQ hr hlex ho _ (.inl ht))]
          exact (aop_evR (st := ⟨T, n, H, nx⟩)).trans (hst H' nx' hK)
  obtain ⟨v, hp, h2⟩ := key
  refine ⟨tmPut T o.dst v, ⟨hi.size, hi.down, fun j hj => hi.unl j (List.mem_cons_of_mem _ hj), ?_, ?_, ?_, (List.nodup_cons.1 hi.nd).2, fun j hj => hi.lt j (List.mem_cons_of_mem _ hj), ?_, ?_, ?_⟩, h2⟩
  · intro j hj
    rcases hi.all j hj with h | h
    · exact .inl (List.mem_cons_of_mem _ h)
    · rcases List.mem_cons.1 h with rfl | h
      · exact .inl List.mem_cons_self
      · exact .inr h
  · intro p hp j hj
    rcases List.mem_cons.1 hp with rfl | hp
    · exact (hl j hj).1
    · exact hi.disj p hp j (List.mem_cons_of_mem _ hj)
  · intro p hp j hj
    rcases List.mem_cons.1 hp with rfl | hp
    · exact (hl j hj).2
    · exact hi.topo p hp j (List.mem_cons_of_mem _ hj)
  · intro p hp2 hun
    rcases List.mem_cons.1 hp2 with rfl | hp2
    · exact ⟨o, ho, hp⟩
    · obtain ⟨op, hop, hpe⟩ := hi.pend p hp2 hun
      exact ⟨op, hop, pend_putQ hr hone ho hop (hi.disj p hp2 i List.mem_cons_self) (hi.topo p hp2 i List.mem_cons_self) (fun h => by rw [hna] at h; cases h) v (fun j hj => List.mem_cons_of_mem _ hj) (fun j hj hja hji => (List.mem_cons.1 hj).resolve_left hji) List.mem_cons_self hpe (.inl ⟨rfl, rfl, hna⟩)⟩
  · intro t ht
    have h0 := hi.eqv t (fun p op hop hp hun => ht p op hop (List.mem_cons_of_mem _ hp) hun)
    have hne := ht i o ho List.mem_cons_self (hi.unl i List.mem_cons_self)
    rw [h0]
    cases hod : o.dst with
    | none => rfl
    | some d =>
      have : t ≠ d := fun e => hne (by rw [hod, e])
      simp only [tmPut, this, if_false]
  · intro p hp ha
    rcases List.mem_cons.1 hp with rfl | hp
    · rw [hna] at ha; cases ha
    · exact hi.actl p hp ha
theorem RInvQ.find (hr : readsOkW ops acts = true) (hlex : ∀ (i : Nat) (o : Oper), ops[i]? = some o → ∀ j, dep o j → j < i) (hone : ∀ (i j : Nat) (oi oj : Oper) (d : Tmp), ops[i]? = some oi → ops[j]? = some oj → oi.dst = some d → oj.dst = some d → i = j) {Q : ASt → Prop} {i : Nat} {o : Oper} (ho : ops[i]? = some o) (hall : ∀ j, dep o j → listed.getD j false = true) :
    ∀ (m : Nat) (L D : List Nat) (T : Nat → Value), RInvQ P ops acts K D L listed tm T n H nx → OpsQ P W0 ops acts K m L ⟨T, n, H, nx⟩ Q → i ∈ L → ∃ m' D' L' T', RInvQ P ops acts K D' L' listed tm T' n H nx ∧ (∀ k ∈ L', k ∈ L) ∧ ((i ∈ D' ∧ OpsQ P W0 ops acts K m' L' ⟨T', n, H, nx⟩ Q) ∨ (i ∈ L' ∧ front ops (L'.erase i) i = true ∧ ActStep P W0 ops acts (fun nx H => ∀ k ∈ L'.erase i, K k nx H) i ⟨T', n, H, nx⟩ fun s => OpsQ P W0 ops acts K m' (L'.erase i) s Q)) := by
  intro m
  induction m with
  | zero =>
    intro L D T hi h hm
    cases L with
    | nil => cases hm
    | cons k L => exact h.elim
  | succ m ih =>
    intro L D T hi h hm
    cases L with
    | nil => cases hm
    | cons k L =>
      rcases h with ⟨hna, hfr, h⟩ | h
      · obtain ⟨T', hi', h'⟩ := hi.advance hr hlex hone hna hfr h
        by_cases hk : k = i
        · subst hk
          exact ⟨m, _, _, T', hi', fun _ h => List.mem_cons_of_mem _ h, .inl ⟨List.mem_cons_self, h'⟩⟩
        · have hm2 : i ∈ L := by
            rcases List.mem_cons.1 hm with e | hm
            · exact absurd e.symm hk
            · exact hm
          obtain ⟨m2, D2, L2, T2, q1, q2, q3⟩ := ih _ _ _ hi' h' hm2
          exact ⟨m2, D2, L2, T2, q1, fun k hk => List.mem_cons_of_mem _ (q2 k hk), q3⟩
      · have hfr : front ops ((k :: L).erase i) i = true := front_iff.2 fun j hj => by
          cases hd : depD ops i j with
          | false => rfl
          | true =>
            have hjl := hi.unl j (List.mem_of_mem_erase hj)
            unfold depD at hd
            rw [ho] at hd
            have := hall j (depB_iff.1 hd)
            rw [hjl] at this
            cases this
        exact ⟨m, D, _, T, hi, fun _ h => h, .inr ⟨hm, hfr, h i hm hfr⟩⟩
theorem opsQ_any (hr : readsOkW ops acts = true) (hlex : ∀ (i : Nat) (o : Oper), ops[i]? = some o → ∀ j, dep o j → j < i) (hone : ∀ (i j : Nat) (oi oj : Oper) (d : Tmp), ops[i]? = some oi → ops[j]? = some oj → oi.dst = some d → oj.dst = some d → i = j) {ρ : Option Nat} {nx0 : Nat} {H0 : Heap} {C0 : Corr} {df : List Deferred} {Q' : ASt → Prop} {Q : Exit → Act → World → Prop}
    (hq : ∀ T H nx C a w, Q' ⟨T, n, H, nx⟩ → SRel W0 C ⟨T, n, H, nx⟩ a w → Stp nx0 H0 C0 nx H C → a.defers = df → Q .normal a w) :
    ∀ (fuel : Nat) (listed : Array Bool) (tm : Nat → Value) (m : Nat) (D L : List Nat) (T : Nat → Value) (H : Heap) (nx : Nat) (C : Corr) (a : Act) (w : World), RInvQ P ops acts K D L listed tm T n H nx → ((List.range ops.size).filter fun i => !listed.getD i false).length = fuel →
      SRel W0 C ⟨tm, n, H, nx⟩ a w → Stp nx0 H0 C0 nx H C → a.defers = df → (∀ k ∈ L, K k nx H) → OpsQ P W0 ops acts K m L ⟨T, n, H, nx⟩ Q' → wpAnyIn (rf ρ) 0 P .any ops Q fuel listed a w := by
  intro fuel
  induction fuel with
  | zero =>
    intro listed tm m D L T H nx C a w hi hf hs hS hdf hK h
    have hall : ∀ i, i < ops.size → listed.getD i false = true := by
      intro i hlt
      cases hl : listed.getD i false with
      | true => rfl
      | false =>
        have : i ∈ (List.range ops.size).filter fun i => !listed.getD i false := List.mem_filter.2 ⟨List.mem_range.2 hlt, by rw [hl]; rfl⟩
        rw [List.length_eq_zero_iff.1 hf] at this
        cases this
    refine ⟨?_, ?_⟩
    · cases hrr : Region.ready .any ops listed with
      | nil => rfl
      | cons j r =>
        have hj : j ∈ Region.ready .any ops listed := by rw [hrr]; exact List.mem_cons_self ..
        obtain ⟨h0, o, ho, _⟩ := mem_ready.1 hj
        have hlt : j < ops.size := (Array.getElem?_eq_some_iff.1 ho).1
        have := hall j hlt
        rw [getD_lt (by rw [hi.size]; exact hlt) false true, h0] at this
        cases this
    · cases L with
      | cons k L =>
        have := hi.unl k List.mem_cons_self
        rw [hall k (hi.lt k List.mem_cons_self)] at this
        cases this
      | nil =>
        have h : Q' ⟨T, n, H, nx⟩ := by cases m <;> exact h
        have htm : tm = T := by
          funext t
          refine hi.eqv t fun p op hop hp hun => ?_
          rw [hall p (Array.getElem?_eq_some_iff.1 hop).1] at hun
          cases hun
        subst htm
        exact hq _ _ _ C a w h hs hS hdf
  | succ fuel ih =>
    intro listed tm m D L T H nx C a w hi hf hs hS hdf hK h
    refine ⟨?_, ?_⟩
    · intro hrd
      exfalso
      have hex : ∃ i, i < ops.size ∧ listed.getD i false = false ∧ ∀ j, j < i → listed.getD j false = true := by
        have : ∃ i, i < ops.size ∧ listed.getD i false = false := by
          cases hl : (List.range ops.size).filter fun i => !listed.getD i false with
          | nil => rw [hl] at hf; simp at hf
          | cons i r =>
            have : i ∈ (List.range ops.size).filter fun i => !listed.getD i false := by rw [hl]; exact List.mem_cons_self ..
            obtain ⟨h1, h2⟩ := List.mem_filter.1 this
            exact ⟨i, List.mem_range.1 h1, by simpa using h2⟩
        obtain ⟨i, h1, h2⟩ := this
        induction i using Nat.strongRecOn with
        | _ i ihh =>
          by_cases hm : ∃ j, j < i ∧ listed.getD j false = false
          · obtain ⟨j, hj1, hj2⟩ := hm
            exact ihh j hj1 (by omega) hj2
          · refine ⟨i, h1, h2, fun j hj => ?_⟩
            cases hl : listed.getD j false with
            | true => rfl
            | false => exact absurd ⟨j, hj, hl⟩ hm
      obtain ⟨i, hlt, hun, hmin⟩ := hex
      have ho : ops[i]? = some ops[i] := by simp
      have : i ∈ Region.ready .any ops listed := mem_ready.2 ⟨by rw [getD_lt (by rw [hi.size]; exact hlt) true false]; exact hun, _, ho, fun e he hb => hmin _ (hlex i _ ho e.on ⟨e, he, hb, rfl⟩)⟩
      rw [hrd] at this
      cases this
    · intro i hir
      obtain ⟨h0, o, ho, hall0⟩ := mem_ready.1 hir
      have hlt : i < ops.size := (Array.getElem?_eq_some_iff.1 ho).1
      have hlts : i < listed.size := by rw [hi.size]; exact hlt
      have hun : listed.getD i false = false := by rw [getD_lt hlts false true]; exact h0
      have hall : ∀ j, dep o j → listed.getD j false = true := fun j ⟨e, he, hb, hj⟩ => hj ▸ hall0 e he hb
      have hcount : ((List.range ops.size).filter fun j => !(listed.setIfInBounds i true).getD j false).length = fuel := by
        have key : ∀ (l : List Nat), l.Nodup → i ∈ l → ((l.filter fun j => !(listed.setIfInBounds i true).getD j false).length + 1 = (l.filter fun j => !listed.getD j false).length) := by
          intro l
          induction l with
          | nil => intro _ hm; cases hm
          | cons x l ihl =>
            intro hnd hm
            rw [List.nodup_cons] at hnd
            by_cases e : x = i
            · subst e
              have hsame : (l.filter fun j => !(listed.setIfInBounds x true).getD j false) = (l.filter fun j => !listed.getD j false) := by
                apply List.filter_congr
                intro y hy
                rw [getD_set_ne false (fun z : x = y => hnd.1 (by rw [z]; exact hy))]
              rw [List.filter_cons, List.filter_cons]
              simp only [getD_set_self hlts, hun, Bool.not_true, Bool.not_false, Bool.false_eq_true, if_false, if_true, List.length_cons, hsame]
            · have hm' : i ∈ l := by
                cases hm with
                | head => exact absurd rfl e
                | tail _ hm => exact hm
              have := ihl hnd.2 hm'
              rw [List.filter_cons, List.filter_cons, getD_set_ne false (Ne.symm e)]
              split
              · simp only [List.length_cons]; omega
              · exact this
        have := key (List.range ops.size) List.nodup_range (List.mem_range.2 hlt)
        omega
      have hdown' : ∀ (k : Nat) (ok : Oper), ops[k]? = some ok → (listed.setIfInBounds i true).getD k false = true → ∀ j, dep ok j → (listed.setIfInBounds i true).getD j false = true := by
        intro k ok hok hk j hj
        apply getD_set_true
        by_cases e : i = k
        · subst e
          rw [ho] at hok
          cases hok
          exact hall j hj
        · rw [getD_set_ne false e] at hk
          exact hi.down k ok hok hk j hj
      have hwalk : ∃ m' D' L' T', RInvQ P ops acts K D' L' listed tm T' n H nx ∧ (∀ k ∈ L', k ∈ L) ∧ ((i ∈ D' ∧ OpsQ P W0 ops acts K m' L' ⟨T', n, H, nx⟩ Q') ∨ (i ∈ L' ∧ front ops (L'.erase i) i = true ∧ ActStep P W0 ops acts (fun nx H => ∀ k ∈ L'.erase i, K k nx H) i ⟨T', n, H, nx⟩ fun s => OpsQ P W0 ops acts K m' (L'.erase i) s Q')) := by
        rcases hi.all i hlt with hD | hL
        · exact ⟨m, D, L, T, hi, fun _ h => h, .inl ⟨hD, h⟩⟩
        · exact RInvQ.find hr hlex hone ho hall m L D T hi h hL
      obtain ⟨m1, D1, L1, T1, hi1, hsubL, hcase⟩ := hwalk
      replace hK : ∀ k ∈ L1, K k nx H := fun k hk => hK k (hsubL k hk)
      clear hi h hsubL T D L m
      obtain ⟨m, hm1⟩ : ∃ m, m = m1 := ⟨_, rfl⟩
      obtain ⟨D, hD1⟩ : ∃ D, D = D1 := ⟨_, rfl⟩
      obtain ⟨L, hL1⟩ : ∃ L, L = L1 := ⟨_, rfl⟩
      obtain ⟨T, hT1⟩ : ∃ T, T = T1 := ⟨_, rfl⟩
      rw [← hm1, ← hD1, ← hL1, ← hT1] at hcase
      rw [← hD1, ← hL1, ← hT1] at hi1
      rw [← hL1] at hK
      clear hm1 hD1 hL1 hT1 m1 D1 L1 T1
      have hi := hi1
      clear hi1
      have hrd : ∀ t, (t ∈ opTs o ∨ gdst ops o = some t) → tm t = T t := fun t ht => hi.reads hr ho hall ht
      rcases hcase with ⟨hD, h⟩ | ⟨hL, hfr, h⟩
      · -- one that waits comes up
        obtain ⟨o', ho', hp⟩ := hi.pend i hD hun
        rw [ho] at ho'
        cases ho'
        obtain ⟨p2, val, p3, p4⟩ := hp
        have hds : DStep P W0 ops tm n H nx o val H nx := by
          refine ⟨p2, ?_⟩
          rw [wantsT_congr (tm' := T) (fun d hd => hrd d (.inr hd)), evR_congr (tm' := T) (fun t ht => hrd t (.inl ht))]
          rcases p4 with ⟨q1, q2⟩ | ⟨q1, q2, _⟩
          · exact .inl ⟨q1, q2, rfl, rfl⟩
          · exact .inr ⟨q1, .inl ⟨.none, q2, rfl, rfl⟩⟩
        refine hds.wp hs ho ?_
        intro C' v' w' hs' hS'
        refine ih (listed.setIfInBounds i true) (tmPut tm o.dst val) m D L T H nx C' _ w' ⟨by simp [hi.size], hdown', ?_, hi.all, hi.disj, hi.topo, hi.nd, hi.lt, ?_, ?_, fun p hp ha => getD_set_true (hi.actl p hp ha)⟩ hcount hs' (hS.trans hS') ((put_defers _ _ _).trans hdf) hK h
        · intro j hj
          rw [getD_set_ne false (hi.disj i hD j hj)]
          exact hi.unl j hj
        · intro p hp hpu
          by_cases e : i = p
          · subst e
            rw [getD_set_self hlts] at hpu
            cases hpu
          · rw [getD_set_ne false e] at hpu
            exact hi.pend p hp hpu
        · intro t ht
          by_cases hdt : o.dst = some t
          · simp only [tmPut, hdt, if_true]
            exact (p3 t hdt).symm
          · have hb : tm t = T t := hi.eqv t fun p op hop hp hpu => by
              by_cases e : i = p
              · subst e
                rw [ho] at hop
                cases hop
                exact hdt
              · exact ht p op hop hp (by rw [getD_set_ne false e]; exact hpu)
            rw [← hb]
            cases hod : o.dst with
            | none => rfl
            | some d =>
              have : t ≠ d := fun e => hdt (by rw [hod, e])
              simp only [tmPut, this, if_false]
      · -- one that acts
        obtain ⟨o', ho', hd, hE, h⟩ := h
        rw [ho] at ho'
        cases ho'
        have hdn := dstOk_spec hd
        have hmE : ∀ j ∈ L.erase i, j ∈ L := fun j hj => List.mem_of_mem_erase hj
        have hl : ∀ j ∈ L.erase i, i ≠ j ∧ depD ops i j = false := fun j hj => ⟨fun e => by subst e; exact absurd hj (fun hx => (hi.nd.mem_erase_iff.1 hx).1 rfl), front_iff.1 hfr j hj⟩
        have hnodep : ∀ p ∈ D, listed.getD p false = false → depT ops i p = false := by
          intro p hp hpu
          cases hx : depT ops i p with
          | false => rfl
          | true =>
            have := depT_listed hi.down ho hall hx
            rw [hpu] at this
            cases this
        have hnext : ∀ (v : Value) (H' : Heap) (nx' : Nat) (C' : Corr) (v' : Value) (w' : World), ((H' = H ∧ nx' = nx) ∨ ∀ k ∈ L.erase i, K k nx' H') → OpsQ P W0 ops acts K m (L.erase i) ⟨tmPut T o.dst v, n, H', nx'⟩ Q' → SRel W0 C' ⟨tmPut tm o.dst v, n, H', nx'⟩ (a.put o.dst v') w' → Stp nx H C nx' H' C' → wpAnyIn (rf ρ) 0 P .any ops Q fuel (listed.setIfInBounds i true) (a.put o.dst v') w' := by
          intro v H' nx' C' v' w' hK' h' hs' hS'
          refine ih (listed.setIfInBounds i true) (tmPut tm o.dst v) m (i :: D) (L.erase i) (tmPut T o.dst v) H' nx' C' _ w' ⟨by simp [hi.size], hdown', ?_, ?_, ?_, ?_, hi.nd.erase i, fun j hj => hi.lt j (hmE j hj), ?_, ?_, ?_⟩ hcount hs' (hS.trans hS') ((put_defers _ _ _).trans hdf) (by rcases hK' with ⟨rfl, rfl⟩ | hK'; exact fun k hk => hK k (hmE k hk); exact hK') h'
          · intro j hj
            rw [getD_set_ne false (hl j hj).1]
            exact hi.unl j (hmE j hj)
          · intro j hj
            rcases hi.all j hj with h | h
            · exact .inl (List.mem_cons_of_mem _ h)
            · by_cases e : j = i
              · exact .inl (e ▸ List.mem_cons_self)
              · exact .inr ((List.mem_erase_of_ne e).2 h)
          · intro p hp j hj
            rcases List.mem_cons.1 hp with rfl | hp
            · exact (hl j hj).1
            · exact hi.disj p hp j (hmE j hj)
          · intro p hp j hj
            rcases List.mem_cons.1 hp with rfl | hp
            · exact (hl j hj).2
            · exact hi.topo p hp j (hmE j hj)
          · intro p hp hpu
            rcases List.mem_cons.1 hp with rfl | hp
            · rw [getD_set_self hlts] at hpu
              cases hpu
            · have hne : i ≠ p := fun e => hi.disj p hp i hL e.symm
              rw [getD_set_ne false hne] at hpu
              obtain ⟨op, hop, hpe⟩ := hi.pend p hp hpu
              refine ⟨op, hop, pend_putQ hr hone ho hop (Ne.symm hne) (hi.topo p hp i hL) (fun _ => hnodep p hp hpu) v hmE (fun j hj _ hji => (List.mem_erase_of_ne hji).2 hj) hL hpe ?_⟩
              exact .inr ⟨hE, hnodep p hp hpu, hK'⟩
          · intro t ht
            by_cases hdt : o.dst = some t
            · simp only [tmPut, hdt, if_true]
            · have hb : tm t = T t := hi.eqv t fun p op hop hp hpu => ht p op hop (List.mem_cons_of_mem _ hp) (by
                have hne : i ≠ p := fun e => hi.disj p hp i hL e.symm
                rw [getD_set_ne false hne]; exact hpu)
              cases hod : o.dst with
              | none => exact hb
              | some d =>
                have : t ≠ d := fun e => hdt (by rw [hod, e])
                simp only [tmPut, this, if_false]
                exact hb
          · intro p hp ha
            rcases List.mem_cons.1 hp with rfl | hp
            · exact getD_set_self hlts false
            · exact getD_set_true (hi.actl p hp ha)
        have hwT : wantsT ops tm o = wants ops ⟨T, n, H, nx⟩ o := by
          rw [wantsT_congr (tm' := T) (fun d hd => hrd d (.inr hd))]
          exact wantsT_wants ⟨T, n, H, nx⟩ o
        have hevT : evR (opTs o) tm = evR (opTs o) T := evR_congr (fun t ht => hrd t (.inl ht))
        rcases h with ⟨hw, h⟩ | ⟨hw, ⟨v, e, hop, hKe, h⟩ | ⟨f, args, R, hc, hf2, hcall, h⟩⟩
        · have hds : DStep P W0 ops tm n H nx o undef H nx := ⟨hdn, .inl ⟨hwT.trans hw, rfl, rfl, rfl⟩⟩
          exact hds.wp hs ho fun C' v' w' hs' hS' => hnext undef H nx C' v' w' (.inl ⟨rfl, rfl⟩) h hs' hS'
        · have hds : DStep P W0 ops tm n H nx o v (e.H nx H) (e.nx nx) := ⟨hdn, .inr ⟨hwT.trans hw, .inl ⟨e, by rw [hevT]; exact (aop_evR (st := ⟨T, n, H, nx⟩)).trans hop, rfl, rfl⟩⟩⟩
          exact hds.wp hs ho fun C' v' w' hs' hS' => hnext v _ _ C' v' w' (.inr hKe) h hs' hS'
        · refine callR_wp hs hdn (hwT.trans hw) (by rw [hevT]; exact (calleeE_congr (st := ⟨T, n, H, nx⟩)).trans hc) hf2 hcall ho ?_
          intro v nx' H' C' v' w' hRv hs' hS'
          obtain ⟨hK', h'⟩ := h v nx' H' hRv
          exact hnext v H' nx' C' v' w' (.inr hK') h' hs' hS'
theorem OpsQ.drawn {id : Nat} {st : ASt} {Q : AExit → ASt → Prop} (acts : List Nat) (hm : P.follows .mixedOrders = true) (hs : statOk ops = true) (hr : readsOkW ops acts = true) (perm : List Nat) (hperm : ((List.range ops.size).all perm.contains && perm.all (fun i => decide (i < ops.size)) && decide perm.Nodup) = true) (h0 : ∀ k ∈ perm, K k st.nx st.H) (h : OpsQ P W0 ops acts K perm.length perm st (Q .normal)) : Trip P W0 (.region id ops true) st Q := by
  obtain ⟨b1, b2, _⟩ := statOk_spec hs
  simp only [Bool.and_eq_true, decide_eq_true_eq] at hperm
  obtain ⟨⟨hp1, hp2⟩, hp3⟩ := hperm
  intro ρ C a w hrr hss
  have hs' : SRel W0 C st a w.drew := ⟨hss.tm, hss.sz, hss.rel.drew⟩
  have hfalse : ∀ i, (Array.replicate ops.size false).getD i false = false := fun i => by
    rw [Array.getD_eq_getD_getElem?, Array.getElem?_replicate]; split <;> rfl
  refine wpIn_region_any hm (opsQ_any (P := P) (W0 := W0) (K := K) (n := st.n) (nx0 := st.nx) (H0 := st.H) (C0 := C) (df := a.defers) (Q' := Q .normal) hr b1 b2 (fun T H nx C' a' w' hq hs' hS hdf => ⟨.normal, _, C', rfl, hq, hs', hS, rfl, .of_eq hdf⟩) ops.size (Array.replicate ops.size false) st.tm perm.length [] perm st.tm st.H st.nx C a _ ?_ ?_ hs' (Stp.refl _ _ _) rfl h0 h)
  · refine ⟨by simp, fun i o _ hl => (by rw [hfalse] at hl; cases hl), fun i _ => hfalse i, fun i hi => .inr ?_, fun p hp => (by cases hp), fun p hp => (by cases hp), hp3, fun i hi => (by have := List.all_eq_true.1 hp2 i hi; simpa using this), fun i hi => (by cases hi), fun t _ => rfl, fun p hp => (by cases hp)⟩
    have := List.all_eq_true.1 hp1 i (List.mem_range.2 hi)
    simpa using this
  · have : ((List.range ops.size).filter fun i => !(Array.replicate ops.size false).getD i false) = List.range ops.size := by
      rw [List.filter_eq_self]
      intro i _
      rw [hfalse]; rfl
    rw [this, List.length_range]
theorem OpsQ.nil {m : Nat} {st : ASt} {Q : ASt → Prop} (h : Q st) : OpsQ P W0 ops acts K m [] st Q := by cases m <;> exact h
theorem OpsQ.one {m i : Nat} {l : List Nat} {o : Oper} {st : ASt} {Q : ASt → Prop} (ho : ops[i]? = some o) (hn : acts.contains i = false) (he : effOp o.op = false) (hk : (front ops l i && edgeR ops acts i o l) = true) (h : OpsL P W0 ops [o] st fun s => OpsQ P W0 ops acts K m l s Q) : OpsQ P W0 ops acts K (m + 1) (i :: l) st Q := by
  rw [Bool.and_eq_true] at hk
  obtain ⟨hd, h⟩ := h
  refine .inl ⟨hn, hk.1, o, ho, hd, ?_⟩
  rcases h with ⟨hw, h⟩ | ⟨hw, ⟨v, e, hop, h⟩ | ⟨f, args, R, hc, _⟩⟩
  · exact .inl ⟨hw, h⟩
  · have := effOp_none he hop
    subst this
    exact .inr ⟨hw, v, hop, .inl hk.2, h⟩
  · have := goCall_eff (callee_goCall hc)
    rw [he] at this
    cases this
theorem OpsQ.sp (j : Nat) {m i : Nat} {l : List Nat} {d : Tmp} {op : Op} {type : TypeId} {pos : String} {after : Array Edge} {tm : Nat → Value} {n nx : Nat} {H : Heap} {v : Value} {Q : ASt → Prop} (ho : ops[i]? = some ⟨some d, op, type, pos, after, none⟩) (he : (!acts.contains i && front ops l i && (l.contains j && acts.contains j && depT ops j i)) = true) (hd : d < n) (hK : K j nx H)
    (hop : ∀ H' nx', K j nx' H' → aop P H' nx' (ASt.ev ⟨tm, n, H, nx⟩) ⟨some d, op, type, pos, after, none⟩ = some (v, .none)) (h : OpsQ P W0 ops acts K m l ⟨tmPut tm (some d) v, n, H, nx⟩ Q) : OpsQ P W0 ops acts K (m + 1) (i :: l) ⟨tm, n, H, nx⟩ Q := by
  simp only [Bool.and_eq_true, Bool.not_eq_true'] at he
  exact .inl ⟨he.1.1, he.1.2, _, ho, by simp [dstOk, hd], .inr ⟨rfl, v, hop H nx hK, .inr ⟨j, by simpa using he.2.1.1, he.2.1.2, he.2.2, hop⟩, h⟩⟩
theorem OpsQ.act {m i : Nat} {l : List Nat} {st : ASt} {Q : ASt → Prop} (hw : waitAll ops l (i :: l) = true) (h : ActStep P W0 ops acts (fun nx H => ∀ k ∈ l, K k nx H) i st fun s => OpsQ P W0 ops acts K m l s Q) : OpsQ P W0 ops acts K (m + 1) (i :: l) st Q := by
  refine .inr fun j hj hf => ?_
  by_cases e : j = i
  · subst e
    simp only [List.erase_cons_head]
    exact h
  · have hj2 : j ∈ l := by
      rcases List.mem_cons.1 hj with h | h
      · exact absurd h e
      · exact h
    rw [waitAll_spec hw hj2] at hf
    cases hf
theorem ActStep.conv {K1 K2 : Nat → Heap → Prop} {i : Nat} {st : ASt} {N N' : ASt → Prop} (h : ActStep P W0 ops acts K1 i st N) (hN : ∀ s, N s → N' s ∧ K2 s.nx s.H) : ActStep P W0 ops acts K2 i st N' := by
  obtain ⟨o, ho, hd, he, h⟩ := h
  refine ⟨o, ho, hd, he, ?_⟩
  rcases h with ⟨hw, h⟩ | ⟨hw, ⟨v, e, hop, hk, h⟩ | ⟨f, args, R, hc, hf, hcall, h⟩⟩
  · exact .inl ⟨hw, (hN _ h).1⟩
  · exact .inr ⟨hw, .inl ⟨v, e, hop, (hN _ h).2, (hN _ h).1⟩⟩
  · exact .inr ⟨hw, .inr ⟨f, args, R, hc, hf, hcall, fun v nx' H' hr => ⟨(hN _ (h v nx' H' hr).2).2, (hN _ (h v nx' H' hr).2).1⟩⟩⟩
theorem OpsQ.uni {J : List Nat → ASt → Prop} {L0 : List Nat} {Q : ASt → Prop} (hK : ∀ l st, J l st → ∀ k ∈ l, K k st.nx st.H)
    (hstep : ∀ (l : List Nat) (st : ASt) (j : Nat), (∀ x ∈ l, x ∈ L0) → l.Nodup → J l st → j ∈ l → front ops (l.erase j) j = true → ActStep P W0 ops acts (fun _ _ => True) j st (J (l.erase j))) (hend : ∀ st, J [] st → Q st) :
    ∀ (m : Nat) (l : List Nat) (st : ASt), l.length ≤ m → (∀ x ∈ l, x ∈ L0) → l.Nodup → J l st → OpsQ P W0 ops acts K m l st Q := by
  intro m
  induction m with
  | zero =>
    intro l st hm _ _ hJ
    cases l with
    | nil => exact hend st hJ
    | cons i l => simp at hm
  | succ m ih =>
    intro l st hm hs hn hJ
    cases l with
    | nil => exact hend st hJ
    | cons i l =>
      refine .inr fun j hj hf => ?_
      refine (hstep (i :: l) st j hs hn hJ hj hf).conv fun s hJ' => ⟨ih _ s ?_ (fun x hx => hs x (List.mem_of_mem_erase hx)) (hn.erase j) hJ', fun k hk => hK _ s hJ' k hk⟩
      rw [List.length_erase_of_mem hj]
      simp at hm ⊢
      omega
end
end Go.Am
namespace Go.Am
open Go.RowKit
inductive Co where
  | old | self | next | of | entry | table | final | inn | low | ret | tmp
  | tab (c : Nat) | inn1 (p : Nat) | low1 (p : Nat) | ret1 (p : Nat) | ret2 (p j : Nat)
structure CH where
  nx : Nat
  C : Nat → Co
  H : Heap
def Chg (S : List Co) (a b : CH) : Prop := a.nx ≤ b.nx ∧ ∀ i, i < a.nx → b.C i = a.C i ∧ (a.C i ∉ S → b.H i = a.H i)
theorem Chg.refl {S : List Co} {a : CH} : Chg S a a := ⟨Nat.le_refl _, fun _ _ => ⟨rfl, fun _ => rfl⟩⟩
theorem Chg.mono {S T : List Co} {a b : CH} (h : Chg S a b) (hs : ∀ c, c ∈ S → c ∈ T) : Chg T a b := ⟨h.1, fun i hi => ⟨(h.2 i hi).1, fun hn => (h.2 i hi).2 fun q => hn (hs _ q)⟩⟩
theorem Chg.trans {S : List Co} {a b c : CH} (h : Chg S a b) (k : Chg S b c) : Chg S a c :=
  ⟨Nat.le_trans h.1 k.1, fun i hi => by
    have h1 := h.2 i hi
    have h2 := k.2 i (Nat.lt_of_lt_of_le hi h.1)
    exact ⟨h2.1.trans h1.1, fun hn => (h2.2 (by rw [h1.1]; exact hn)).trans (h1.2 hn)⟩⟩
theorem Chg.same {S : List Co} {a b : CH} (h : Chg S a b) {c : Co} (hc : c ∉ S) {i : Nat} (hi : i < a.nx) (hC : a.C i = c) : b.H i = a.H i := (h.2 i hi).2 (by rw [hC]; exact hc)
theorem Chg.hue {S : List Co} {a b : CH} (h : Chg S a b) {i : Nat} (hi : i < a.nx) : b.C i = a.C i := (h.2 i hi).1
theorem cell_same {H H' : Heap} {a : Addr} {v : Value} (h : H' a.block = H a.block) (hc : cellAt H a v) : cellAt H' a v := by
  unfold cellAt getc at *
  rw [h]
  exact hc
theorem own_same {H H' : Heap} {ob : Option (Nat × Nat)} {el : TypeId} {sz k : Nat} {v : Value} {cs : List Value} (hs : ∀ b t, ob = some (b, t) → H' b = H b) (h : OwnRow H ob el sz v cs k) : OwnRow H' ob el sz v cs k := by
  cases ob with
  | none => exact h
  | some bt =>
    obtain ⟨b, t⟩ := bt
    obtain ⟨h1, h2, rest, h3⟩ := h
    exact ⟨h1, h2, rest, by rw [hs b t rfl]; exact h3⟩
def ObC (c : Co) (σ : CH) (b : Nat) (o : AObj) : Prop := b < σ.nx ∧ σ.C b = c ∧ σ.H b = some o
theorem ObC.keep {S : List Co} {σ τ : CH} {c : Co} {b : Nat} {o : AObj} (h : Chg S σ τ) (hc : c ∉ S) (ho : ObC c σ b o) : ObC c τ b o :=
  ⟨Nat.lt_of_lt_of_le ho.1 h.1, (h.hue ho.1).trans ho.2.1, (h.same hc ho.1 ho.2.1).trans ho.2.2⟩
def IntsC (c : Co) (σ : CH) (v : Value) (l : List Int) : Prop :=
  (∃ k, v = .slice none 0 k ∧ l = []) ∨ ∃ a k, v = .slice (some a) l.length k ∧ ∀ (i : Nat) (h : i < l.length), (a.block < σ.nx ∧ σ.C a.block = c) ∧ cellAt σ.H ⟨a.block, a.off + i, a.spot⟩ (.int .i64 l[i])
theorem IntsC.at {c : Co} {σ : CH} {v : Value} {l : List Int} (h : IntsC c σ v l) : IntsAt σ.H v l := by
  rcases h with h | ⟨a, k, h1, h2⟩
  · exact .inl h
  · exact .inr ⟨a, k, h1, fun i hi => (h2 i hi).2⟩
theorem IntsC.keep {S : List Co} {σ τ : CH} {c : Co} {v : Value} {l : List Int} (h : Chg S σ τ) (hc : c ∉ S) (hl : IntsC c σ v l) : IntsC c τ v l := by
  rcases hl with hl | ⟨a, k, h1, h2⟩
  · exact .inl hl
  · refine .inr ⟨a, k, h1, fun i hi => ?_⟩
    obtain ⟨⟨q1, q2⟩, q3⟩ := h2 i hi
    exact ⟨⟨Nat.lt_of_lt_of_le q1 h.1, (h.hue q1).trans q2⟩, cell_same (h.same hc q1 q2) q3⟩
theorem IntsC.of {nx : Nat} {H : Heap} {v : Value} {l : List Int} (h : IntsAt H v l) (hok : ∀ id o, H id = some o → id < nx) : IntsC .old ⟨nx, fun _ => .old, H⟩ v l := by
  rcases h with h | ⟨a, k, h1, h2⟩
  · exact .inl h
  · refine .inr ⟨a, k, h1, fun i hi => ⟨⟨?_, rfl⟩, h2 i hi⟩⟩
    obtain ⟨o, ho⟩ := getc_some (h2 i hi)
    exact hok _ _ ho
def encBo (b : Bool) : List Value := [.bool b]
theorem encBo_len (b : Bool) : (encBo b).length = 1 := rfl
theorem encBo_one (b : Bool) : (encBo b).all (·.oneCell') = true := rfl
abbrev SV := Option Addr × Nat × Nat
def slV (s : SV) : Value := .slice s.1 s.2.1 s.2.2
def encS (s : SV) : List Value := [slV s]
theorem encS_len (s : SV) : (encS s).length = 1 := rfl
theorem encS_one (s : SV) : (encS s).all (·.oneCell') = true := rfl
def OwnC {α : Type} (enc : α → List Value) (el : TypeId) (c : Co) (σ : CH) (v : Value) (l : List α) : Prop := ∃ ob, OwnOf enc 1 el σ.H ob v l ∧ ∀ b t, ob = some (b, t) → b < σ.nx ∧ σ.C b = c
section
variable {α : Type} {enc : α → List Value} {el : TypeId} {c : Co} {S : List Co} {σ τ : CH} {v : Value} {l : List α}
theorem OwnC.keep (h : Chg S σ τ) (hc : c ∉ S) (ho : OwnC enc el c σ v l) : OwnC enc el c τ v l := by
  obtain ⟨ob, h1, h2⟩ := ho
  refine ⟨ob, own_same (fun b t e => ?_) h1, fun b t e => ?_⟩
  · obtain ⟨q1, q2⟩ := h2 b t e
    exact h.same hc q1 q2
  · obtain ⟨q1, q2⟩ := h2 b t e
    exact ⟨Nat.lt_of_lt_of_le q1 h.1, (h.hue q1).trans q2⟩
theorem OwnC.nil : OwnC enc el c σ (.slice none 0 0) ([] : List α) := ⟨none, ⟨rfl, rfl, rfl⟩, fun _ _ h => by cases h⟩
theorem OwnC.at (hk : ∀ x, (enc x).length = 1) (ho : OwnC enc el c σ v l) : RowsAt enc 1 σ.H v l := by
  obtain ⟨ob, h1, _⟩ := ho
  exact h1.at hk
end
theorem OwnC.ints {el : TypeId} {c : Co} {σ : CH} {v : Value} {l : List Int} (h : OwnC encN el c σ v l) : IntsAt σ.H v l := rows_intsN (h.at encN_len)
theorem rows_bools {H : Heap} {v : Value} {l : List Bool} (h : RowsAt encBo 1 H v l) : BoolsAt H v l := by
  rcases h with h | ⟨a, c, rfl, hc⟩
  · exact .inl h
  · exact .inr ⟨a, c, rfl, fun i hi => ⟨_, by have := hc i hi; simpa [cellAt, encBo] using this, rfl⟩⟩
theorem OwnC.bools {el : TypeId} {c : Co} {σ : CH} {v : Value} {l : List Bool} (h : OwnC encBo el c σ v l) : BoolsAt σ.H v l := rows_bools (h.at encBo_len)
def AllC {α : Type} (R : Nat → CH → Value → α → Prop) (σ : CH) (vs : List SV) (l : List α) : Prop := vs.length = l.length ∧ ∀ i x, l[i]? = some x → ∃ u, vs[i]? = some u ∧ R i σ (slV u) x
def OwnLC {α : Type} (R : Nat → CH → Value → α → Prop) (el : TypeId) (c : Co) (σ : CH) (v : Value) (l : List α) : Prop := ∃ vs, OwnC encS el c σ v vs ∧ AllC R σ vs l
section
variable {α : Type} {R : Nat → CH → Value → α → Prop} {el : TypeId} {c : Co} {S : List Co} {σ τ : CH} {v : Value} {l : List α} {vs : List SV}
theorem AllC.nil : AllC R σ [] ([] : List α) := ⟨rfl, fun i x h => by simp at h⟩
theorem AllC.keep (hR : ∀ i u x, i < l.length → R i σ u x → R i τ u x) (h : AllC R σ vs l) : AllC R τ vs l :=
  ⟨h.1, fun i x hx => by obtain ⟨u, h1, h2⟩ := h.2 i x hx; exact ⟨u, h1, hR _ _ _ (List.getElem?_eq_some_iff.1 hx).1 h2⟩⟩
theorem AllC.push {u : SV} {x : α} (h : AllC R σ vs l) (hx : R l.length σ (slV u) x) : AllC R σ (vs ++ [u]) (l ++ [x]) := by
  refine ⟨by simp [h.1], fun i y hy => ?_⟩
  by_cases hi : i < l.length
  · rw [List.getElem?_append_left hi] at hy
    obtain ⟨w, h1, h2⟩ := h.2 i y hy
    exact ⟨w, by rw [List.getElem?_append_left (by rw [h.1]; exact hi)]; exact h1, h2⟩
  · rw [List.getElem?_append_right (by omega)] at hy
    have : i - l.length = 0 := by
      by_cases e : i - l.length = 0
      · exact e
      · rw [List.getElem?_eq_none (by simp; omega)] at hy; cases hy
    rw [this] at hy
    cases hy
    have hi2 : i = l.length := by omega
    subst hi2
    have hl := h.1
    exact ⟨u, by rw [List.getElem?_append_right (by omega), hl]; simp, hx⟩
theorem OwnLC.nil : OwnLC R el c σ (.slice none 0 0) ([] : List α) := ⟨[], .nil, .nil⟩
theorem OwnLC.keep (h : Chg S σ τ) (hc : c ∉ S) (hR : ∀ i u x, i < l.length → R i σ u x → R i τ u x) (ho : OwnLC R el c σ v l) : OwnLC R el c τ v l := by
  obtain ⟨vs, h1, h2⟩ := ho
  exact ⟨vs, h1.keep h hc, h2.keep hR⟩
theorem OwnLC.at {R' : Heap → Value → α → Prop} (hR : ∀ i u x, R i σ u x → R' σ.H u x) (ho : OwnLC R el c σ v l) : ListAt R' σ.H v l := by
  obtain ⟨vs, h1, h2⟩ := ho
  rcases h1.at encS_len with ⟨k, rfl, rfl⟩ | ⟨a, k, rfl, h3⟩
  · exact .inl ⟨k, rfl, List.eq_nil_of_length_eq_zero h2.1.symm⟩
  · refine .inr ⟨a, k, by rw [h2.1], fun i hi => ?_⟩
    obtain ⟨u, q1, q2⟩ := h2.2 i l[i] (List.getElem?_eq_getElem hi)
    obtain ⟨q3, q4⟩ := List.getElem?_eq_some_iff.1 q1
    have := h3 i q3
    rw [q4] at this
    exact ⟨slV u, by simpa [cellAt, encS] using this, hR _ _ _ q2⟩
end
def PlainC (el : TypeId) (c : Co) (σ : CH) (v : Value) (cs : List Value) : Prop := ∃ b, v = .slice (some ⟨b, 0, none⟩) cs.length cs.length ∧ ObC c σ b (.cells cs 1 none false (some el))
theorem PlainC.keep {el : TypeId} {S : List Co} {σ τ : CH} {c : Co} {v : Value} {cs : List Value} (h : Chg S σ τ) (hc : c ∉ S) (ho : PlainC el c σ v cs) : PlainC el c τ v cs := by
  obtain ⟨b, h1, h2⟩ := ho
  exact ⟨b, h1, h2.keep h hc⟩
theorem ObC.cell {c : Co} {σ : CH} {b e : Nat} {cs : List Value} {tg : Option Nat} {ro : Bool} {q : Option TypeId} {k : Nat} {v : Value} (h : ObC c σ b (.cells cs e tg ro q)) (hk : cs[k]? = some v) : cellAt σ.H ⟨b, k, tg⟩ v := cell_of h.2.2 hk
theorem PlainC.ints {el : TypeId} {c : Co} {σ : CH} {v : Value} {l : List Int} (h : PlainC el c σ v (l.map (.int .i64 ·))) : IntsAt σ.H v l := by
  obtain ⟨b, h1, h2⟩ := h
  rw [List.length_map] at h1
  refine .inr ⟨_, _, h1, fun i hi => ?_⟩
  rw [Nat.zero_add]
  exact h2.cell (by rw [List.getElem?_map, List.getElem?_eq_getElem hi]; rfl)
attribute [local irreducible] aop OpsL Trip blockExit OpsD OpsK OpsR OpsQ
section
variable {P : Program} {W0 : World} {σ : CH} {n : Nat} {ops : Array Oper} {l : List Oper} {tm : Nat → Value} {QQ : ASt → Prop} {d : Tmp} {type : TypeId} {pos : String} {after : Array Edge}
theorem OpsL.litC {α : Type} {enc : α → List Value} {z : α} {a : Value} {el st : TypeId} {x : Operand} (he : enc z = [a]) (hx : ASt.ev ⟨tm, n, σ.H, σ.nx⟩ x = some a)
    (hb : aBuildSlice P σ.nx st 1 [(0, a)] = some (.slice (some ⟨σ.nx, 0, none⟩) 1 1, .new (.cells [a] 1 none false (some el)))) (hd : d < n)
    (h : ∀ τ, Chg [] σ τ → RowsAt enc 1 τ.H (.slice (some ⟨σ.nx, 0, none⟩) 1 1) [z] → OpsL P W0 ops l ⟨tmPut tm (some d) (.slice (some ⟨σ.nx, 0, none⟩) 1 1), n, τ.H, τ.nx⟩ QQ) :
    OpsL P W0 ops (⟨some d, .buildSlice st 1 #[(0, x)], type, pos, after, none⟩ :: l) ⟨tm, n, σ.H, σ.nx⟩ QQ := by
  refine OpsL.new hd (aop_buildSlice (l := [(0, a)]) (by simp [evParts, hx]) hb) ?_
  refine h ⟨σ.nx + 1, fun i => if i < σ.nx then σ.C i else .tmp, σ.H.put σ.nx (.cells [a] 1 none false (some el))⟩ ⟨Nat.le_succ _, fun i hi => ⟨if_pos hi, fun _ => Heap.put_ne (by omega)⟩⟩ (.inr ⟨⟨σ.nx, 0, none⟩, 1, rfl, fun i hi => ?_⟩)
  have hi0 : i = 0 := by simpa using hi
  subst hi0
  show getc (σ.H.put σ.nx _) ⟨σ.nx, 0 + 0 * 1, none⟩ 1 = some (enc z)
  rw [he]
  exact getc_own (by show 0 + 0 * 1 + 1 ≤ 1; decide)
theorem OpsL.appC {α : Type} {enc : α → List Value} {bytes : Nat} {z : List Value} {el st xt : TypeId} {c : Co} {v u : Value} {zs us : List α} {x y : Operand} (hk : ∀ x, (enc x).length = 1) (h1 : ∀ x, (enc x).all (·.oneCell') = true) (h : OwnC enc el c σ v zs) (hu : RowsAt enc 1 σ.H u us)
    (hst : P.underlying st = some (.slice el)) (hxt : P.underlying xt = some (.slice el)) (hsz : szOf P el = some 1) (hby : bytesOfT P el = some bytes) (hz : zeroOf P el = some z) (hzl : z.length = 1) (hle : zs.length + us.length ≤ 1000000) (hbl : bytes ≤ 1000)
    (hx : ASt.ev ⟨tm, n, σ.H, σ.nx⟩ x = some v) (hy : ASt.ev ⟨tm, n, σ.H, σ.nx⟩ y = some u) (hd : d < n)
    (hc : ∀ v' τ, OwnC enc el c τ v' (zs ++ us) → Chg [c] σ τ → OpsL P W0 ops l ⟨tmPut tm (some d) v', n, τ.H, τ.nx⟩ QQ) :
    OpsL P W0 ops (⟨some d, .call ⟨.builtin .append, #[x, y], #[st, xt]⟩, type, pos, after, none⟩ :: l) ⟨tm, n, σ.H, σ.nx⟩ QQ := by
  obtain ⟨ob, ho, hob⟩ := h
  refine OpsL.appendO hk h1 (by decide) hd ho hu hx hy (fun b t e => (hob b t e).1) hst hxt hsz hby hz hzl hle hbl ?_
  intro v' nx' H' ob' hA
  refine hc v' ⟨nx', fun i => if i < σ.nx then σ.C i else c, H'⟩ ⟨ob', hA.own, fun b t e => ?_⟩ ⟨hA.le, fun i hi => ⟨if_pos hi, fun hn => hA.same i hi fun b t e hib => ?_⟩⟩
  · obtain ⟨q1, q2⟩ := hA.blk b t e
    refine ⟨q1, ?_⟩
    rcases q2 with rfl | ⟨t', e'⟩
    · exact if_neg (Nat.lt_irrefl _)
    · obtain ⟨q3, q4⟩ := hob _ _ e'
      show (if b < σ.nx then σ.C b else c) = c
      rw [if_pos q3, q4]
  · subst hib
    rw [(hob _ _ e).2] at hn
    exact hn (List.mem_singleton.2 rfl)
theorem OpsL.setC {c : Co} {b e k : Nat} {cs cs' : List Value} {tg : Option Nat} {q : Option TypeId} {t : TypeId} {x y : Operand} {v : Value} {p : Addr} (ho : ObC c σ b (.cells cs e tg false q)) (hk : k < cs.length) (hcs : cs.set k v = cs')
    (hz : szOf P t = some 1) (hv : v.cells = #[v]) (h1 : v.oneCell' = true)
    (hx : ASt.ev ⟨tm, n, σ.H, σ.nx⟩ x = some (.pointer (some p))) (hy : ASt.ev ⟨tm, n, σ.H, σ.nx⟩ y = some v) (hp : p = ⟨b, k, tg⟩)
    (h : ∀ τ, ObC c τ b (.cells cs' e tg false q) → Chg [c] σ τ → τ.nx = σ.nx → OpsL P W0 ops l ⟨tm, n, τ.H, τ.nx⟩ QQ) :
    OpsL P W0 ops (⟨none, .store t x y, type, pos, after, none⟩ :: l) ⟨tm, n, σ.H, σ.nx⟩ QQ := by
  subst hp
  refine OpsL.storeAt k hx hy hz hv h1 ho.2.2 rfl hk hcs ?_
  refine h ⟨σ.nx, σ.C, σ.H.put b (.cells cs' e tg false q)⟩ ⟨ho.1, ho.2.1, Heap.put_eq⟩ ⟨Nat.le_refl _, fun i hi => ⟨rfl, fun hn => Heap.put_ne fun e => ?_⟩⟩ rfl
  subst e
  rw [ho.2.1] at hn
  exact hn (List.mem_singleton.2 rfl)
theorem OpsL.newC (c : Co) {o : AObj} {op : Op} {v : Value} (hop : aop P σ.H σ.nx (ASt.ev ⟨tm, n, σ.H, σ.nx⟩) ⟨some d, op, type, pos, after, none⟩ = some (v, .new o)) (hd : d < n)
    (h : ∀ τ, ObC c τ σ.nx o → Chg [] σ τ → OpsL P W0 ops l ⟨tmPut tm (some d) v, n, τ.H, τ.nx⟩ QQ) :
    OpsL P W0 ops (⟨some d, op, type, pos, after, none⟩ :: l) ⟨tm, n, σ.H, σ.nx⟩ QQ := by
  refine OpsL.new hd hop ?_
  exact h ⟨σ.nx + 1, fun i => if i < σ.nx then σ.C i else c, σ.H.put σ.nx o⟩ ⟨Nat.lt_succ_self _, if_neg (Nat.lt_irrefl _), Heap.put_eq⟩ ⟨Nat.le_succ _, fun i hi => ⟨if_pos hi, fun _ => Heap.put_ne (by omega)⟩⟩
end
end Go.Am
namespace Go.Am
open Go.RowKit
def getF (ns : List Int) (j : Nat) (m : Int) : Int := if (ns.length : Int) < j then (j : Int) % m else (ns.getD (j - 1) 0) % m
theorem getF_bd (ns : List Int) (j : Nat) {m : Int} (h : 0 < m) : 0 ≤ getF ns j m ∧ getF ns j m < m := by
  unfold getF
  split
  · exact ⟨Int.emod_nonneg _ (by omega), Int.emod_lt_of_pos _ h⟩
  · exact ⟨Int.emod_nonneg _ (by omega), Int.emod_lt_of_pos _ h⟩
theorem tmod_lt0 (a n : Int) (h0 : 0 < n) (h : a.tmod n < 0) : a.tmod n + n = a % n := by
  have e : a % n = _ := @Int.emod_eq_tmod a n
  have h3 := Int.emod_nonneg a (by omega : n ≠ 0)
  split at e <;> omega
theorem tmod_ge0 (a n : Int) (h0 : 0 < n) (h : ¬ a.tmod n < 0) : a.tmod n = a % n := by
  have h1 := Int.tmod_lt_of_pos a h0
  have hd := Int.mul_tdiv_add_tmod a n
  have : a % n = (n * a.tdiv n + a.tmod n) % n := by rw [hd]
  rw [this, Int.mul_add_emod_self_left, Int.emod_eq_of_lt (by omega) h1]
section
variable {P : Program} {H : Heap} {nx : Nat} {ev : Operand → Option Value} {dst : Option Tmp} {type : TypeId} {pos : String} {after : Array Edge} {guard : Option (Nat × Bool)}
theorem aop_remN {t u : TypeId} {x y : Operand} {a b : Int} (hx : ev x = some (.int .i64 a)) (hy : ev y = some (.int .i64 b)) (h0 : 0 ≤ a) (hb : 0 < b) :
    aop P H nx ev ⟨dst, .binOp .rem t x y u, type, pos, after, guard⟩ = some (.int .i64 (a % b), .none) := by
  have e : a.tmod b = a % b := Int.tmod_eq_emod_of_nonneg h0
  have hb0 : ¬ b = 0 := by omega
  simp [aop, hx, hy, aBin, intArith, hb0, e]
theorem aop_nilCheck {x : Operand} {a : Addr} (hx : ev x = some (.pointer (some a))) : aop P H nx ev ⟨dst, .nilCheck x, type, pos, after, guard⟩ = some (.pointer (some a), .none) := by simp [aop, hx]
theorem aop_quoT {t u : TypeId} {x y : Operand} {a b : Int} (hx : ev x = some (.int .i64 a)) (hy : ev y = some (.int .i64 b)) (hb : 0 < b) (h0 : -9223372036854775808 ≤ a) (h1 : a ≤ 9223372036854775807) :
    aop P H nx ev ⟨dst, .binOp .quo t x y u, type, pos, after, guard⟩ = some (.int .i64 (a.tdiv b), .none) := by
  have hb0 : ¬ b = 0 := by omega
  have e : -9223372036854775808 ≤ a.tdiv b ∧ a.tdiv b ≤ 9223372036854775807 := by
    rcases Int.le_total 0 a with h | h
    · have h2 := Int.tdiv_le_self (b := b) (a := a) h
      have h3 := Int.tdiv_nonneg h (show 0 ≤ b by omega)
      omega
    · obtain ⟨c, rfl⟩ : ∃ c : Int, a = -c := ⟨-a, by omega⟩
      have hc : 0 ≤ c := by omega
      rw [Int.neg_tdiv]
      have h2 := Int.tdiv_le_self (b := b) (a := c) hc
      have h3 := Int.tdiv_nonneg hc (show 0 ≤ b by omega)
      omega
  have w : IntKind.i64.wrap (a.tdiv b) = a.tdiv b := by rw [wrap_i64]; omega
  simp [aop, hx, hy, aBin, intArith, hb0, w]
end
end Go.Am
namespace Go.Proofs.Ytooakbmehcchnaa
open Go.Am Go.RowKit
attribute [local irreducible] aop OpsL Trip blockExit OpsD OpsK OpsR OpsQ
theorem entersWithinN : Am.Enters Try.prog 15 := ⟨Try.f15, Try.func15, by kernel_rfl, by kernel_rfl⟩
theorem withinC (W0 : World) {nx : Nat} {H : Heap} (a m : Int) (h0 : 0 < m) (h1 : m ≤ 4611686018427387904) : ACalls Try.prog W0 15 [.int .i64 a, .int .i64 m] nx H fun v nx' H' => v = .int .i64 (a % m) ∧ nx' = nx ∧ H' = H := by
  refine ACalls.by_trip (fn := Try.f15) (c := _) Try.func15 rfl (fun tm n hn0 htm => ?_)
  have e0 : tm 0 = .int .i64 a := htm 0
  have e1 : tm 1 = .int .i64 m := htm 1
  clear htm
  replace hn0 : n = 15 := hn0
  have g1 := Int.tmod_lt_of_pos a h0
  have g2 := Int.lt_tmod_of_pos a h0
  have k1 := tmod_lt0 a m h0
  have k2 := tmod_ge0 a m h0
  repeat (first | (refine OpsL.q (by first | exact omv | exact oasg) ?_) | (refine Trip.seq ?_) | (refine Trip.ops ?_) | (refine OpsL.nil ?_; (change Trip _ _ _ _ _)))
  refine OpsL.p (by subst_vars; decide) (aop_rem (by (first | (simp only [ASt.ev, tmPut, ↓reduceIte, Nat.reduceEqDiff, *]; rfl))) (by (first | (simp only [ASt.ev, tmPut, ↓reduceIte, Nat.reduceEqDiff, *]; rfl))) (by omega)) ?_
  generalize a.tmod m = z at *
  by_cases hz : z < 0
  · replace k1 := k1 hz
    clear k2
    repeat (first | (refine OpsL.q (by first | exact omv | exact oasg) ?_) | (refine Trip.seq ?_) | (refine Trip.ops ?_) | (refine OpsL.nil ?_; (change Trip _ _ _ _ _)))
    refine OpsL.lssT ?_ (c := hz)
    repeat (first | (refine OpsL.nil ?_; (change Trip _ _ _ _ _)))
    refine Trip.ifT ?_
    repeat (first | (refine OpsL.q (by first | exact omv | exact oasg | exact oadd) ?_) | (refine Trip.seq ?_) | (refine Trip.ops ?_) | (refine Trip.ret ?_; (dsimp only)) | (refine OpsL.nil ?_; (change Trip _ _ _ _ _)))
    exact ⟨.inr rfl, _, res_tmp, by rw [← k1]; rfl, rfl, rfl⟩
  · replace k2 := k2 hz
    clear k1
    repeat (first | (refine OpsL.q (by first | exact omv | exact oasg) ?_) | (refine Trip.seq ?_) | (refine Trip.ops ?_) | (refine OpsL.nil ?_; (change Trip _ _ _ _ _)))
    refine OpsL.lssF ?_ (c := hz)
    repeat (first | (refine OpsL.nil ?_; (change Trip _ _ _ _ _)))
    refine Trip.ifF ?_
    repeat (first | (refine OpsL.q (by first | exact omv | exact oasg) ?_) | (refine Trip.seq ?_) | (refine Trip.ops ?_) | (refine Trip.skip ?_; (change Trip _ _ _ _ _)) | (refine Trip.ret ?_; (dsimp only)) | (refine OpsL.nil ?_; (change Trip _ _ _ _ _)))
    exact ⟨.inr rfl, _, res_tmp, by rw [← k2]; rfl, rfl, rfl⟩
def nextO (nv : Value) (cnt : Nat) : AObj := .cells [nv, .int .i64 cnt] 0 none false (some 66)
theorem entersGet : Am.Enters Try.prog 36 := ⟨Try.f36, Try.func36, by kernel_rfl, by kernel_rfl⟩
theorem getC (W0 : World) {σ : CH} {B : Nat} {nv : Value} {ns : List Int} {cnt : Nat} {m : Int} (hB : ObC .next σ B (nextO nv cnt)) (hn : IntsC .old σ nv ns) (h0 : 0 < m) (h1 : m ≤ 1000000) (hc : cnt ≤ 1000000) :
    ACalls Try.prog W0 36 [.pointer (some ⟨B, 0, none⟩), .int .i64 m] σ.nx σ.H fun v nx' H' => v = .int .i64 (getF ns (cnt + 1) m) ∧ ∃ τ : CH, nx' = τ.nx ∧ H' = τ.H ∧ Chg [.next] σ τ ∧ ObC .next τ B (nextO nv (cnt + 1)) := by
  refine ACalls.by_trip (fn := Try.f36) (c := _) Try.func36 rfl (fun tm n hn0 htm => ?_)
  have e0 : tm 0 = .pointer (some ⟨B, 0, none⟩) := htm 0
  have e1 : tm 1 = .int .i64 m := htm 1
  clear htm
  replace hn0 : n = 41 := hn0
  obtain ⟨na, nc, rfl⟩ := hn.at.slice
  have g1 : cellAt σ.H ⟨B, 1, none⟩ (.int .i64 cnt) := hB.cell rfl
  repeat (first | (refine OpsL.q (by first | exact omv | exact oasg | exact oadd | exact ofa | exact old | exact aop_nilCheck (by (first | (simp only [ASt.ev, tmPut, ↓reduceIte, Nat.reduceEqDiff, *]; rfl)))) ?_) | (refine Trip.seq ?_) | (refine Trip.ops ?_) | (refine OpsL.nil ?_; (change Trip _ _ _ _ _)))
  refine OpsL.setC (k := 1) (v := .int .i64 (cnt + 1 : Nat)) hB (by simp) rfl (by exact rfl) rfl rfl (by (first | (simp only [ASt.ev, tmPut, ↓reduceIte, Nat.reduceEqDiff, *]; rfl))) (by (first | (simp only [ASt.ev, tmPut, ↓reduceIte, Nat.reduceEqDiff, *]; rfl))) rfl ?_
  intro τ hB' hτ hnx
  clear g1
  have g0 : cellAt τ.H ⟨B, 0, none⟩ (.slice na ns.length nc) := hB'.cell rfl
  have g1 : cellAt τ.H ⟨B, 1, none⟩ (.int .i64 (cnt + 1 : Nat)) := hB'.cell rfl
  have hn' := (hn.keep hτ (by simp)).at
  (dsimp only)
  repeat (first | (refine Trip.seq ?_) | (refine OpsL.nil ?_; (change Trip _ _ _ _ _)))
  refine Trip.mono (Q := fun e st => e = .normal ∧ ∃ tm' : Nat → Value, st = ⟨tm', n, τ.H, τ.nx⟩ ∧ tm' 0 = .pointer (some ⟨B, 0, none⟩) ∧ tm' 1 = .int .i64 m ∧ tm' 21 = .bool (decide ((ns.length : Int) < (cnt + 1 : Nat)))) ?_ ?_
  · refine OpsR.drawnW [] (K := fun _ _ => True) mixed13 (by kernel_rfl) (by kernel_rfl) [0, 1, 2, 3, 4, 5, 6, 7, 8, 9] (by kernel_rfl) trivial ?_
    refine OpsR.one rfl rfl rfl (by kernel_rfl) ?_
    repeat (first | (refine OpsL.q (by exact omv) ?_) | (refine OpsL.nil ?_; (skip)))
    refine OpsR.one rfl rfl rfl (by kernel_rfl) ?_
    repeat (first | (refine OpsL.q (by exact aop_nilCheck (by (first | (simp only [ASt.ev, tmPut, ↓reduceIte, Nat.reduceEqDiff, *]; rfl)))) ?_) | (refine OpsL.nil ?_; (skip)))
    refine OpsR.one rfl rfl rfl (by kernel_rfl) ?_
    repeat (first | (refine OpsL.q (by exact ofa) ?_) | (refine OpsL.nil ?_; (dsimp only)))
    refine OpsR.one rfl rfl rfl (by kernel_rfl) ?_
    repeat (first | (refine OpsL.q (by exact old) ?_) | (refine OpsL.nil ?_; (skip)))
    refine OpsR.one rfl rfl rfl (by kernel_rfl) ?_
    repeat (first | (refine OpsL.q (by exact omv) ?_) | (refine OpsL.nil ?_; (skip)))
    refine OpsR.one rfl rfl rfl (by kernel_rfl) ?_
    repeat (first | (refine OpsL.q (by exact aop_nilCheck (by (first | (simp only [ASt.ev, tmPut, ↓reduceIte, Nat.reduceEqDiff, *]; rfl)))) ?_) | (refine OpsL.nil ?_; (skip)))
    refine OpsR.one rfl rfl rfl (by kernel_rfl) ?_
    repeat (first | (refine OpsL.q (by exact ofa) ?_) | (refine OpsL.nil ?_; (dsimp only)))
    refine OpsR.one rfl rfl rfl (by kernel_rfl) ?_
    repeat (first | (refine OpsL.q (by exact old) ?_) | (refine OpsL.nil ?_; (skip)))
    refine OpsR.one rfl rfl rfl (by kernel_rfl) ?_
    repeat (first | (refine OpsL.q (by exact olen) ?_) | (refine OpsL.nil ?_; (skip)))
    refine OpsR.one rfl rfl rfl (by kernel_rfl) ?_
    repeat (first | (refine OpsL.q (by exact ogtr) ?_) | (refine OpsL.nil ?_; (skip)))
    refine OpsR.nil ?_
    exact ⟨rfl, _, rfl, by simp [tmPut, *], by simp [tmPut, *], by simp [tmPut, *]⟩
  clear e0 e1
  rintro e st ⟨rfl, tm', rfl, e0, e1, e21⟩
  (change Trip _ _ _ _ _)
  by_cases hz : (ns.length : Int) < (cnt + 1 : Nat)
  · rw [decide_eq_true hz] at e21
    repeat fail
    refine Trip.ifT ?_
    repeat (first | (refine OpsL.q (by first | exact omv | exact ofa | exact old | exact aop_nilCheck (by (first | (simp only [ASt.ev, tmPut, ↓reduceIte, Nat.reduceEqDiff, *]; rfl)))) ?_) | (refine Trip.seq ?_) | (refine Trip.ops ?_))
    refine OpsL.p (by subst_vars; decide) (aop_remN (by (first | (simp only [ASt.ev, tmPut, ↓reduceIte, Nat.reduceEqDiff, *]; rfl))) (by (first | (simp only [ASt.ev, tmPut, ↓reduceIte, Nat.reduceEqDiff, *]; rfl))) (by omega) (by omega)) ?_
    repeat (first | (refine OpsL.q (by exact oasg) ?_) | (refine Trip.ret ?_; (dsimp only)) | (refine OpsL.nil ?_; (change Trip _ _ _ _ _)))
    exact ⟨.inr rfl, _, res_tmp, by unfold getF; rw [if_pos hz]; rfl, τ, rfl, rfl, hτ, hB'⟩
  · rw [decide_eq_false hz] at e21
    have hj : (((cnt + 1 : Nat) : Int) - 1).toNat = cnt := by omega
    obtain ⟨p, rfl, hc⟩ := hn'.atI (j := ((cnt + 1 : Nat) : Int) - 1) (by omega) (by omega)
    rw [hj] at hc
    repeat fail
    refine Trip.ifF ?_
    repeat (first | (refine Trip.seq ?_) | (refine Trip.skip ?_; (change Trip _ _ _ _ _)))
    refine OpsR.drawnW [12] (K := fun _ _ => True) mixed13 (by kernel_rfl) (by kernel_rfl) [0, 1, 2, 3, 4, 5, 6, 7, 8, 9, 10, 11, 12, 13] (by kernel_rfl) trivial ?_
    refine OpsR.one rfl rfl rfl (by kernel_rfl) ?_
    repeat (first | (refine OpsL.q (by exact omv) ?_) | (refine OpsL.nil ?_; (dsimp only)))
    refine OpsR.one rfl rfl rfl (by kernel_rfl) ?_
    repeat (first | (refine OpsL.q (by exact aop_nilCheck (by (first | (simp only [ASt.ev, tmPut, ↓reduceIte, Nat.reduceEqDiff, *]; rfl)))) ?_) | (refine OpsL.nil ?_; (skip)))
    refine OpsR.one rfl rfl rfl (by kernel_rfl) ?_
    repeat (first | (refine OpsL.q (by exact ofa) ?_) | (refine OpsL.nil ?_; (dsimp only)))
    refine OpsR.one rfl rfl rfl (by kernel_rfl) ?_
    repeat (first | (refine OpsL.q (by exact old) ?_) | (refine OpsL.nil ?_; (skip)))
    refine OpsR.one rfl rfl rfl (by kernel_rfl) ?_
    repeat (first | (refine OpsL.q (by exact omv) ?_) | (refine OpsL.nil ?_; (skip)))
    refine OpsR.one rfl rfl rfl (by kernel_rfl) ?_
    repeat (first | (refine OpsL.q (by exact aop_nilCheck (by (first | (simp only [ASt.ev, tmPut, ↓reduceIte, Nat.reduceEqDiff, *]; rfl)))) ?_) | (refine OpsL.nil ?_; (skip)))
    refine OpsR.one rfl rfl rfl (by kernel_rfl) ?_
    repeat (first | (refine OpsL.q (by exact ofa) ?_) | (refine OpsL.nil ?_; (dsimp only)))
    refine OpsR.one rfl rfl rfl (by kernel_rfl) ?_
    repeat (first | (refine OpsL.q (by exact old) ?_) | (refine OpsL.nil ?_; (skip)))
    refine OpsR.one rfl rfl rfl (by kernel_rfl) ?_
    repeat (first | (refine OpsL.q (by exact osub) ?_) | (refine OpsL.nil ?_; (skip)))
    refine OpsR.one rfl rfl rfl (by kernel_rfl) ?_
    refine OpsL.p (by subst_vars; decide) (aop_indexAddr (by (first | (simp only [ASt.ev, tmPut, ↓reduceIte, Nat.reduceEqDiff, *]; rfl))) (by (first | (simp only [ASt.ev, tmPut, ↓reduceIte, Nat.reduceEqDiff, *]; rfl))) (by exact rfl) (by exact rfl) (by omega) (by omega)) ?_
    rw [hj]
    refine OpsL.nil ?_
    refine OpsR.one rfl rfl rfl (by kernel_rfl) ?_
    repeat (first | (refine OpsL.q (by exact old) ?_) | (refine OpsL.nil ?_; (dsimp only)))
    refine OpsR.one rfl rfl rfl (by kernel_rfl) ?_
    repeat (first | (refine OpsL.q (by exact omv) ?_) | (refine OpsL.nil ?_; (skip)))
    refine OpsR.act (by kernel_rfl) (ActStep.walk rfl rfl ?_)
    refine OpsL.c2 (hf := entersWithinN) (hc := (withinC W0 _ _ (by omega) (by omega))) (h := ?_)
    rintro v1 nx1 H1 ⟨rfl, rfl, rfl⟩
    refine OpsL.nil ⟨trivial, ?_⟩
    refine OpsR.one rfl rfl rfl (by kernel_rfl) ?_
    repeat (first | (refine OpsL.q (by exact oasg) ?_) | (refine OpsL.nil ?_; (skip)))
    refine OpsR.nil ?_
    (change Trip _ _ _ _ _)
    repeat (first | (refine Trip.ret ?_; (dsimp only)))
    exact ⟨.inr rfl, _, res_tmp, by unfold getF; rw [if_neg hz]; rfl, τ, rfl, rfl, hτ, hB'⟩
end Go.Proofs.Ytooakbmehcchnaa
namespace Go.Am
open Go.RowKit
def tabF (o : List Int) (c : Int) : List Int := ((List.range o.length).filter fun p => decide (o.getD p 0 = c)).map fun (p : Nat) => (p : Int)
theorem getD_snoc_lt {α : Type} {l : List α} {x d : α} {i : Nat} (h : i < l.length) : (l ++ [x]).getD i d = l.getD i d := by
  rw [List.getD_eq_getElem?_getD, List.getD_eq_getElem?_getD, List.getElem?_append_left h]
theorem getD_snoc_eq {α : Type} {l : List α} {x d : α} : (l ++ [x]).getD l.length d = x := by
  rw [List.getD_eq_getElem?_getD, List.getElem?_append_right (Nat.le_refl _)]
  simp
theorem tabF_snoc (o : List Int) (x c : Int) : tabF (o ++ [x]) c = if x = c then tabF o c ++ [(o.length : Int)] else tabF o c := by
  have h1 : ((List.range o.length).filter fun p => decide ((o ++ [x]).getD p 0 = c)) = (List.range o.length).filter fun p => decide (o.getD p 0 = c) := by
    apply List.filter_congr
    intro p hp
    rw [getD_snoc_lt (List.mem_range.1 hp)]
  unfold tabF
  rw [List.length_append, List.length_singleton, List.range_succ, List.filter_append, List.map_append, h1]
  simp only [List.filter_cons, List.filter_nil, getD_snoc_eq, decide_eq_true_eq]
  split <;> simp
theorem tabF_mem {o : List Int} {c x : Int} (h : x ∈ tabF o c) : 0 ≤ x ∧ x < o.length ∧ o.getD x.toNat 0 = c := by
  unfold tabF at h
  rw [List.mem_map] at h
  obtain ⟨p, hp, rfl⟩ := h
  rw [List.mem_filter, List.mem_range, decide_eq_true_eq] at hp
  exact ⟨by omega, by omega, by rw [Int.toNat_natCast]; exact hp.2⟩
theorem tabF_ne {o : List Int} {c : Int} {p : Nat} (hp : p < o.length) (h : o.getD p 0 = c) : tabF o c ≠ [] := by
  intro e
  have : (p : Int) ∈ tabF o c := by
    unfold tabF
    rw [List.mem_map]
    exact ⟨p, by rw [List.mem_filter, List.mem_range, decide_eq_true_eq]; exact ⟨hp, h⟩, rfl⟩
  rw [e] at this
  cases this
theorem tabF_len (o : List Int) (c : Int) : (tabF o c).length ≤ o.length := by
  unfold tabF
  rw [List.length_map]
  refine Nat.le_trans (List.length_filter_le _ _) ?_
  simp
def drawRow (ns : List Int) (L : Nat → List Int) (cnt m : Nat) : List Int := (List.range m).map fun i => (L i).getD (getF ns (cnt + i + 1) (L i).length).toNat 0
theorem drawRow_succ (ns : List Int) (L : Nat → List Int) (cnt m : Nat) : drawRow ns L cnt (m + 1) = drawRow ns L cnt m ++ [(L m).getD (getF ns (cnt + m + 1) (L m).length).toNat 0] := by
  unfold drawRow
  rw [List.range_succ, List.map_append]
  rfl
theorem drawRow_len (ns : List Int) (L : Nat → List Int) (cnt m : Nat) : (drawRow ns L cnt m).length = m := by simp [drawRow]
theorem drawRow_get (ns : List Int) (L : Nat → List Int) (cnt : Nat) {m i : Nat} (h : i < m) : (drawRow ns L cnt m).getD i 0 = (L i).getD (getF ns (cnt + i + 1) (L i).length).toNat 0 := by
  unfold drawRow
  rw [List.getD_eq_getElem?_getD, List.getElem?_map, List.getElem?_range h]
  rfl
theorem getD_mem {α : Type} {l : List α} {d : α} {i : Nat} (h : i < l.length) : l.getD i d ∈ l := by
  rw [List.getD_eq_getElem?_getD, List.getElem?_eq_getElem h]
  exact List.getElem_mem h
theorem drawRow_mem (ns : List Int) (L : Nat → List Int) (cnt : Nat) {m i : Nat} (h : i < m) (hL : L i ≠ []) : (drawRow ns L cnt m).getD i 0 ∈ L i := by
  rw [drawRow_get _ _ _ h]
  have hl : 0 < (L i).length := List.length_pos_iff.2 hL
  have := getF_bd ns (cnt + i + 1) (m := (L i).length) (by omega)
  exact getD_mem (by omega)
def l1F (ns : List Int) (k : Nat) : Nat → Nat × List Int × List Bool
  | 0 => (0, [], [])
  | i + 1 =>
    let s := l1F ns k i
    let n1 := if i < k then s.1 else s.1 + 1
    (n1 + 1, s.2.1 ++ [if i < k then (i : Int) else getF ns (s.1 + 1) k], s.2.2 ++ [decide (getF ns (n1 + 1) 3 = 0)])
theorem l1F_len (ns : List Int) (k : Nat) : ∀ i, (l1F ns k i).2.1.length = i ∧ (l1F ns k i).2.2.length = i ∧ (l1F ns k i).1 ≤ 2 * i
  | 0 => ⟨rfl, rfl, Nat.le_refl _⟩
  | i + 1 => by
    obtain ⟨h1, h2, h3⟩ := l1F_len ns k i
    refine ⟨by simp [l1F, h1], by simp [l1F, h2], ?_⟩
    simp only [l1F]
    split <;> omega
theorem l1F_get (ns : List Int) {k : Nat} (hk : 0 < k) : ∀ i p, p < i → (0 ≤ (l1F ns k i).2.1.getD p 0 ∧ (l1F ns k i).2.1.getD p 0 < k) ∧ (p < k → (l1F ns k i).2.1.getD p 0 = p)
  | 0, p, h => by omega
  | i + 1, p, h => by
    have hl := (l1F_len ns k i).1
    by_cases hp : p < i
    · have := l1F_get ns hk i p hp
      simp only [l1F]
      rw [getD_snoc_lt (by omega)]
      exact this
    · have e : p = (l1F ns k i).2.1.length := by omega
      have hg := getF_bd ns ((l1F ns k i).1 + 1) (m := (k : Int)) (by omega)
      simp only [l1F]
      rw [e, getD_snoc_eq]
      split
      · exact ⟨by omega, fun _ => by omega⟩
      · exact ⟨hg, fun _ => by omega⟩
def cntF (o : List Int) (pl cl n c0 : Nat) : Nat → Nat
  | 0 => c0
  | p + 1 => cntF o pl cl n c0 p + pl + (if o.getD p 0 = 0 then cl else cl * n)
theorem cntF_le (o : List Int) {pl cl n : Nat} (c0 : Nat) (h1 : pl ≤ 2) (h2 : cl ≤ 2) (h3 : n ≤ 8) (h4 : 1 ≤ n) : ∀ p, cntF o pl cl n c0 p ≤ c0 + 18 * p
  | 0 => Nat.le_refl _
  | p + 1 => by
    have := cntF_le o c0 h1 h2 h3 h4 p
    have h5 : cl * n ≤ 16 := Nat.le_trans (Nat.mul_le_mul h2 h3) (by decide)
    simp only [cntF]
    split <;> omega
structure MkP where
  pl : Nat
  cl : Nat
  k : Nat
  n : Nat
def mkP (size : Int) : MkP := ⟨(size % 3).toNat, (size.tdiv 3 % 3).toNat, (1 + size.tdiv 9 % 3).toNat, (1 + size.tdiv 9 % 3 + size.tdiv 27 % 6).toNat⟩
structure MkP.ok (q : MkP) : Prop where
  pl : q.pl ≤ 2
  cl : q.cl ≤ 2
  k1 : 1 ≤ q.k
  k3 : q.k ≤ 3
  n1 : q.k ≤ q.n
  n8 : q.n ≤ 8
theorem mkP_ok (size : Int) : (mkP size).ok := by
  have a1 := Int.emod_nonneg size (show (3 : Int) ≠ 0 by omega)
  have a2 := Int.emod_lt_of_pos size (show (0 : Int) < 3 by omega)
  have b1 := Int.emod_nonneg (size.tdiv 3) (show (3 : Int) ≠ 0 by omega)
  have b2 := Int.emod_lt_of_pos (size.tdiv 3) (show (0 : Int) < 3 by omega)
  have c1 := Int.emod_nonneg (size.tdiv 9) (show (3 : Int) ≠ 0 by omega)
  have c2 := Int.emod_lt_of_pos (size.tdiv 9) (show (0 : Int) < 3 by omega)
  have d1 := Int.emod_nonneg (size.tdiv 27) (show (6 : Int) ≠ 0 by omega)
  have d2 := Int.emod_lt_of_pos (size.tdiv 27) (show (0 : Int) < 6 by omega)
  exact ⟨by simp only [mkP]; omega, by simp only [mkP]; omega, by simp only [mkP]; omega, by simp only [mkP]; omega, by simp only [mkP]; omega, by simp only [mkP]; omega⟩
def innD (ns : List Int) (q : MkP) (o : List Int) (c2 p : Nat) : List Int := drawRow ns (fun _ => tabF o (o.getD p 0)) (cntF o q.pl q.cl q.n c2 p) q.pl
def lowD (ns : List Int) (q : MkP) (o : List Int) (c2 p : Nat) : List Int := if o.getD p 0 = 0 then drawRow ns (fun _ => tabF o (o.getD p 0)) (cntF o q.pl q.cl q.n c2 p + q.pl) q.cl else []
def retR (ns : List Int) (q : MkP) (o : List Int) (c3 j : Nat) : List Int := drawRow ns (fun x => tabF o (o.getD x 0)) (c3 + j * q.n) q.n
def retD (ns : List Int) (q : MkP) (o : List Int) (c2 p : Nat) : List (List Int) := if o.getD p 0 = 0 then [] else (List.range q.cl).map fun j => retR ns q o (cntF o q.pl q.cl q.n c2 p + q.pl) j
def makeQ (ns : List Int) (q : MkP) : Mo :=
  let s := l1F ns q.k q.n
  ⟨q.pl, q.cl, s.2.1, drawRow ns (fun c => tabF s.2.1 c) s.1 q.k, s.2.2, (List.range q.n).map (innD ns q s.2.1 (s.1 + q.k)), (List.range q.n).map (lowD ns q s.2.1 (s.1 + q.k)), (List.range q.n).map (retD ns q s.2.1 (s.1 + q.k))⟩
def makeF (size : Int) (ns : List Int) : Mo := makeQ ns (mkP size)
theorem map_range_getD {α : Type} {f : Nat → α} {d : α} {n i : Nat} (h : i < n) : ((List.range n).map f).getD i d = f i := by
  rw [List.getD_eq_getElem?_getD, List.getElem?_map, List.getElem?_range h]
  rfl
theorem map_range_getD_ge {α : Type} {f : Nat → α} {d : α} {n i : Nat} (h : ¬ i < n) : ((List.range n).map f).getD i d = d := by
  rw [List.getD_eq_getElem?_getD, List.getElem?_eq_none (by simp; omega)]
  rfl
section
variable {ns : List Int} {q : MkP} (hq : q.ok)
include hq
theorem makeQ_of (p : Nat) (hp : p < q.n) : (0 ≤ (makeQ ns q).of.getD p 0 ∧ (makeQ ns q).of.getD p 0 < q.k) ∧ (p < q.k → (makeQ ns q).of.getD p 0 = p) := l1F_get ns (by have := hq.k1; omega) q.n p hp
omit hq in
theorem makeQ_len : (makeQ ns q).of.length = q.n := (l1F_len ns q.k q.n).1
theorem makeQ_tab (c : Int) (h0 : 0 ≤ c) (h1 : c < q.k) : tabF (makeQ ns q).of c ≠ [] := by
  have hk := hq.n1
  refine tabF_ne (p := c.toNat) (by rw [makeQ_len]; omega) ?_
  rw [(makeQ_of hq c.toNat (by omega)).2 (by omega)]
  omega
omit hq in
theorem makeQ_in {x c : Int} (h : x ∈ tabF (makeQ ns q).of c) : inF (makeQ ns q) x c = true := by
  obtain ⟨h1, h2, h3⟩ := tabF_mem h
  exact decide_eq_true ⟨⟨h1, by omega⟩, h3⟩
theorem makeQ_draw {L : Nat → List Int} {cnt m i : Nat} {c : Int} (hi : i < m) (hL : L i = tabF (makeQ ns q).of c) (h0 : 0 ≤ c) (h1 : c < q.k) : inF (makeQ ns q) ((drawRow ns L cnt m).getD i 0) c = true := by
  have := drawRow_mem ns L cnt hi (by rw [hL]; exact makeQ_tab hq c h0 h1)
  rw [hL] at this
  exact makeQ_in this
theorem makeQ_ok : modF (makeQ ns q) = true := by
  have hl : (makeQ ns q).of.length = q.n := makeQ_len
  have he : (makeQ ns q).entry.length = q.k := drawRow_len _ _ _ _
  have hf : (makeQ ns q).final.length = q.n := (l1F_len ns q.k q.n).2.1
  have hi : (makeQ ns q).inn.length = q.n := by simp [makeQ]
  have hw : (makeQ ns q).low.length = q.n := by simp [makeQ]
  have hr : (makeQ ns q).ret.length = q.n := by simp [makeQ]
  have hp : (makeQ ns q).plains = q.pl := rfl
  have hc : (makeQ ns q).closings = q.cl := rfl
  obtain ⟨z1, z2, z3, z4, z5, z6⟩ := hq
  have hq : q.ok := ⟨z1, z2, z3, z4, z5, z6⟩
  unfold modF
  rw [Bool.and_eq_true, Bool.and_eq_true]
  refine ⟨⟨decide_eq_true (by rw [hl, he, hf, hi, hw, hr, hp, hc]; omega), ?_⟩, allN_iff.2 fun p hp => ?_⟩
  · unfold housedF
    rw [Bool.and_eq_true]
    refine ⟨allN_iff.2 fun p hp => ?_, allN_iff.2 fun c hc => ?_⟩
    · rw [hl] at hp
      have := (makeQ_of (ns := ns) hq p hp).1
      rw [decide_eq_true_eq, he]
      omega
    · rw [he] at hc
      exact makeQ_draw hq (L := fun c => tabF (l1F ns q.k q.n).2.1 c) hc rfl (by omega) (by omega)
  · rw [hl] at hp
    have ho := (makeQ_of (ns := ns) hq p hp).1
    have hin : (makeQ ns q).inn.getD p [] = innD ns q (makeQ ns q).of ((l1F ns q.k q.n).1 + q.k) p := map_range_getD hp
    have hlo : (makeQ ns q).low.getD p [] = lowD ns q (makeQ ns q).of ((l1F ns q.k q.n).1 + q.k) p := map_range_getD hp
    have hre : (makeQ ns q).ret.getD p [] = retD ns q (makeQ ns q).of ((l1F ns q.k q.n).1 + q.k) p := map_range_getD hp
    unfold stateF
    rw [Bool.and_eq_true, Bool.and_eq_true]
    refine ⟨⟨?_, ?_⟩, ?_⟩
    · unfold plnF
      rw [hin, Bool.and_eq_true]
      refine ⟨decide_eq_true (by unfold innD; rw [drawRow_len]; rfl), allN_iff.2 fun i hi => ?_⟩
      unfold innD at hi ⊢
      rw [drawRow_len] at hi
      exact makeQ_draw hq hi rfl ho.1 ho.2
    · unfold lowF
      rw [hlo]
      unfold lowD
      split
      · rename_i h0
        rw [Bool.and_eq_true]
        refine ⟨decide_eq_true (by rw [drawRow_len]; rfl), allN_iff.2 fun i hi => ?_⟩
        rw [drawRow_len] at hi
        exact makeQ_draw hq hi (by rw [h0]) (by omega) (by omega)
      · exact decide_eq_true rfl
    · unfold retF
      rw [hre]
      unfold retD
      split
      · exact decide_eq_true rfl
      · rw [Bool.and_eq_true]
        refine ⟨decide_eq_true (by rw [List.length_map, List.length_range]; rfl), allN_iff.2 fun j hj => ?_⟩
        rw [List.length_map, List.length_range] at hj
        rw [map_range_getD hj]
        unfold rowF retR
        rw [drawRow_len, Bool.and_eq_true]
        refine ⟨decide_eq_true (by rw [hl]), allN_iff.2 fun x hx => ?_⟩
        have hx2 := (makeQ_of (ns := ns) hq x hx).1
        exact makeQ_draw hq hx rfl hx2.1 hx2.2
theorem makeQ_MoLen : MoLen (makeQ ns q) := by
  have hl : (makeQ ns q).of.length = q.n := makeQ_len
  have he : (makeQ ns q).entry.length = q.k := drawRow_len _ _ _ _
  have hf : (makeQ ns q).final.length = q.n := (l1F_len ns q.k q.n).2.1
  obtain ⟨z1, z2, z3, z4, z5, z6⟩ := hq
  have hin : ∀ i, ((makeQ ns q).inn.getD i []).length ≤ 2 := fun i => by
    by_cases h : i < q.n
    · rw [show (makeQ ns q).inn.getD i [] = _ from map_range_getD h]
      unfold innD; rw [drawRow_len]; omega
    · rw [show (makeQ ns q).inn.getD i [] = _ from map_range_getD_ge h]; simp
  have hlo : ∀ i, ((makeQ ns q).low.getD i []).length ≤ 2 := fun i => by
    by_cases h : i < q.n
    · rw [show (makeQ ns q).low.getD i [] = _ from map_range_getD h]
      unfold lowD; split
      · rw [drawRow_len]; omega
      · simp
    · rw [show (makeQ ns q).low.getD i [] = _ from map_range_getD_ge h]; simp
  have hre : ∀ i, ((makeQ ns q).ret.getD i []).length ≤ 2 := fun i => by
    by_cases h : i < q.n
    · rw [show (makeQ ns q).ret.getD i [] = _ from map_range_getD h]
      unfold retD; split
      · simp
      · rw [List.length_map, List.length_range]; omega
    · rw [show (makeQ ns q).ret.getD i [] = _ from map_range_getD_ge h]; simp
  have hr2 : ∀ i j, (((makeQ ns q).ret.getD i []).getD j []).length ≤ 8 := fun i j => by
    by_cases h : i < q.n
    · rw [show (makeQ ns q).ret.getD i [] = _ from map_range_getD h]
      unfold retD; split
      · simp
      · by_cases hj : j < q.cl
        · rw [map_range_getD hj]; unfold retR; rw [drawRow_len]; omega
        · rw [map_range_getD_ge hj]; simp
    · rw [show (makeQ ns q).ret.getD i [] = _ from map_range_getD_ge h]; simp
  exact ⟨by omega, by omega, by omega, by simp [makeQ]; omega, by simp [makeQ]; omega, by simp [makeQ]; omega, fun i => by have := hin i; omega, fun i => by have := hlo i; omega, fun i => by have := hre i; omega, fun i j => by have := hr2 i j; omega⟩
end
end Go.Am
namespace Go.Am
open Go.RowKit
def OldC (σ0 σ : CH) : Prop := σ0.nx ≤ σ.nx ∧ ∀ i, i < σ0.nx → σ.C i = .old ∧ σ.H i = σ0.H i
theorem OldC.keep {S : List Co} {σ0 σ τ : CH} (h : Chg S σ τ) (hc : Co.old ∉ S) (ho : OldC σ0 σ) : OldC σ0 τ :=
  ⟨Nat.le_trans ho.1 h.1, fun i hi => by
    obtain ⟨q1, q2⟩ := ho.2 i hi
    have hi' := Nat.lt_of_lt_of_le hi ho.1
    exact ⟨(h.hue hi').trans q1, (h.same hc hi' q1).trans q2⟩⟩
structure MkX where
  A : Nat
  B : Nat
  a4 : Nat
  nv : Value
  tv : Value
  ns : List Int
  pl : Int
  cl : Int
structure MkD where
  cnt : Nat
  L : List Int
  E : List Int
  T : List (List Int)
  f : List Bool
  I : List (List Int)
  W : List (List Int)
  R : List (List (List Int))
def moC (pl cl : Int) (V : MoV) : List Value := [.int .i64 pl, .int .i64 cl, V.o, V.e, V.f, V.i, V.l, V.r]
def locB (D : MkD) : Co → Prop
  | .inn1 p => D.I.length ≤ p
  | .low1 p => D.W.length ≤ p
  | .ret1 p => D.R.length ≤ p
  | .ret2 p _ => D.R.length ≤ p
  | _ => False
end Go.Am
namespace Go.Proofs.Ytooakbmehcchnaa
open Go.Am Go.RowKit
abbrev RowI (c : Co) (σ : CH) (v : Value) (l : List Int) : Prop := OwnC encN 3 c σ v l
abbrev Row2 (d : Nat → Co) (c : Co) (σ : CH) (v : Value) (l : List (List Int)) : Prop := OwnLC (fun p => RowI (d p)) 23 c σ v l
abbrev Row3 (σ : CH) (v : Value) (l : List (List (List Int))) : Prop := OwnLC (fun p => Row2 (.ret2 p) (.ret1 p)) 25 .ret σ v l
def mObj (pl cl : Int) (V : MoV) : AObj := .cells (moC pl cl V) 0 none false (some 28)
def TabC (σ : CH) (tv : Value) (T : List (List Int)) : Prop := ∃ vs : List SV, PlainC 23 .table σ tv (vs.map slV) ∧ AllC (fun c => RowI (.tab c)) σ vs T
structure MkS (σ0 σ : CH) (X : MkX) (D : MkD) (V : MoV) : Prop where
  old : OldC σ0 σ
  a : ObC .self σ X.A (mObj X.pl X.cl V)
  b : ObC .next σ X.B (nextO X.nv D.cnt)
  r : ∃ cs, cs.length = 8 ∧ ObC .tmp σ X.a4 (.cells cs 0 none false (some 28))
  n : IntsC .old σ X.nv X.ns
  of : PlainC 3 .of σ V.o (D.L.map (.int .i64 ·))
  en : PlainC 3 .entry σ V.e (D.E.map (.int .i64 ·))
  tb : TabC σ X.tv D.T
  fi : OwnC encBo 4 .final σ V.f D.f
  inn : Row2 .inn1 .inn σ V.i D.I
  low : Row2 .low1 .low σ V.l D.W
  ret : Row3 σ V.r D.R
theorem RowI.keepL {S : List Co} {σ τ : CH} {c : Co} {v : Value} {l : List Int} (h : Chg S σ τ) (hc : c ∉ S) (ho : RowI c σ v l) : RowI c τ v l := OwnC.keep h hc ho
theorem Row2.keepL {S : List Co} {σ τ : CH} {d : Nat → Co} {c : Co} {v : Value} {l : List (List Int)} (h : Chg S σ τ) (hc : c ∉ S) (hd : ∀ p, p < l.length → d p ∉ S) (ho : Row2 d c σ v l) : Row2 d c τ v l := OwnLC.keep h hc (fun i _ _ hi hr => hr.keep h (hd i hi)) ho
theorem Row3.keepL {S : List Co} {σ τ : CH} {v : Value} {l : List (List (List Int))} (h : Chg S σ τ) (hc : Co.ret ∉ S) (hd : ∀ p, p < l.length → Co.ret1 p ∉ S) (he : ∀ p j, p < l.length → Co.ret2 p j ∉ S) (ho : Row3 σ v l) : Row3 τ v l :=
  OwnLC.keep h hc (fun i _ _ hi hr => Row2.keepL h (hd i hi) (fun j _ => he i j hi) hr) ho
theorem TabC.keep {S : List Co} {σ τ : CH} {tv : Value} {T : List (List Int)} (h : Chg S σ τ) (hc : Co.table ∉ S) (hd : ∀ p, p < T.length → Co.tab p ∉ S) (ho : TabC σ tv T) : TabC τ tv T := by
  obtain ⟨vs, h1, h2⟩ := ho
  exact ⟨vs, h1.keep h hc, h2.keep fun i _ _ hi hr => hr.keep h (hd i hi)⟩
section
variable {σ0 σ τ : CH} {X : MkX} {D : MkD} {V : MoV} {S : List Co}
theorem MkS.loc (h : MkS σ0 σ X D V) (hc : Chg S σ τ) (hS : ∀ c ∈ S, locB D c) : MkS σ0 τ X D V := ⟨(h.old.keep hc (fun q => hS _ q)), (h.a.keep hc (fun q => hS _ q)), (h.b.keep hc (fun q => hS _ q)), (by obtain ⟨cs, q1, q2⟩ := h.r; exact ⟨cs, q1, q2.keep hc (fun q => hS _ q)⟩), (h.n.keep hc (fun q => hS _ q)), (h.of.keep hc (fun q => hS _ q)), (h.en.keep hc (fun q => hS _ q)), (h.tb.keep hc (fun q => hS _ q) (fun p hp => fun q => (hS _ q))), (h.fi.keep hc (fun q => hS _ q)), (Row2.keepL hc (fun q => hS _ q) (fun p hp => fun q => absurd (hS _ q) (by simp [locB]; omega)) h.inn), (Row2.keepL hc (fun q => hS _ q) (fun p hp => fun q => absurd (hS _ q) (by simp [locB]; omega)) h.low), (Row3.keepL hc (fun q => hS _ q) (fun p hp => fun q => absurd (hS _ q) (by simp [locB]; omega)) (fun p j hp => fun q => absurd (hS _ q) (by simp [locB]; omega)) h.ret)⟩
theorem MkS.next (h : MkS σ0 σ X D V) (hc : Chg [.next] σ τ) (hb : ObC .next τ X.B (nextO X.nv (D.cnt + 1))) : MkS σ0 τ X { D with cnt := D.cnt + 1 } V := ⟨(h.old.keep hc (by simp)), (h.a.keep hc (by simp)), hb, (by obtain ⟨cs, q1, q2⟩ := h.r; exact ⟨cs, q1, q2.keep hc (by simp)⟩), (h.n.keep hc (by simp)), (h.of.keep hc (by simp)), (h.en.keep hc (by simp)), (h.tb.keep hc (by simp) (fun p hp => by simp)), (h.fi.keep hc (by simp)), (Row2.keepL hc (by simp) (fun p hp => by simp) h.inn), (Row2.keepL hc (by simp) (fun p hp => by simp) h.low), (Row3.keepL hc (by simp) (fun p hp => by simp) (fun p j hp => by simp) h.ret)⟩
theorem MkS.setOf (h : MkS σ0 σ X D V) (hc : Chg [.of] σ τ) {L : List Int} (ho : PlainC 3 .of τ V.o (L.map (.int .i64 ·))) : MkS σ0 τ X { D with L := L } V := ⟨(h.old.keep hc (by simp)), (h.a.keep hc (by simp)), (h.b.keep hc (by simp)), (by obtain ⟨cs, q1, q2⟩ := h.r; exact ⟨cs, q1, q2.keep hc (by simp)⟩), (h.n.keep hc (by simp)), ho, (h.en.keep hc (by simp)), (h.tb.keep hc (by simp) (fun p hp => by simp)), (h.fi.keep hc (by simp)), (Row2.keepL hc (by simp) (fun p hp => by simp) h.inn), (Row2.keepL hc (by simp) (fun p hp => by simp) h.low), (Row3.keepL hc (by simp) (fun p hp => by simp) (fun p j hp => by simp) h.ret)⟩
theorem MkS.setEn (h : MkS σ0 σ X D V) (hc : Chg [.entry] σ τ) {E : List Int} (ho : PlainC 3 .entry τ V.e (E.map (.int .i64 ·))) : MkS σ0 τ X { D with E := E } V := ⟨(h.old.keep hc (by simp)), (h.a.keep hc (by simp)), (h.b.keep hc (by simp)), (by obtain ⟨cs, q1, q2⟩ := h.r; exact ⟨cs, q1, q2.keep hc (by simp)⟩), (h.n.keep hc (by simp)), (h.of.keep hc (by simp)), ho, (h.tb.keep hc (by simp) (fun p hp => by simp)), (h.fi.keep hc (by simp)), (Row2.keepL hc (by simp) (fun p hp => by simp) h.inn), (Row2.keepL hc (by simp) (fun p hp => by simp) h.low), (Row3.keepL hc (by simp) (fun p hp => by simp) (fun p j hp => by simp) h.ret)⟩
theorem MkS.setTb {c : Nat} (h : MkS σ0 σ X D V) (hc : Chg [.tab c, .table] σ τ) {T : List (List Int)} (ho : TabC τ X.tv T) : MkS σ0 τ X { D with T := T } V := ⟨(h.old.keep hc (by simp)), (h.a.keep hc (by simp)), (h.b.keep hc (by simp)), (by obtain ⟨cs, q1, q2⟩ := h.r; exact ⟨cs, q1, q2.keep hc (by simp)⟩), (h.n.keep hc (by simp)), (h.of.keep hc (by simp)), (h.en.keep hc (by simp)), ho, (h.fi.keep hc (by simp)), (Row2.keepL hc (by simp) (fun p hp => by simp) h.inn), (Row2.keepL hc (by simp) (fun p hp => by simp) h.low), (Row3.keepL hc (by simp) (fun p hp => by simp) (fun p j hp => by simp) h.ret)⟩
theorem MkS.setFi (h : MkS σ0 σ X D V) (hc : Chg [.final, .self] σ τ) {f : List Bool} {v : Value} (ho : OwnC encBo 4 .final τ v f) (ha : ObC .self τ X.A (mObj X.pl X.cl { V with f := v })) : MkS σ0 τ X { D with f := f } { V with f := v } := ⟨(h.old.keep hc (by simp)), ha, (h.b.keep hc (by simp)), (by obtain ⟨cs, q1, q2⟩ := h.r; exact ⟨cs, q1, q2.keep hc (by simp)⟩), (h.n.keep hc (by simp)), (h.of.keep hc (by simp)), (h.en.keep hc (by simp)), (h.tb.keep hc (by simp) (fun p hp => by simp)), ho, (Row2.keepL hc (by simp) (fun p hp => by simp) h.inn), (Row2.keepL hc (by simp) (fun p hp => by simp) h.low), (Row3.keepL hc (by simp) (fun p hp => by simp) (fun p j hp => by simp) h.ret)⟩
end
structure MkO (σ : CH) (m : Mo) (V : MoV) : Prop where
  of : PlainC 3 .of σ V.o (m.of.map (.int .i64 ·))
  en : PlainC 3 .entry σ V.e (m.entry.map (.int .i64 ·))
  fi : OwnC encBo 4 .final σ V.f m.final
  inn : Row2 .inn1 .inn σ V.i m.inn
  low : Row2 .low1 .low σ V.l m.low
  ret : Row3 σ V.r m.ret
end Go.Proofs.Ytooakbmehcchnaa
namespace Go.Am
open Go.RowKit
section
variable {P : Program} {W0 : World} {ops : Array Oper} {acts : List Nat} {K : Nat → Heap → Prop}
end
theorem setc_allN {H : Heap} {b e : Nat} {c vs : List Value} {t : Option Nat} {q : Option TypeId} (h : H b = some (.cells c e t false q)) (hl : vs.length = c.length) (ho : vs.all (·.oneCell') = true) : setc H ⟨b, 0, t⟩ vs = some (.cells vs e t false q) := by
  unfold setc
  simp only [h]
  rw [if_pos ⟨trivial, by omega, trivial, ho⟩]
  simp [hl]
end Go.Am
namespace Go.Am
open Go.RowKit
def subC : List Nat → Code → Code
  | 0 :: p, .seq a _ => subC p a
  | 1 :: p, .seq _ b => subC p b
  | 2 :: p, .block _ c => subC p c
  | 2 :: p, .loop c => subC p c
  | 3 :: p, .cond _ a _ => subC p a
  | 4 :: p, .cond _ _ b => subC p b
  | _, c => c
def bodyMk (fn : Func) : Code := match fn.body with | some c => c | none => .skip
structure T1 (tm : Nat → Value) (X : MkX) (q : MkP) : Prop where
  t4 : tm 4 = .pointer (some ⟨X.a4, 0, none⟩)
  t5 : tm 5 = .pointer (some ⟨X.A, 0, none⟩)
  t6 : tm 6 = .int .i64 q.k
  t7 : tm 7 = .int .i64 q.n
  t8 : tm 8 = .pointer (some ⟨X.B, 0, none⟩)
  t9 : tm 9 = X.tv
def d1 (ns : List Int) (q : MkP) (i : Nat) : MkD := ⟨(l1F ns q.k i).1, (l1F ns q.k i).2.1 ++ List.replicate (q.n - i) 0, List.replicate q.k 0, (List.range q.k).map fun (c : Nat) => tabF (l1F ns q.k i).2.1 (c : Int), (l1F ns q.k i).2.2, [], [], []⟩
theorem set_snoc {l : List Int} {n i : Nat} {x : Int} (hl : l.length = i) (h : i < n) : (l ++ List.replicate (n - i) 0).set i x = (l ++ [x]) ++ List.replicate (n - (i + 1)) 0 := by
  obtain ⟨k, rfl⟩ : ∃ k, n = i + 1 + k := ⟨n - (i + 1), by omega⟩
  subst hl
  rw [List.set_append_right _ _ (Nat.le_refl _), Nat.sub_self, show l.length + 1 + k - l.length = k + 1 by omega, show l.length + 1 + k - (l.length + 1) = k by omega, List.replicate_succ, List.append_assoc]
  rfl
theorem AllC.set {α : Type} {R : Nat → CH → Value → α → Prop} {σ τ : CH} {vs : List SV} {l : List α} {c : Nat} {u : SV} {x : α} (h : AllC R σ vs l) (hR : ∀ i u x, i < l.length → i ≠ c → R i σ u x → R i τ u x) (hx : R c τ (slV u) x) : AllC R τ (vs.set c u) (l.set c x) := by
  refine ⟨by simp [h.1], fun i y hy => ?_⟩
  rw [List.getElem?_set] at hy
  split at hy
  · rename_i e
    subst e
    split at hy
    · rename_i hlt
      cases hy
      exact ⟨u, by rw [List.getElem?_set_self (by rw [h.1]; exact hlt)], hx⟩
    · cases hy
  · rename_i e
    obtain ⟨w, h1, h2⟩ := h.2 i y hy
    exact ⟨w, by rw [List.getElem?_set_ne e]; exact h1, hR _ _ _ (List.getElem?_eq_some_iff.1 hy).1 (fun q => e q.symm) h2⟩
theorem map_set_range {α : Type} {f g : Nat → α} {k c : Nat} {x : α} (hc : c < k) (hx : x = g c) (h : ∀ i, i ≠ c → f i = g i) : ((List.range k).map f).set c x = (List.range k).map g := by
  apply List.ext_getElem?
  intro i
  by_cases e : c = i
  · subst e
    rw [List.getElem?_set_self (by simpa using hc), List.getElem?_map, List.getElem?_range hc, hx]; rfl
  · rw [List.getElem?_set_ne e, List.getElem?_map, List.getElem?_map]
    by_cases hi : i < k
    · rw [List.getElem?_range hi]; simp [h i (fun q => e q.symm)]
    · rw [List.getElem?_eq_none (by simp; omega)]; rfl
theorem OwnC.slice {α : Type} {enc : α → List Value} {el : TypeId} {c : Co} {σ : CH} {v : Value} {l : List α} (hk : ∀ x, (enc x).length = 1) (h : OwnC enc el c σ v l) : ∃ a k, v = .slice a l.length k := (h.at hk).slice
theorem PlainC.block {el : TypeId} {c : Co} {σ : CH} {v : Value} {l : List Int} (h : PlainC el c σ v (l.map (.int .i64 ·))) : ∃ b, v = .slice (some ⟨b, 0, none⟩) l.length l.length ∧ ObC c σ b (.cells (l.map (.int .i64 ·)) 1 none false (some el)) := by
  obtain ⟨b, h1, h2⟩ := h
  rw [List.length_map] at h1
  exact ⟨b, h1, h2⟩
end Go.Am
namespace Go.Proofs.Ytooakbmehcchnaa
open Go.Am Go.RowKit
attribute [local irreducible] aop OpsL Trip blockExit OpsD OpsK OpsR OpsQ
theorem TabC.row {σ : CH} {tv : Value} {T : List (List Int)} (h : TabC σ tv T) {c : Nat} (hc : c < T.length) : ∃ (vs : List SV) (b : Nat) (a : Option Addr) (k : Nat), tv = .slice (some ⟨b, 0, none⟩) T.length T.length ∧ ObC .table σ b (.cells (vs.map slV) 1 none false (some 23)) ∧ AllC (fun c => RowI (.tab c)) σ vs T ∧ vs[c]? = some (a, (T.getD c []).length, k) ∧ RowI (.tab c) σ (.slice a (T.getD c []).length k) (T.getD c []) := by
  obtain ⟨vs, ⟨b, h1, h2⟩, h3⟩ := h
  rw [List.length_map, h3.1] at h1
  obtain ⟨u, q1, q2⟩ := h3.2 c T[c] (List.getElem?_eq_getElem hc)
  have e : T.getD c [] = T[c] := by rw [List.getD_eq_getElem?_getD, List.getElem?_eq_getElem hc]; rfl
  rw [e]
  obtain ⟨a, k, hs⟩ := OwnC.slice encN_len q2
  have hu : u = (a, T[c].length, k) := by
    obtain ⟨u1, u2, u3⟩ := u
    unfold slV at hs
    simp only [Value.slice.injEq] at hs
    obtain ⟨rfl, rfl, rfl⟩ := hs
    rfl
  rw [hu] at q1 q2
  exact ⟨vs, b, a, k, h1, h2, h3, q1, q2⟩
theorem mkL1 (W0 : World) {σ0 σ : CH} {X : MkX} {q : MkP} {V : MoV} {tm : Nat → Value} {n : Nat} (hq : q.ok) (hn0 : n = 220) (ht : T1 tm X q) (h10 : tm 10 = .int .i64 0) (h : MkS σ0 σ X (d1 X.ns q 0) V) {Q : AExit → ASt → Prop}
    (hQ : ∀ tm' σ' V', T1 tm' X q → MkS σ0 σ' X (d1 X.ns q q.n) V' → Q .normal ⟨tm', n, σ'.H, σ'.nx⟩) : Trip Try.prog W0 (subC [1, 1, 1, 1, 1, 1, 1, 0, 1] (bodyMk Try.f21)) ⟨tm, n, σ.H, σ.nx⟩ Q := by
  obtain ⟨z1, z2, z3, z4, z5, z6⟩ := hq
  refine Trip.block ?_
  refine Trip.inv (fun (i : Nat) s => ∃ tm σ V, s = ⟨tm, n, σ.H, σ.nx⟩ ∧ T1 tm X q ∧ tm 10 = .int .i64 i ∧ i ≤ q.n ∧ MkS σ0 σ X (d1 X.ns q i) V) (fun i => q.n - i) 0 ?_ ?_
  · exact ⟨tm, σ, V, rfl, ht, h10, by omega, h⟩
  clear h ht h10
  rintro i s ⟨tm, σ, V, rfl, ⟨t4, t5, t6, t7, t8, t9⟩, t10, hi, h⟩
  obtain ⟨hl1, hl2, hl3⟩ := l1F_len X.ns q.k i
  repeat (first | (refine OpsL.q (by first | exact omv | exact olss) ?_) | (refine Trip.seq ?_) | (refine Trip.ops ?_) | (refine Trip.block ?_) | (refine Trip.itA (fun _ => ?_) (fun _ => ?_)) | (refine Trip.skip ?_; (change Trip _ _ _ _ _)) | (refine OpsL.nil ?_; (change Trip _ _ _ _ _)))
  · have hlt : i < q.n := by omega
    obtain ⟨o, ho⟩ : ∃ o, (l1F X.ns q.k i).2.1 = o := ⟨_, rfl⟩
    obtain ⟨cnt, hcnt⟩ : ∃ c, (l1F X.ns q.k i).1 = c := ⟨_, rfl⟩
    obtain ⟨f, hf⟩ : ∃ c, (l1F X.ns q.k i).2.2 = c := ⟨_, rfl⟩
    obtain ⟨c, hc⟩ : ∃ c, c = (if i < q.k then (i : Int) else getF X.ns (cnt + 1) q.k) := ⟨_, rfl⟩
    obtain ⟨n1, hn1⟩ : ∃ m, m = (if i < q.k then cnt else cnt + 1) := ⟨_, rfl⟩
    have hd : d1 X.ns q i = ⟨cnt, o ++ List.replicate (q.n - i) 0, List.replicate q.k 0, (List.range q.k).map fun (c : Nat) => tabF o (c : Int), f, [], [], []⟩ := by rw [← ho, ← hcnt, ← hf]; rfl
    have hd' : d1 X.ns q (i + 1) = ⟨n1 + 1, (o ++ [c]) ++ List.replicate (q.n - (i + 1)) 0, List.replicate q.k 0, (List.range q.k).map fun (c' : Nat) => tabF (o ++ [c]) (c' : Int), f ++ [decide (getF X.ns (n1 + 1) 3 = 0)], [], [], []⟩ := by rw [hn1, hc, ← ho, ← hcnt, ← hf]; rfl
    have hc01 : 0 ≤ c ∧ c < q.k := by
      have := getF_bd X.ns (cnt + 1) (m := (q.k : Int)) (by omega)
      rw [hc]; split <;> omega
    have hn1b : n1 ≤ 100 := by rw [hn1]; split <;> omega
    have hlo : o.length = i := by rw [← ho]; exact hl1
    rw [hd] at h
    (first | (refine OpsL.q (by exact oasg) ?_))
    refine OpsL.nil ?_
    (change Trip _ _ _ _ _)
    refine Trip.seq ?_
    refine Trip.mono (Q := fun e st => e = .normal ∧ ∃ tm' σ', st = ⟨tm', n, σ'.H, σ'.nx⟩ ∧ T1 tm' X q ∧ tm' 10 = .int .i64 i ∧ tm' 11 = .int .i64 c ∧ MkS σ0 σ' X ⟨n1, o ++ List.replicate (q.n - i) 0, List.replicate q.k 0, (List.range q.k).map fun (c : Nat) => tabF o (c : Int), f, [], [], []⟩ V) ?_ ?_
    · by_cases hik : i < q.k
      · rw [if_pos hik] at hc hn1
        subst hc hn1
        repeat (first | (refine OpsL.q (by exact omv) ?_) | (refine Trip.seq ?_) | (refine Trip.ops ?_))
        refine OpsL.geqF ?_
        repeat (first | (refine OpsL.nil ?_; (change Trip _ _ _ _ _)))
        refine Trip.ifF ?_
        repeat (first | (refine Trip.skip ?_; (skip)))
        exact ⟨rfl, _, σ, rfl, ⟨by simp [tmPut, *], by simp [tmPut, *], by simp [tmPut, *], by simp [tmPut, *], by simp [tmPut, *], by simp [tmPut, *]⟩, by simp [tmPut, *], by simp [tmPut, *], h⟩
      · rw [if_neg hik] at hc hn1
        subst hc hn1
        repeat (first | (refine OpsL.q (by exact omv) ?_) | (refine Trip.seq ?_) | (refine Trip.ops ?_))
        refine OpsL.geqT ?_
        repeat (first | (refine OpsL.nil ?_; (change Trip _ _ _ _ _)))
        refine Trip.ifT ?_
        repeat (first | (refine OpsL.q (by exact omv) ?_) | (refine Trip.ops ?_))
        refine OpsL.c2 (hf := entersGet) (hc := (getC W0 h.b h.n (by omega) (by omega) (by show cnt ≤ _; omega))) (h := ?_)
        rintro v nx1 H1 ⟨rfl, τ, rfl, rfl, hx, hb⟩
        have h' := h.next hx hb
        repeat (first | (refine OpsL.q (by exact oasg) ?_) | (refine OpsL.nil ?_; (dsimp only)))
        exact ⟨rfl, _, τ, rfl, ⟨by simp [tmPut, *], by simp [tmPut, *], by simp [tmPut, *], by simp [tmPut, *], by simp [tmPut, *], by simp [tmPut, *]⟩, by simp [tmPut, *], by simp [tmPut, *], h'⟩
    have hfl : f.length = i := by rw [← hf]; exact hl2
    clear t4 t5 t6 t7 t8 t9 t10 h hc hn1 ho hcnt hf
    rintro e st ⟨rfl, tm, σ, rfl, ⟨t4, t5, t6, t7, t8, t9⟩, t10, t11, h⟩
    -- the module is stored
    obtain ⟨bo, hvo, hbo⟩ := h.of.block
    have g2 : cellAt σ.H ⟨X.A, 2, none⟩ V.o := h.a.cell rfl
    rw [hvo] at g2
    have hlen : (o ++ List.replicate (q.n - i) (0 : Int)).length = q.n := by rw [List.length_append, List.length_replicate]; omega
    rw [hlen] at g2 hvo
    (change Trip _ _ _ _ _)
    repeat (first | (refine OpsL.q (by first | exact omv | exact ofa | exact old | exact oixa) ?_) | (refine Trip.seq ?_) | (refine Trip.ops ?_))
    refine OpsL.setC (k := i) (v := .int .i64 c) (cs' := ((o ++ [c]) ++ List.replicate (q.n - (i + 1)) 0).map (.int .i64 ·)) hbo (by rw [List.length_map, hlen]; exact hlt) (by rw [set_ints, set_snoc hlo hlt]) (by exact rfl) rfl rfl (by (first | (simp only [ASt.ev, tmPut, ↓reduceIte, Nat.reduceEqDiff, *]; rfl))) (by (first | (simp only [ASt.ev, tmPut, ↓reduceIte, Nat.reduceEqDiff, *]; done))) (by show Addr.mk _ (0 + (i : Int).toNat * 1) _ = _; simp) ?_
    rintro σ1 hbo1 x1 -
    have hlen2 : ((o ++ [c]) ++ List.replicate (q.n - (i + 1)) (0 : Int)).length = q.n := by simp; omega
    replace h := h.setOf x1 ⟨bo, (by rw [hvo, List.length_map, hlen2]), hbo1⟩
    clear g2 hbo
    (dsimp only)
    -- into the table
    obtain ⟨vs, bt, ta, tk, htv, hbt, hall, hvc, hrow⟩ := h.tb.row (c := c.toNat) (by simp; omega)
    rw [map_range_getD (by omega), Int.toNat_of_nonneg hc01.1] at hvc hrow
    have hTl : ((List.range q.k).map fun (c : Nat) => tabF o (c : Int)).length = q.k := by simp
    rw [hTl] at htv
    rw [htv] at t9
    have g3 : cellAt σ1.H ⟨bt, 0 + c.toNat * 1, none⟩ (.slice ta (tabF o c).length tk) := by
      rw [Nat.zero_add, Nat.mul_one]
      exact hbt.cell (by rw [List.getElem?_map, hvc]; rfl)
    have htl := tabF_len o c
    repeat (first | (refine OpsL.q (by first | exact omv | exact old | exact oixa) ?_) | (refine Trip.seq ?_) | (refine Trip.ops ?_) | (refine OpsL.nil ?_; (change Trip _ _ _ _ _)))
    refine OpsL.litC (σ := σ1) (enc := encN) (z := (i : Int)) (el := 3) rfl (by (first | (simp only [ASt.ev, tmPut, ↓reduceIte, Nat.reduceEqDiff, *]; done))) (by kernel_rfl) (by subst_vars; decide) ?_
    intro σ2 x2 hu
    replace hrow := RowI.keepL x2 (by simp) hrow
    refine OpsL.appC (bytes := 8) (z := [.int .i64 0]) encN_len encN_one hrow hu (by exact rfl) (by exact rfl) (by exact rfl) (by exact rfl) (by exact rfl) rfl (by simp; omega) (by omega) (by (first | (simp only [ASt.ev, tmPut, ↓reduceIte, Nat.reduceEqDiff, *]; done))) (by (first | (simp only [ASt.ev, tmPut, ↓reduceIte, Nat.reduceEqDiff, *]; done))) (by subst_vars; decide) ?_
    intro v3 σ3 hrow3 x3
    obtain ⟨va, vk, rfl⟩ := OwnC.slice encN_len hrow3
    replace hbt := (hbt.keep x2 (by simp)).keep x3 (by simp)
    repeat (first | (refine OpsL.q (by exact oixa) ?_))
    refine OpsL.setC (k := c.toNat) (v := .slice va (tabF o c ++ [(i : Int)]).length vk) (cs' := (vs.set c.toNat (va, (tabF o c ++ [(i : Int)]).length, vk)).map slV) hbt (by have := hall.1; simp at this; rw [List.length_map, this]; omega) (by rw [List.map_set]; rfl) (by exact rfl) rfl rfl (by (first | (simp only [ASt.ev, tmPut, ↓reduceIte, Nat.reduceEqDiff, *]; rfl))) (by (first | (simp only [ASt.ev, tmPut, ↓reduceIte, Nat.reduceEqDiff, *]; done))) (by show Addr.mk _ (0 + c.toNat * 1) _ = _; simp) ?_
    rintro σ4 hbt4 x4 -
    have x24 : Chg [.tab c.toNat, .table] σ1 σ4 := ((x2.mono (by simp)).trans (x3.mono (by simp))).trans (x4.mono (by simp))
    have hrow4 := RowI.keepL x4 (by simp) hrow3
    have hT : TabC σ4 X.tv ((List.range q.k).map fun (c' : Nat) => tabF (o ++ [c]) (c' : Int)) := by
      have hs : ((List.range q.k).map fun (c : Nat) => tabF o (c : Int)).set c.toNat (tabF o c ++ [(i : Int)]) = (List.range q.k).map fun (c' : Nat) => tabF (o ++ [c]) (c' : Int) :=
        map_set_range (by omega) (by rw [tabF_snoc, Int.toNat_of_nonneg hc01.1, if_pos rfl, hlo]) (fun i' hi' => by rw [tabF_snoc, if_neg (by omega)])
      have hvl : ((vs.set c.toNat (va, (tabF o c ++ [(i : Int)]).length, vk)).map slV).length = q.k := by have := hall.1; simp at this; simp [this]
      refine ⟨_, ⟨bt, (by rw [htv, hvl]), hbt4⟩, ?_⟩
      rw [← hs]
      exact hall.set (fun i' _ _ _ hi' hr => RowI.keepL x24 (by simp [hi']) hr) hrow4
    have hbo4 := h
    replace h := h.setTb x24 hT
    clear hbt hbt4 hrow hrow3 hrow4 hT hall hvc g3 hu x2 x3 x4 x24 x1 hbo1 hbo4
    (dsimp only)
    -- whether it accepts
    obtain ⟨fa, fk, hvf⟩ := OwnC.slice encBo_len h.fi
    have g4 : cellAt σ4.H ⟨X.A, 4, none⟩ V.f := h.a.cell rfl
    rw [hvf] at g4
    repeat (first | (refine OpsL.nil ?_; (change Trip _ _ _ _ _)))
    refine Trip.mono (Q := fun e st => e = .normal ∧ ∃ tm' σ' V', st = ⟨tm', n, σ'.H, σ'.nx⟩ ∧ T1 tm' X q ∧ tm' 10 = .int .i64 i ∧ MkS σ0 σ' X (d1 X.ns q (i + 1)) V') ?_ ?_
    · refine OpsQ.drawn [3, 5, 6, 8] (K := fun j nx H => j = 6 → cellAt H ⟨X.A, 4, none⟩ (.slice fa f.length fk)) mixed13 (by kernel_rfl) (by kernel_rfl) [0, 1, 2, 3, 4, 5, 6, 7, 8] (by kernel_rfl) (fun _ _ _ => g4) ?_
      refine OpsQ.one rfl rfl rfl (by kernel_rfl) ?_
      repeat (first | (refine OpsL.q (by exact ofa) ?_) | (refine OpsL.nil ?_; (dsimp only)))
      refine OpsQ.sp 6 rfl (by kernel_rfl) (by subst_vars; decide) (fun _ => g4) (fun H2 nx2 hK => aop_load (by (first | (simp only [ASt.ev, tmPut, ↓reduceIte, Nat.reduceEqDiff, *]; rfl))) (by exact rfl) rfl (hK rfl)) ?_
      refine OpsQ.one rfl rfl rfl (by kernel_rfl) ?_
      repeat (first | (refine OpsL.q (by exact omv) ?_) | (refine OpsL.nil ?_; (skip)))
      refine OpsQ.act (by kernel_rfl) (ActStep.walk rfl rfl ?_)
      refine OpsL.c2 (hf := entersGet) (hc := (getC W0 h.b h.n (by omega) (by omega) (by show n1 ≤ _; omega))) (h := ?_)
      rintro v nx1 H1 ⟨rfl, τ, rfl, rfl, hx, hb⟩
      replace h := h.next hx hb
      replace g4 : cellAt τ.H ⟨X.A, 4, none⟩ V.f := h.a.cell rfl
      rw [hvf] at g4
      refine OpsL.nil ⟨fun _ _ _ => g4, ?_⟩
      refine OpsQ.one rfl rfl rfl (by kernel_rfl) ?_
      repeat (first | (refine OpsL.q (by exact oeql) ?_) | (refine OpsL.nil ?_; (dsimp only)))
      refine OpsQ.act (by kernel_rfl) (ActStep.walk rfl rfl ?_)
      refine OpsL.litC (σ := τ) (enc := encBo) (z := decide (getF X.ns (n1 + 1) 3 = 0)) (el := 4) rfl (by (first | (simp only [ASt.ev, tmPut, ↓reduceIte, Nat.reduceEqDiff, *]; done))) (by kernel_rfl) (by subst_vars; decide) ?_
      intro σ5 x5 hu
      replace h := h.loc x5 (by simp)
      replace g4 : cellAt σ5.H ⟨X.A, 4, none⟩ V.f := h.a.cell rfl
      rw [hvf] at g4
      refine OpsL.nil ⟨fun _ _ _ => g4, ?_⟩
      refine OpsQ.act (by kernel_rfl) (ActStep.walk rfl rfl ?_)
      have hfi := h.fi
      rw [hvf] at hfi
      refine OpsL.appC (bytes := 1) (z := [.bool false]) encBo_len encBo_one hfi hu (by exact rfl) (by exact rfl) (by exact rfl) (by exact rfl) (by exact rfl) rfl (by simp; omega) (by omega) (by (first | (simp only [ASt.ev, tmPut, ↓reduceIte, Nat.reduceEqDiff, *]; done))) (by (first | (simp only [ASt.ev, tmPut, ↓reduceIte, Nat.reduceEqDiff, *]; done))) (by subst_vars; decide) ?_
      intro v3 σ6 hfi6 x6
      refine OpsL.nil ⟨fun k hk e => (by subst e; simp at hk), ?_⟩
      obtain ⟨va, vk, rfl⟩ := OwnC.slice encBo_len hfi6
      have ha6 := h.a.keep x6 (by simp)
      refine OpsQ.one rfl rfl rfl (by kernel_rfl) ?_
      repeat (first | (refine OpsL.q (by exact ofa) ?_) | (refine OpsL.nil ?_; (dsimp only)))
      refine OpsQ.act (by kernel_rfl) (ActStep.walk rfl rfl ?_)
      refine OpsL.setC (k := 4) (v := .slice va (f ++ [decide (getF X.ns (n1 + 1) 3 = 0)]).length vk) (cs' := moC X.pl X.cl { V with f := .slice va (f ++ [decide (getF X.ns (n1 + 1) 3 = 0)]).length vk }) ha6 (by simp [moC]) rfl (by exact rfl) rfl rfl (by (first | (simp only [ASt.ev, tmPut, ↓reduceIte, Nat.reduceEqDiff, *]; rfl))) (by (first | (simp only [ASt.ev, tmPut, ↓reduceIte, Nat.reduceEqDiff, *]; done))) rfl ?_
      rintro σ7 ha7 x7 -
      replace h := h.setFi ((x6.mono (by simp)).trans (x7.mono (by simp))) (OwnC.keep x7 (by simp) hfi6) ha7
      rw [hd']
      refine OpsL.nil ⟨fun k hk => by simp at hk, ?_⟩
      refine OpsQ.nil ?_
      exact ⟨rfl, _, σ7, _, rfl, ⟨by simp [tmPut, *], by simp [tmPut, *], by simp [tmPut, *], by simp [tmPut, *], by simp [tmPut, *], by simp [tmPut, *]⟩, by simp [tmPut, *], h⟩
    · clear t4 t5 t6 t7 t8 t9 t10 t11 h
      rintro e st ⟨rfl, tm, σ, V, rfl, ⟨t4, t5, t6, t7, t8, t9⟩, t10, h⟩
      ((repeat (refine blockExit_normal ?_)); change Trip _ _ _ _ _)
      repeat (first | (refine OpsL.q (by first | exact omv | exact oadd | exact oasg) ?_) | (refine Trip.ops ?_) | (refine OpsL.nil ?_; (dsimp only)))
      exact ⟨i + 1, ⟨_, σ, V, rfl, ⟨by simp [tmPut, *], by simp [tmPut, *], by simp [tmPut, *], by simp [tmPut, *], by simp [tmPut, *], by simp [tmPut, *]⟩, by simp [tmPut, *], by omega, h⟩, by omega⟩
  · repeat (first | (refine Trip.exit ?_; ((repeat (refine blockExit_eq ?_)))))
    have hi2 : i = q.n := by omega
    subst hi2
    exact hQ _ σ V ⟨by simp [tmPut, *], by simp [tmPut, *], by simp [tmPut, *], by simp [tmPut, *], by simp [tmPut, *], by simp [tmPut, *]⟩ h
end Go.Proofs.Ytooakbmehcchnaa
