/-
  The abstract machine, walked by hand: a drawn region with calls whose outcome is known whole; what all states keep is any saying (K).
-/
import Derived.Test.YtigincejpjajpaaAmZ
namespace Go.Am
set_option linter.unusedSimpArgs false
set_option linter.unusedVariables false
open Go.RowKit

section
variable {P : Program} {W0 : World} {ops : Array Oper}

/-- The operations of a region, one behind the other; a call's outcome is known whole. What is read either stands in a fixed order, or reads the same in all that goes on that K holds of. -/
def OpsK (P : Program) (W0 : World) (ops : Array Oper) (K : Nat → Heap → Prop) : Nat → List Oper → ASt → (ASt → Prop) → Prop
  | _, [], st, Q => Q st
  | k, o :: l, st, Q => dstOk st o = true ∧ ((wants ops st o = false ∧ OpsK P W0 ops K (k + 1) l (st.put o.dst undef .none) Q) ∨ (wants ops st o = true ∧
      ((∃ v e, aop P st.H st.nx st.ev o = some (v, e) ∧ edgeOkC ops k o = true ∧ (effOp o.op = true → K (e.nx st.nx) (e.H st.nx st.H)) ∧ OpsK P W0 ops K (k + 1) l (st.put o.dst v e) Q) ∨
       (∃ v, effOp o.op = false ∧ (∀ H' nx', K nx' H' → aop P H' nx' st.ev o = some (v, .none)) ∧ OpsK P W0 ops K (k + 1) l (st.put o.dst v .none) Q) ∨
       (∃ f args v nx' H', callee st o = some (f, args) ∧ Enters P f ∧ ACalls P W0 f args st.nx st.H (fun v1 n1 H1 => v1 = v ∧ n1 = nx' ∧ H1 = H') ∧ K nx' H' ∧ OpsK P W0 ops K (k + 1) l ⟨tmPut st.tm o.dst v, st.n, H', nx'⟩ Q))))

variable {K : Nat → Heap → Prop}
theorem OpsK.nil {k : Nat} {st : ASt} {Q : ASt → Prop} (h : Q st) : OpsK P W0 ops K k [] st Q := h
/-- One operation that makes and writes nothing, walked as ever. -/
theorem OpsK.one {k : Nat} {o : Oper} {l : List Oper} {st : ASt} {Q : ASt → Prop} (he : effOp o.op = false) (hk : edgeOkC ops k o = true) (h : OpsL P W0 ops [o] st fun s => OpsK P W0 ops K (k + 1) l s Q) : OpsK P W0 ops K k (o :: l) st Q := by
  obtain ⟨hd, h⟩ := h
  refine ⟨hd, ?_⟩
  rcases h with ⟨hw, h⟩ | ⟨hw, ⟨v, e, hop, h⟩ | ⟨f, args, R, hc, _⟩⟩
  · exact .inl ⟨hw, h⟩
  · exact .inr ⟨hw, .inl ⟨v, e, hop, hk, fun hx => (by rw [he] at hx; cases hx), h⟩⟩
  · have := callee_goCall hc
    cases ho : o.op <;> simp only [ho, goCall] at this <;> try (cases this; done)
    rename_i c
    cases hcc : c.callee <;> simp [hcc] at this <;> simp [effOp, ho, hcc] at he

/-- One operation that is no call, and what it leaves is kept. -/
theorem OpsK.eff {k : Nat} {o : Oper} {l : List Oper} {st : ASt} {Q : ASt → Prop} {v : Value} {e : Eff} (hd : dstOk st o = true) (hw : wants ops st o = true) (hk : edgeOkC ops k o = true) (hop : aop P st.H st.nx st.ev o = some (v, e)) (hx : K (e.nx st.nx) (e.H st.nx st.H)) (h : OpsK P W0 ops K (k + 1) l (st.put o.dst v e) Q) : OpsK P W0 ops K k (o :: l) st Q :=
  ⟨hd, .inr ⟨hw, .inl ⟨v, e, hop, hk, fun _ => hx, h⟩⟩⟩

theorem OpsK.upd {k : Nat} {op : Op} {type : TypeId} {pos : String} {after : Array Edge} {l : List Oper} {tm : Nat → Value} {n nx : Nat} {H : Heap} {QQ : ASt → Prop} {b : Nat} {o : AObj} (hk : edgeOkC ops k ⟨none, op, type, pos, after, none⟩ = true) (hop : aop P H nx (ASt.ev ⟨tm, n, H, nx⟩) ⟨none, op, type, pos, after, none⟩ = some (undef, .upd b o)) (hx : K nx (H.put b o)) (h : OpsK P W0 ops K (k + 1) l ⟨tm, n, H.put b o, nx⟩ QQ) :
    OpsK P W0 ops K k (⟨none, op, type, pos, after, none⟩ :: l) ⟨tm, n, H, nx⟩ QQ := OpsK.eff rfl rfl hk hop hx h

/-- One that reads the same in all that goes on. -/
theorem OpsK.stable {k : Nat} {o : Oper} {l : List Oper} {st : ASt} {Q : ASt → Prop} {v : Value} (hd : dstOk st o = true) (hw : wants ops st o = true) (he : effOp o.op = false) (hop : ∀ H' nx', K nx' H' → aop P H' nx' st.ev o = some (v, .none)) (h : OpsK P W0 ops K (k + 1) l (st.put o.dst v .none) Q) :
    OpsK P W0 ops K k (o :: l) st Q := ⟨hd, .inr ⟨hw, .inr (.inl ⟨v, he, hop, h⟩)⟩⟩

theorem OpsK.call {k : Nat} {o : Oper} {l : List Oper} {st : ASt} {Q : ASt → Prop} {f : FuncId} {args : List Value} {v : Value} {nx' : Nat} {H' : Heap} (hd : dstOk st o = true) (hw : wants ops st o = true) (hc : callee st o = some (f, args)) (hf : Enters P f)
    (hcall : ACalls P W0 f args st.nx st.H (fun v1 n1 H1 => v1 = v ∧ n1 = nx' ∧ H1 = H')) (hx : K nx' H') (h : OpsK P W0 ops K (k + 1) l ⟨tmPut st.tm o.dst v, st.n, H', nx'⟩ Q) : OpsK P W0 ops K k (o :: l) st Q :=
  ⟨hd, .inr ⟨hw, .inr (.inr ⟨f, args, v, nx', H', hc, hf, hcall, hx, h⟩)⟩⟩

theorem OpsK.unguard {k : Nat} {dst : Option Tmp} {op : Op} {type : TypeId} {pos : String} {after : Array Edge} {l : List Oper} {tm : Nat → Value} {n nx : Nat} {H : Heap} {QQ : ASt → Prop} {j : Nat} {want : Bool} {d' : Tmp} (hj : (ops[j]?).bind (·.dst) = some d') (hb : tm d' = .bool want) (h : OpsK P W0 ops K k (⟨dst, op, type, pos, after, none⟩ :: l) ⟨tm, n, H, nx⟩ QQ) :
    OpsK P W0 ops K k (⟨dst, op, type, pos, after, some (j, want)⟩ :: l) ⟨tm, n, H, nx⟩ QQ := by
  obtain ⟨hd, h⟩ := h
  refine ⟨hd, ?_⟩
  have hw : wants ops ⟨tm, n, H, nx⟩ ⟨dst, op, type, pos, after, some (j, want)⟩ = true := by simp [wants, hj, hb]
  rcases h with ⟨hw', _⟩ | ⟨_, h⟩
  · simp [wants] at hw'
  · refine .inr ⟨hw, ?_⟩
    rcases h with ⟨v, e, h1, h2, h3⟩ | h
    · exact .inl ⟨v, e, h1, h2, h3⟩
    · exact .inr h

section
variable {k : Nat} {type : TypeId} {pos : String} {after : Array Edge} {l : List Oper} {tm : Nat → Value} {n nx nx' : Nat} {H H' : Heap} {v : Value} {QQ : ASt → Prop} {f : FuncId} {d : Tmp} {ts : Array TypeId}
theorem OpsK.sp {op : Op} (hd : d < n) (he : effOp op = false) (hop : ∀ H' nx', K nx' H' → aop P H' nx' (ASt.ev ⟨tm, n, H, nx⟩) ⟨some d, op, type, pos, after, none⟩ = some (v, .none)) (h : OpsK P W0 ops K (k + 1) l ⟨tmPut tm (some d) v, n, H, nx⟩ QQ) :
    OpsK P W0 ops K k (⟨some d, op, type, pos, after, none⟩ :: l) ⟨tm, n, H, nx⟩ QQ :=
  OpsK.stable (by simp [dstOk, hd]) rfl he hop h
theorem OpsK.call1 {c x : Operand} {a : Value} (hd : d < n) (hf' : ASt.ev ⟨tm, n, H, nx⟩ c = some (.func (.func f) #[] #[])) (hx : ASt.ev ⟨tm, n, H, nx⟩ x = some a) (hf : Enters P f) (hcall : ACalls P W0 f [a] nx H (fun v1 n1 H1 => v1 = v ∧ n1 = nx' ∧ H1 = H')) (he : K nx' H') (h : OpsK P W0 ops K (k + 1) l ⟨tmPut tm (some d) v, n, H', nx'⟩ QQ) :
    OpsK P W0 ops K k (⟨some d, .call ⟨.value c, #[x], ts⟩, type, pos, after, none⟩ :: l) ⟨tm, n, H, nx⟩ QQ :=
  OpsK.call (by simp [dstOk, hd]) rfl (by simp [callee, hf', evAll, hx]) hf hcall he h
theorem OpsK.call2 {c x y : Operand} {a b : Value} (hd : d < n) (hf' : ASt.ev ⟨tm, n, H, nx⟩ c = some (.func (.func f) #[] #[])) (hx : ASt.ev ⟨tm, n, H, nx⟩ x = some a) (hy : ASt.ev ⟨tm, n, H, nx⟩ y = some b) (hf : Enters P f) (hcall : ACalls P W0 f [a, b] nx H (fun v1 n1 H1 => v1 = v ∧ n1 = nx' ∧ H1 = H')) (he : K nx' H') (h : OpsK P W0 ops K (k + 1) l ⟨tmPut tm (some d) v, n, H', nx'⟩ QQ) :
    OpsK P W0 ops K k (⟨some d, .call ⟨.value c, #[x, y], ts⟩, type, pos, after, none⟩ :: l) ⟨tm, n, H, nx⟩ QQ :=
  OpsK.call (by simp [dstOk, hd]) rfl (by simp [callee, hf', evAll, hx, hy]) hf hcall he h
end

/-! ### what it shows -/

def PStepK (P : Program) (W0 : World) (ops : Array Oper) (K : Nat → Heap → Prop) (k : Nat) (st : ASt) (o : Oper) (v : Value) (nx' : Nat) (H' : Heap) : Prop :=
  dstOk st o = true ∧ ((wants ops st o = false ∧ v = undef ∧ nx' = st.nx ∧ H' = st.H) ∨ (wants ops st o = true ∧ ((∃ e, aop P st.H st.nx st.ev o = some (v, e) ∧ edgeOkC ops k o = true ∧ (effOp o.op = true → K nx' H') ∧ nx' = e.nx st.nx ∧ H' = e.H st.nx st.H) ∨
    (effOp o.op = false ∧ (∀ H1 n1, K n1 H1 → aop P H1 n1 st.ev o = some (v, .none)) ∧ nx' = st.nx ∧ H' = st.H) ∨
    (goCall o.op = true ∧ K nx' H' ∧ ∃ f args, callee st o = some (f, args) ∧ Enters P f ∧ ACalls P W0 f args st.nx st.H (fun v1 n1 H1 => v1 = v ∧ n1 = nx' ∧ H1 = H')))))

theorem OpsK.vals {Q : ASt → Prop} : ∀ (l : List Oper) (k : Nat) (st : ASt), OpsK P W0 ops K k l st Q → ∃ vs : List (Value × Nat × Heap), vs.length = l.length ∧ Q (ctAt l vs st l.length) ∧
    ∀ (i : Nat) (o : Oper), l[i]? = some o → PStepK P W0 ops K (k + i) (ctAt l vs st i) o (vs.getD i noHeapV).1 (vs.getD i noHeapV).2.1 (vs.getD i noHeapV).2.2 ∧ ctAt l vs st (i + 1) = ⟨tmPut (ctAt l vs st i).tm o.dst (vs.getD i noHeapV).1, (ctAt l vs st i).n, (vs.getD i noHeapV).2.2, (vs.getD i noHeapV).2.1⟩ := by
  intro l
  induction l with
  | nil => intro k st h; exact ⟨[], rfl, h, fun i o ho => by simp at ho⟩
  | cons o l ih =>
    intro k st h
    obtain ⟨hd, h⟩ := h
    have key : ∃ v nx' H', PStepK P W0 ops K k st o v nx' H' ∧ OpsK P W0 ops K (k + 1) l ⟨tmPut st.tm o.dst v, st.n, H', nx'⟩ Q := by
      rcases h with ⟨hw, h⟩ | ⟨hw, ⟨v, e, hop, he, hx, h⟩ | ⟨v, he, hop, h⟩ | ⟨f, args, v, nx', H', hc, hf, hcall, hx, h⟩⟩
      · exact ⟨undef, st.nx, st.H, ⟨hd, .inl ⟨hw, rfl, rfl, rfl⟩⟩, h⟩
      · exact ⟨v, e.nx st.nx, e.H st.nx st.H, ⟨hd, .inr ⟨hw, .inl ⟨e, hop, he, hx, rfl, rfl⟩⟩⟩, h⟩
      · exact ⟨v, st.nx, st.H, ⟨hd, .inr ⟨hw, .inr (.inl ⟨he, hop, rfl, rfl⟩)⟩⟩, h⟩
      · exact ⟨v, nx', H', ⟨hd, .inr ⟨hw, .inr (.inr ⟨callee_goCall hc, hx, f, args, hc, hf, hcall⟩)⟩⟩, h⟩
    obtain ⟨v, nx', H', h1, h2⟩ := key
    obtain ⟨vs, e1, e2, e3⟩ := ih _ _ h2
    refine ⟨(v, nx', H') :: vs, by simp [e1], e2, ?_⟩
    intro i o' ho
    cases i with
    | zero =>
      simp only [List.getElem?_cons_zero, Option.some.injEq] at ho
      subst ho
      refine ⟨by rw [ctAt_zero]; exact h1, ?_⟩
      show ctAt l vs ⟨tmPut st.tm o.dst v, st.n, H', nx'⟩ 0 = _
      rw [ctAt_zero, ctAt_zero]; rfl
    | succ i =>
      have := e3 i o' (by simpa using ho)
      rw [show k + (i + 1) = k + 1 + i by omega]
      exact this

theorem OpsK.drawn {id : Nat} {st : ASt} {Q : AExit → ASt → Prop} (hm : P.follows .mixedOrders = true) (hs : statOk ops = true) (hq : seqOkC ops = true) (h0 : K st.nx st.H) (h : OpsK P W0 ops K 0 ops.toList st (Q .normal)) : Trip P W0 (.region id ops true) st Q := by
  have q2 := hq
  unfold seqOkC at q2
  obtain ⟨vs, e1, e2, e3⟩ := OpsK.vals _ _ _ h
  simp only [Nat.zero_add] at e3
  obtain ⟨b1, b2, b3⟩ := statOk_spec hs
  have toL : ∀ (i : Nat) (o : Oper), ops[i]? = some o → ops.toList[i]? = some o := fun i o ho => by simpa using ho
  have hz := ctAt_zero ops.toList vs st
  have hnn : ∀ i, i ≤ ops.size → (ctAt ops.toList vs st i).n = st.n := by
    intro i
    induction i with
    | zero => intro _; rw [hz]
    | succ i ih =>
      intro hi
      have ho : ops[i]? = some ops[i] := Array.getElem?_eq_getElem (by omega)
      rw [(e3 i _ (toL i _ ho)).2]
      exact ih (by omega)
  have hend : ∀ i, ops[i]? = none → ctAt ops.toList vs st (i + 1) = ctAt ops.toList vs st i := by
    have gen : ∀ (l : List Oper) (us : List (Value × Nat × Heap)) (st : ASt) (i : Nat), us.length = l.length → l.length ≤ i → ctAt l us st (i + 1) = ctAt l us st i := by
      intro l
      induction l with
      | nil => intro us st i _ _; cases i <;> rfl
      | cons o l ih =>
        intro us st i hu hi
        cases us with
        | nil => simp at hu
        | cons u us =>
          cases i with
          | zero => simp at hi
          | succ i => exact ih us _ i (by simpa using hu) (by simpa using hi)
    intro i hi
    exact gen _ _ _ _ e1 (by simpa using Array.getElem?_eq_none_iff.1 hi)
  have hstill : ∀ i, isEff ops i = false → (ctAt ops.toList vs st (i + 1)).H = (ctAt ops.toList vs st i).H ∧ (ctAt ops.toList vs st (i + 1)).nx = (ctAt ops.toList vs st i).nx := by
    intro i hi
    cases ho : ops[i]? with
    | none => rw [hend i ho]; exact ⟨rfl, rfl⟩
    | some o =>
      obtain ⟨⟨_, p2⟩, p3⟩ := e3 i o (toL i o ho)
      have hE : effOp o.op = false := by simpa [isEff, ho] using hi
      rw [p3]
      rcases p2 with ⟨_, _, c, d⟩ | ⟨_, ⟨e, c1, _, _, c2, c3⟩ | ⟨_, _, c, d⟩ | ⟨g, _⟩⟩
      · exact ⟨d, c⟩
      · have := effOp_none hE c1
        subst this
        exact ⟨c3, c2⟩
      · exact ⟨d, c⟩
      · rw [goCall_eff g] at hE; cases hE
  have hextAll : ∀ i, i ≤ ops.size → K (ctAt ops.toList vs st i).nx (ctAt ops.toList vs st i).H := by
    intro i
    induction i with
    | zero => intro _; rw [hz]; exact h0
    | succ i ih =>
      intro hi
      have ho : ops[i]? = some ops[i] := Array.getElem?_eq_getElem (by omega)
      by_cases hE : effOp ops[i].op = true
      · obtain ⟨⟨_, p2⟩, p3⟩ := e3 i _ (toL i _ ho)
        rw [p3]
        rcases p2 with ⟨_, _, c, d⟩ | ⟨_, ⟨e, _, _, c, _⟩ | ⟨g, _⟩ | ⟨_, c, _⟩⟩
        · rw [c, d]; exact ih (by omega)
        · exact c hE
        · rw [g] at hE; cases hE
        · exact c
      · obtain ⟨a, b⟩ := hstill i (by unfold isEff; rw [ho]; simpa using hE)
        rw [a, b]; exact ih (by omega)
  have hrange : ∀ m p, (∀ j, p ≤ j → j < p + m → isEff ops j = false) → (ctAt ops.toList vs st (p + m)).H = (ctAt ops.toList vs st p).H ∧ (ctAt ops.toList vs st (p + m)).nx = (ctAt ops.toList vs st p).nx := by
    intro m
    induction m with
    | zero => intro p _; exact ⟨rfl, rfl⟩
    | succ m ih =>
      intro p hp
      obtain ⟨a1, a2⟩ := ih p (fun j h1 h2 => hp j h1 (by omega))
      obtain ⟨c1, c2⟩ := hstill (p + m) (hp _ (by omega) (by omega))
      exact ⟨by rw [show p + (m + 1) = p + m + 1 by omega, c1, a1], by rw [show p + (m + 1) = p + m + 1 by omega, c2, a2]⟩
  have hev : ∀ (i : Nat) (o : Oper) (H : Heap) (nx : Nat), aop P H nx (evR (opTs o) (ctAt ops.toList vs st i).tm) o = aop P H nx (ctAt ops.toList vs st i).ev o := fun i o H nx =>
    aop_congr (fun x hx => evR_mem (n := (ctAt ops.toList vs st i).n) (nx := (ctAt ops.toList vs st i).nx) (H := (ctAt ops.toList vs st i).H) (fun t ht => mem_opTs (by rw [← ht]; exact hx)))
  refine Trip.drawn (tms := fun i => (ctAt ops.toList vs st i).tm) (vs := fun i => (vs.getD i noHeapV).1) (Hs := fun i => (ctAt ops.toList vs st i).H) (ns := fun i => (ctAt ops.toList vs st i).nx) (isE := isEff ops) hm
    ⟨by rw [hz], by rw [hz], by rw [hz], ?_, ?_, hstill, b1, b2, b3, ?_, ?_, ?_⟩ ?_
  · intro i o ho
    rw [(e3 i o (toL i o ho)).2]
  · intro i o ho
    obtain ⟨⟨p1, p2⟩, p3⟩ := e3 i o (toL i o ho)
    have hlt : i < ops.size := (Array.getElem?_eq_some_iff.1 ho).1
    refine ⟨fun d hd => by have := dstOk_spec p1 d hd; rwa [hnn i (by omega)] at this, ?_⟩
    simp only [wantsT_wants]
    rcases p2 with ⟨a, b, c, d⟩ | ⟨a, ⟨e, c1, _, _, c2, c3⟩ | ⟨_, c1, c2, c3⟩ | ⟨_, _, f, args, g1, g2, g3⟩⟩
    · exact .inl ⟨a, b, by rw [p3, d], by rw [p3, c]⟩
    · exact .inr ⟨a, .inl ⟨e, by rw [hev]; exact c1, by rw [p3, c3], by rw [p3, c2]⟩⟩
    · exact .inr ⟨a, .inl ⟨.none, by rw [hev]; exact c1 _ _ (hextAll i (by omega)), by rw [p3, c3]; rfl, by rw [p3, c2]; rfl⟩⟩
    · refine .inr ⟨a, .inr (.inl ⟨f, args, by rw [calleeE_congr]; exact g1, g2, ?_⟩)⟩
      rw [p3]; exact g3
  · intro i j oj hi hj hoj hij hbetween
    unfold isEff at hi hj
    cases hoi : ops[i]? with
    | none => rw [hoi] at hi; cases hi
    | some oi =>
      rw [hoi] at hi
      rw [hoj] at hj
      simp only at hi hj
      have := allIdx_spec _ _ (allIdx_spec _ _ q2 i oi (toL i oi hoi)) j oj (toL j oj hoj)
      simp only [Nat.zero_add, hi, hj, hij, decide_true, Bool.and_self, Bool.not_true, Bool.false_or, Bool.or_eq_true] at this
      rcases this with h1 | h1
      · exact ⟨3, depNB_iff _ _ _ h1⟩
      · rw [List.any_eq_true] at h1
        obtain ⟨k, _, hk⟩ := h1
        simp only [Bool.and_eq_true, decide_eq_true_eq] at hk
        obtain ⟨⟨k1, k2⟩, k3⟩ := hk
        have := hbetween k k1 k2
        unfold isEff at this
        cases hok : ops[k]? with
        | none => rw [hok] at k3; cases k3
        | some o => rw [hok] at this k3; simp only at this k3; rw [this] at k3; cases k3
  · intro i oi p ho hE hw _ hple hdep hnot
    obtain ⟨⟨p1, p2⟩, p3⟩ := e3 i oi (toL i oi ho)
    have hlt : i < ops.size := (Array.getElem?_eq_some_iff.1 ho).1
    have hEo : effOp oi.op = false := by simpa [isEff, ho] using hE
    simp only [wantsT_wants] at hw
    have hcases : (aop P (ctAt ops.toList vs st i).H (ctAt ops.toList vs st i).nx (ctAt ops.toList vs st i).ev oi = some ((vs.getD i noHeapV).1, .none) ∧ edgeOkC ops i oi = true) ∨ (∀ H1 n1, K n1 H1 → aop P H1 n1 (ctAt ops.toList vs st i).ev oi = some ((vs.getD i noHeapV).1, .none)) := by
      rcases p2 with ⟨a, _⟩ | ⟨_, ⟨e, c1, c2, _⟩ | ⟨_, c, _⟩ | ⟨g, _⟩⟩
      · rw [hw] at a; cases a
      · rw [effOp_none hEo c1] at c1; exact .inl ⟨c1, c2⟩
      · exact .inr c
      · rw [goCall_eff g] at hEo; cases hEo
    show aop P _ _ (evR (opTs oi) (ctAt ops.toList vs st i).tm) oi = _
    rw [hev]
    rcases hcases with ⟨hop, hq⟩ | hst
    case inr => exact hst _ _ (hextAll p hple)
    unfold edgeOkC at hq
    simp only [hEo, Bool.false_or, Bool.or_eq_true] at hq
    rcases hq with hf | hf
    · rw [heapFree_aop (H' := (ctAt ops.toList vs st i).H) (nx' := (ctAt ops.toList vs st i).nx) hf]; exact hop
    · have hrel : ∀ j, isEff ops j = true → (j < i → j < p) ∧ (i < j → p ≤ j) := by
        intro j hj
        have hj' := hj
        unfold isEff at hj
        cases hoj : ops[j]? with
        | none => rw [hoj] at hj; cases hj
        | some oj =>
          rw [hoj] at hj
          simp only at hj
          have := allIdx_spec _ _ hf j oj (toL j oj hoj)
          simp only [Nat.zero_add, hj, Bool.not_true, Bool.false_or, Bool.or_eq_true] at this
          rcases this with h1 | h1
          · have hd := depB_iff.1 h1
            have := b1 i oi ho j hd
            exact ⟨fun _ => hdep j hj' hd, fun _ => by omega⟩
          · have hd := depB_iff.1 h1
            have := b1 j oj hoj i hd
            refine ⟨fun _ => by omega, fun _ => ?_⟩
            rcases Nat.lt_or_ge j p with c | c
            · exact absurd hd (hnot j oj hj' c hoj)
            · exact c
      have hsame : (ctAt ops.toList vs st p).H = (ctAt ops.toList vs st i).H ∧ (ctAt ops.toList vs st p).nx = (ctAt ops.toList vs st i).nx := by
        rcases Nat.le_total p i with c | c
        · obtain ⟨m, rfl⟩ : ∃ m, i = p + m := ⟨i - p, by omega⟩
          obtain ⟨a1, a2⟩ := hrange m p (fun j h1 h2 => by
            cases hj : isEff ops j with
            | false => rfl
            | true => have := (hrel j hj).1 h2; omega)
          exact ⟨a1.symm, a2.symm⟩
        · obtain ⟨m, rfl⟩ : ∃ m, p = i + m := ⟨p - i, by omega⟩
          exact hrange m i (fun j h1 h2 => by
            cases hj : isEff ops j with
            | false => rfl
            | true =>
              have hne : j ≠ i := fun x => by rw [x, hE] at hj; cases hj
              have := (hrel j hj).2 (by omega); omega)
      simp only [hsame.1, hsame.2]
      exact hop
  · intro i hi
    unfold isEff at hi
    cases ho : ops[i]? with
    | none => rw [ho] at hi; cases hi
    | some o => exact (Array.getElem?_eq_some_iff.1 ho).1
  · have hl : ops.toList.length = ops.size := by simp
    rw [hl] at e2
    have hn := hnn ops.size (Nat.le_refl _)
    have : (⟨(ctAt ops.toList vs st ops.size).tm, st.n, (ctAt ops.toList vs st ops.size).H, (ctAt ops.toList vs st ops.size).nx⟩ : ASt) = ctAt ops.toList vs st ops.size := by rw [← hn]
    rw [this]
    exact e2
end
end Go.Am
