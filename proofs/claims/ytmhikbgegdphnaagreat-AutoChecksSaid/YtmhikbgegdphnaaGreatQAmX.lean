import Derived.Test.YtmhikbgegdphnaaGreatQAmV
namespace Go.Am
set_option linter.unusedSimpArgs false
set_option linter.unusedVariables false
open Go.RowKit
section
variable {P : Program} {W0 : World} {ops : Array Oper}
def effOp : Op → Bool
  | .move _ | .assign _ | .pick .. | .build .. | .load .. | .nilCheck _ | .binOp .. | .unOp .. | .makeFunc .. | .lookup .. | .slice .. | .fieldAddr .. | .field .. | .indexAddr .. | .index .. | .extract .. => false
  | .call c => match c.callee with
    | .builtin .len | .builtin .min | .builtin .max | .builtin .cap => false
    | _ => true
  | _ => true
def heapFree : Op → Bool
  | .move _ | .assign _ | .pick .. | .build .. | .unOp .. | .fieldAddr .. | .field .. | .indexAddr .. | .index .. | .extract .. | .nilCheck _ => true
  | .binOp op .. => op != .eql && op != .neq
  | _ => false
def goCall : Op → Bool
  | .call c => match c.callee with
    | .builtin _ => false
    | _ => true
  | _ => false
theorem effOp_none {ev : Operand → Option Value} {H : Heap} {nx : Nat} {o : Oper} {v : Value} {e : Eff} (h : effOp o.op = false) (hop : aop P H nx ev o = some (v, e)) : e = .none := by
  unfold aop at hop
  cases ho : o.op <;> simp only [ho, effOp] at h hop <;> try (cases h; done)
  case call c =>
    cases hc : c.callee <;> simp only [hc] at h hop <;> try (cases h; done)
    rename_i b
    simp only [Option.bind_eq_some_iff] at hop
    obtain ⟨l, _, hl⟩ := hop
    cases b <;> simp only at h <;> try (cases h; done)
    all_goals
      unfold aBuiltin at hl
      split at hl <;> simp_all [Option.map_eq_some_iff]
      all_goals (obtain ⟨_, _, _, h⟩ := hl; exact h.symm)
  case pick =>
    split at hop <;> simp_all [Option.map_eq_some_iff]
    all_goals (obtain ⟨_, _, _, h⟩ := hop; exact h.symm)
  case nilCheck =>
    split at hop <;> simp_all
  all_goals simp only [Option.bind_eq_some_iff, Option.map_eq_some_iff, Prod.mk.injEq] at hop
  all_goals first
    | (obtain ⟨_, _, _, rfl⟩ := hop; rfl)
    | (obtain ⟨_, _, _, _, _, rfl⟩ := hop; rfl)
    | (obtain ⟨_, _, _, _, _, _, _, rfl⟩ := hop; rfl)
    | (obtain ⟨_, _, _, _, _, _, _, _, _, _, _, rfl⟩ := hop; rfl)
    | (obtain ⟨_, _, _, _, _, _, _, _, _, _, _, _, _, rfl⟩ := hop; rfl)
theorem aBin_free {H H' : Heap} {op : BinOp} {t : TypeId} {x y : Operand} {a b : Value} (h : (op != .eql && op != .neq) = true) : aBin P H op t x y a b = aBin P H' op t x y a b := by
  unfold aBin
  split
  · rfl
  · rfl
  · split
    · cases op <;> first | rfl | (simp at h)
    · rfl
theorem heapFree_aop {ev : Operand → Option Value} {H H' : Heap} {nx nx' : Nat} {o : Oper} (h : heapFree o.op = true) : aop P H nx ev o = aop P H' nx' ev o := by
  unfold aop
  cases ho : o.op <;> simp only [ho, heapFree] at h ⊢ <;> try (cases h; done)
  case binOp op t x y yt =>
    simp only [aBin_free (P := P) (H := H) (H' := H') h]
theorem evR_mem {ts : List Tmp} {tm : Nat → Value} {n nx : Nat} {H : Heap} {x : Operand} (h : ∀ t, x = .tmp t → t ∈ ts) : evR ts tm x = ASt.ev ⟨tm, n, H, nx⟩ x := by
  cases x with
  | tmp t => simp [evR, ASt.ev, h t rfl]
  | _ => rfl
theorem mem_opTs {o : Oper} {t : Tmp} (h : Operand.tmp t ∈ o.op.operands.toList) : t ∈ opTs o := by
  unfold opTs
  rw [List.mem_filterMap]
  exact ⟨.tmp t, h, rfl⟩
theorem evAll_congr {ev ev' : Operand → Option Value} : ∀ (l : List Operand), (∀ x ∈ l, ev x = ev' x) → evAll ev l = evAll ev' l := by
  intro l
  induction l with
  | nil => intro _; rfl
  | cons x l ih =>
    intro h
    simp only [evAll, h x (by simp), ih (fun y hy => h y (by simp [hy]))]
theorem evParts_congr {ev ev' : Operand → Option Value} : ∀ (l : List (Nat × Operand)), (∀ x ∈ l, ev x.2 = ev' x.2) → evParts ev l = evParts ev' l := by
  intro l
  induction l with
  | nil => intro _; rfl
  | cons x l ih =>
    obtain ⟨i, x⟩ := x
    intro h
    simp only [evParts, h (i, x) (by simp), ih (fun y hy => h y (by simp [hy]))]
theorem evOpt_congr {ev ev' : Operand → Option Value} {o : Option Operand} (h : ∀ x, o = some x → ev x = ev' x) : evOpt ev o = evOpt ev' o := by
  cases o with
  | none => rfl
  | some x => simp only [evOpt, h x rfl]
theorem aop_congr {ev ev' : Operand → Option Value} {H : Heap} {nx : Nat} {o : Oper} (h : ∀ x ∈ o.op.operands.toList, ev x = ev' x) : aop P H nx ev o = aop P H nx ev' o := by
  unfold aop
  cases ho : o.op <;> simp only [ho, Op.operands] at h ⊢
  case call c =>
    cases hc : c.callee <;> simp only
    rename_i b
    rw [evAll_congr c.args.toList (fun x hx => h x (by simp [Call.operands, hc]; first | exact hx | exact .inr hx | simpa using hx))]
  case build t ps => rw [evParts_congr ps.toList (fun x hx => h x.2 (by simp; exact ⟨x.1, by simpa using hx⟩))]
  case buildSlice t n ps => rw [evParts_congr ps.toList (fun x hx => h x.2 (by simp; exact ⟨x.1, by simpa using hx⟩))]
  case makeFunc fn first captured =>
    rw [evAll_congr first.toList (fun x hx => h x (by simp; left; simpa using hx)), evAll_congr captured.toList (fun x hx => h x (by simp; right; simpa using hx))]
  case makeMap t r => rw [evOpt_congr (fun x hx => h x (by simp [hx]))]
  case slice t x lo hi mx =>
    rw [h x (by simp), evOpt_congr (o := lo) (fun y hy => h y (by simp [hy])), evOpt_congr (o := hi) (fun y hy => h y (by simp [hy])), evOpt_congr (o := mx) (fun y hy => h y (by simp [hy]))]
  all_goals first
    | rfl
    | (rename_i x; rw [h x (by simp)]; done)
    | (rename_i t x; rw [h x (by simp)]; done)
    | (simp only [List.mem_cons, List.not_mem_nil, or_false, forall_eq_or_imp, forall_eq] at h; simp only [h]; done)
    | skip
def stAt : List Oper → List (Value × Eff) → ASt → Nat → ASt
  | o :: l, ve :: vs, st, i + 1 => stAt l vs (st.put o.dst ve.1 ve.2) i
  | _, _, st, _ => st
def PStepL (P : Program) (ops : Array Oper) (st : ASt) (o : Oper) (v : Value) (e : Eff) : Prop :=
  dstOk st o = true ∧ ((wants ops st o = false ∧ v = undef ∧ e = .none) ∨ (wants ops st o = true ∧ aop P st.H st.nx st.ev o = some (v, e)))
theorem callee_goCall {st : ASt} {o : Oper} {x : FuncId × List Value} (h : callee st o = some x) : goCall o.op = true := by
  unfold callee at h
  split at h
  · rename_i c ho
    rw [ho]
    split at h
    · rename_i y hc; simp [goCall, hc]
    · cases h
  · cases h
theorem stAt_zero (l : List Oper) (vs : List (Value × Eff)) (st : ASt) : stAt l vs st 0 = st := by cases l <;> cases vs <;> rfl
theorem OpsL.vals {Q : ASt → Prop} : ∀ (l : List Oper) (st : ASt), (∀ o ∈ l, goCall o.op = false) → OpsL P W0 ops l st Q → ∃ vs : List (Value × Eff), vs.length = l.length ∧ Q (stAt l vs st l.length) ∧
    ∀ (i : Nat) (o : Oper), l[i]? = some o → PStepL P ops (stAt l vs st i) o (vs.getD i (undef, .none)).1 (vs.getD i (undef, .none)).2 ∧ stAt l vs st (i + 1) = (stAt l vs st i).put o.dst (vs.getD i (undef, .none)).1 (vs.getD i (undef, .none)).2 := by
  intro l
  induction l with
  | nil => intro st _ h; exact ⟨[], rfl, h, fun i o ho => by simp at ho⟩
  | cons o l ih =>
    intro st hg h
    have hg0 := hg o (by simp)
    have hgl := fun x hx => hg x (List.mem_cons_of_mem _ hx)
    obtain ⟨hd, h⟩ := h
    have key : ∃ v e, PStepL P ops st o v e ∧ OpsL P W0 ops l (st.put o.dst v e) Q := by
      rcases h with ⟨hw, h⟩ | ⟨hw, ⟨v, e, hop, h⟩ | ⟨f, args, R, hc, _⟩⟩
      · exact ⟨undef, .none, ⟨hd, .inl ⟨hw, rfl, rfl⟩⟩, h⟩
      · exact ⟨v, e, ⟨hd, .inr ⟨hw, hop⟩⟩, h⟩
      · rw [callee_goCall hc] at hg0; cases hg0
    obtain ⟨v, e, h1, h2⟩ := key
    obtain ⟨vs, e1, e2, e3⟩ := ih _ hgl h2
    refine ⟨(v, e) :: vs, by simp [e1], e2, ?_⟩
    intro i o' ho
    cases i with
    | zero =>
      simp only [List.getElem?_cons_zero, Option.some.injEq] at ho
      subst ho
      refine ⟨by rw [stAt_zero]; exact h1, ?_⟩
      show stAt l vs (st.put o.dst v e) 0 = _
      rw [stAt_zero, stAt_zero]; rfl
    | succ i => exact e3 i o' (by simpa using ho)
def seqOk (ops : Array Oper) : Bool :=
  (ops.toList.all fun o => !goCall o.op) &&
  allIdx (fun i oi => allIdx (fun j oj => !(effOp oi.op && effOp oj.op && decide (i < j)) || depB oj i || (List.range ops.size).any fun k => decide (i < k) && decide (k < j) && (match ops[k]? with | some o => effOp o.op | none => false)) 0 ops.toList) 0 ops.toList &&
  allIdx (fun i oi => effOp oi.op || heapFree oi.op || allIdx (fun j oj => !effOp oj.op || depB oi j || depB oj i) 0 ops.toList) 0 ops.toList
def isEff (ops : Array Oper) (i : Nat) : Bool :=
  match ops[i]? with
  | some o => effOp o.op
  | none => false
theorem OpsL.drawn {id : Nat} {st : ASt} {Q : AExit → ASt → Prop} (hm : P.follows .mixedOrders = true) (hs : statOk ops = true) (hq : seqOk ops = true) (h : OpsL P W0 ops ops.toList st (Q .normal)) : Trip P W0 (.region id ops true) st Q := by
  unfold seqOk at hq
  simp only [Bool.and_eq_true] at hq
  obtain ⟨⟨q1, q2⟩, q3⟩ := hq
  have hgo : ∀ o ∈ ops.toList, goCall o.op = false := fun o ho => by simpa using List.all_eq_true.1 q1 o ho
  obtain ⟨vs, e1, e2, e3⟩ := OpsL.vals _ _ hgo h
  obtain ⟨b1, b2, b3⟩ := statOk_spec hs
  have toL : ∀ (i : Nat) (o : Oper), ops[i]? = some o → ops.toList[i]? = some o := fun i o ho => by simpa using ho
  have hz := stAt_zero ops.toList vs st
  have hnn : ∀ i, i ≤ ops.size → (stAt ops.toList vs st i).n = st.n := by
    intro i
    induction i with
    | zero => intro _; rw [hz]
    | succ i ih =>
      intro hi
      have ho : ops[i]? = some ops[i] := Array.getElem?_eq_getElem (by omega)
      rw [(e3 i _ (toL i _ ho)).2]
      exact ih (by omega)
  have hend : ∀ i, ops[i]? = none → stAt ops.toList vs st (i + 1) = stAt ops.toList vs st i := by
    have gen : ∀ (l : List Oper) (us : List (Value × Eff)) (st : ASt) (i : Nat), us.length = l.length → l.length ≤ i → stAt l us st (i + 1) = stAt l us st i := by
      intro l
      induction l with
      | nil => intro us st i _ _; cases i <;> rfl
      | cons o l ih =>
        intro us st i hu hi
        cases us with
        | nil => simp at hu
        | cons u us =>
          cases i with
          | zero => simp at hi
          | succ i => exact ih us _ i (by simpa using hu) (by simpa using hi)
    intro i hi
    exact gen _ _ _ _ e1 (by simpa using Array.getElem?_eq_none_iff.1 hi)
  have hstill : ∀ i, isEff ops i = false → (stAt ops.toList vs st (i + 1)).H = (stAt ops.toList vs st i).H ∧ (stAt ops.toList vs st (i + 1)).nx = (stAt ops.toList vs st i).nx := by
    intro i hi
    cases ho : ops[i]? with
    | none => rw [hend i ho]; exact ⟨rfl, rfl⟩
    | some o =>
      obtain ⟨⟨_, p2⟩, p3⟩ := e3 i o (toL i o ho)
      have hne : (vs.getD i (undef, .none)).2 = .none := by
        rcases p2 with ⟨_, _, c⟩ | ⟨_, c⟩
        · exact c
        · exact effOp_none (by simpa [isEff, ho] using hi) c
      rw [p3, hne]
      exact ⟨rfl, rfl⟩
  have hrange : ∀ m p, (∀ j, p ≤ j → j < p + m → isEff ops j = false) → (stAt ops.toList vs st (p + m)).H = (stAt ops.toList vs st p).H ∧ (stAt ops.toList vs st (p + m)).nx = (stAt ops.toList vs st p).nx := by
    intro m
    induction m with
    | zero => intro p _; exact ⟨rfl, rfl⟩
    | succ m ih =>
      intro p hp
      obtain ⟨a1, a2⟩ := ih p (fun j h1 h2 => hp j h1 (by omega))
      obtain ⟨c1, c2⟩ := hstill (p + m) (hp _ (by omega) (by omega))
      exact ⟨by rw [show p + (m + 1) = p + m + 1 by omega, c1, a1], by rw [show p + (m + 1) = p + m + 1 by omega, c2, a2]⟩
  have hev : ∀ (i : Nat) (o : Oper) (H : Heap) (nx : Nat), aop P H nx (evR (opTs o) (stAt ops.toList vs st i).tm) o = aop P H nx (stAt ops.toList vs st i).ev o := fun i o H nx =>
    aop_congr (fun x hx => evR_mem (n := (stAt ops.toList vs st i).n) (nx := (stAt ops.toList vs st i).nx) (H := (stAt ops.toList vs st i).H) (fun t ht => mem_opTs (by rw [← ht]; exact hx)))
  refine Trip.drawn (tms := fun i => (stAt ops.toList vs st i).tm) (vs := fun i => (vs.getD i (undef, .none)).1) (Hs := fun i => (stAt ops.toList vs st i).H) (ns := fun i => (stAt ops.toList vs st i).nx) (isE := isEff ops) hm
    ⟨by rw [hz], by rw [hz], by rw [hz], ?_, ?_, hstill, b1, b2, b3, ?_, ?_, ?_⟩ ?_
  · intro i o ho
    rw [(e3 i o (toL i o ho)).2]
    rfl
  · intro i o ho
    obtain ⟨⟨p1, p2⟩, p3⟩ := e3 i o (toL i o ho)
    have hlt : i < ops.size := (Array.getElem?_eq_some_iff.1 ho).1
    refine ⟨fun d hd => by have := dstOk_spec p1 d hd; rwa [hnn i (by omega)] at this, ?_⟩
    simp only [wantsT_wants]
    rcases p2 with ⟨a, b, c⟩ | ⟨a, b⟩
    · exact .inl ⟨a, b, by rw [p3, c]; rfl, by rw [p3, c]; rfl⟩
    · exact .inr ⟨a, .inl ⟨_, by rw [hev]; exact b, by rw [p3]; rfl, by rw [p3]; rfl⟩⟩
  · intro i j oj hi hj hoj hij hbetween
    unfold isEff at hi hj
    cases hoi : ops[i]? with
    | none => rw [hoi] at hi; cases hi
    | some oi =>
      rw [hoi] at hi
      rw [hoj] at hj
      simp only at hi hj
      have := allIdx_spec _ _ (allIdx_spec _ _ q2 i oi (toL i oi hoi)) j oj (toL j oj hoj)
      simp only [Nat.zero_add, hi, hj, hij, decide_true, Bool.and_self, Bool.not_true, Bool.false_or, Bool.or_eq_true] at this
      rcases this with h1 | h1
      · exact ⟨0, depB_iff.1 h1⟩
      · rw [List.any_eq_true] at h1
        obtain ⟨k, _, hk⟩ := h1
        simp only [Bool.and_eq_true, decide_eq_true_eq] at hk
        obtain ⟨⟨k1, k2⟩, k3⟩ := hk
        have := hbetween k k1 k2
        unfold isEff at this
        rw [this] at k3; cases k3
  · intro i oi p ho hE hw _ hple hdep hnot
    obtain ⟨⟨p1, p2⟩, p3⟩ := e3 i oi (toL i oi ho)
    have hlt : i < ops.size := (Array.getElem?_eq_some_iff.1 ho).1
    have hEo : effOp oi.op = false := by simpa [isEff, ho] using hE
    simp only [wantsT_wants] at hw
    have hop : aop P (stAt ops.toList vs st i).H (stAt ops.toList vs st i).nx (stAt ops.toList vs st i).ev oi = some ((vs.getD i (undef, .none)).1, .none) := by
      rcases p2 with ⟨a, _⟩ | ⟨_, b⟩
      · rw [hw] at a; cases a
      · rw [effOp_none hEo b] at b; exact b
    show aop P _ _ (evR (opTs oi) (stAt ops.toList vs st i).tm) oi = _
    rw [hev]
    have hq := allIdx_spec _ _ q3 i oi (toL i oi ho)
    simp only [hEo, Bool.false_or, Bool.or_eq_true] at hq
    rcases hq with hf | hf
    · rw [heapFree_aop (H' := (stAt ops.toList vs st i).H) (nx' := (stAt ops.toList vs st i).nx) hf]; exact hop
    · have hrel : ∀ j, isEff ops j = true → (j < i → j < p) ∧ (i < j → p ≤ j) := by
        intro j hj
        have hj' := hj
        unfold isEff at hj
        cases hoj : ops[j]? with
        | none => rw [hoj] at hj; cases hj
        | some oj =>
          rw [hoj] at hj
          simp only at hj
          have := allIdx_spec _ _ hf j oj (toL j oj hoj)
          simp only [Nat.zero_add, hj, Bool.not_true, Bool.false_or, Bool.or_eq_true] at this
          rcases this with h1 | h1
          · have hd := depB_iff.1 h1
            have := b1 i oi ho j hd
            exact ⟨fun _ => hdep j hj' hd, fun _ => by omega⟩
          · have hd := depB_iff.1 h1
            have := b1 j oj hoj i hd
            refine ⟨fun _ => by omega, fun _ => ?_⟩
            rcases Nat.lt_or_ge j p with c | c
            · exact absurd hd (hnot j oj hj' c hoj)
            · exact c
      have hsame : (stAt ops.toList vs st p).H = (stAt ops.toList vs st i).H ∧ (stAt ops.toList vs st p).nx = (stAt ops.toList vs st i).nx := by
        rcases Nat.le_total p i with c | c
        · obtain ⟨m, rfl⟩ : ∃ m, i = p + m := ⟨i - p, by omega⟩
          obtain ⟨a1, a2⟩ := hrange m p (fun j h1 h2 => by
            cases hj : isEff ops j with
            | false => rfl
            | true => have := (hrel j hj).1 h2; omega)
          exact ⟨a1.symm, a2.symm⟩
        · obtain ⟨m, rfl⟩ : ∃ m, p = i + m := ⟨p - i, by omega⟩
          exact hrange m i (fun j h1 h2 => by
            cases hj : isEff ops j with
            | false => rfl
            | true =>
              have hne : j ≠ i := fun x => by rw [x, hE] at hj; cases hj
              have := (hrel j hj).2 (by omega); omega)
      simp only [hsame.1, hsame.2]
      exact hop
  · intro i hi
    unfold isEff at hi
    cases ho : ops[i]? with
    | none => rw [ho] at hi; cases hi
    | some o => exact (Array.getElem?_eq_some_iff.1 ho).1
  · have hl : ops.toList.length = ops.size := by simp
    rw [hl] at e2
    have hn := hnn ops.size (Nat.le_refl _)
    have : (⟨(stAt ops.toList vs st ops.size).tm, st.n, (stAt ops.toList vs st ops.size).H, (stAt ops.toList vs st ops.size).nx⟩ : ASt) = stAt ops.toList vs st ops.size := by rw [← hn]
    rw [this]
    exact e2
end
end Go.Am
