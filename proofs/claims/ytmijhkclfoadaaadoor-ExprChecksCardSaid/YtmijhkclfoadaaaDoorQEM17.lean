import Derived.Test.YtmijhkclfoadaaaDoorQEM16
namespace Go.Am
set_option linter.unusedSimpArgs false
set_option linter.unusedVariables false
open Go.RowKit
section
variable {P : Program} {W0 : World} {ops : Array Oper}
def effOp : Op → Bool
  | .move _ | .assign _ | .pick .. | .build .. | .load .. | .nilCheck _ | .binOp .. | .unOp .. | .makeFunc .. | .lookup .. | .slice .. | .fieldAddr .. | .field .. | .indexAddr .. | .index .. | .extract .. => false
  | .call c => match c.callee with
    | .builtin .len | .builtin .min | .builtin .max | .builtin .cap => false
    | _ => true
  | _ => true
def heapFree : Op → Bool
  | .move _ | .assign _ | .pick .. | .build .. | .unOp .. | .fieldAddr .. | .field .. | .indexAddr .. | .index .. | .extract .. | .nilCheck _ => true
  | .binOp op .. => op != .eql && op != .neq
  | _ => false
def goCall : Op → Bool
  | .call c => match c.callee with
    | .builtin _ => false
    | _ => true
  | _ => false
theorem effOp_none {ev : Operand → Option Value} {H : Heap} {nx : Nat} {o : Oper} {v : Value} {e : Eff} (h : effOp o.op = false) (hop : aop P H nx ev o = some (v, e)) : e = .none := by
  unfold aop at hop
  cases ho : o.op <;> simp only [ho, effOp] at h hop <;> try (cases h; done)
  case call c =>
    cases hc : c.callee <;> simp only [hc] at h hop <;> try (cases h; done)
    rename_i b
    simp only [Option.bind_eq_some_iff] at hop
    obtain ⟨l, _, hl⟩ := hop
    cases b <;> simp only at h <;> try (cases h; done)
    all_goals
      unfold aBuiltin at hl
      split at hl <;> simp_all [Option.map_eq_some_iff]
      all_goals (obtain ⟨_, _, _, h⟩ := hl; exact h.symm)
  case pick =>
    split at hop <;> simp_all [Option.map_eq_some_iff]
    all_goals (obtain ⟨_, _, _, h⟩ := hop; exact h.symm)
  case nilCheck =>
    split at hop <;> simp_all
  all_goals simp only [Option.bind_eq_some_iff, Option.map_eq_some_iff, Prod.mk.injEq] at hop
  all_goals first
    | (obtain ⟨_, _, _, rfl⟩ := hop; rfl)
    | (obtain ⟨_, _, _, _, _, rfl⟩ := hop; rfl)
    | (obtain ⟨_, _, _, _, _, _, _, rfl⟩ := hop; rfl)
    | (obtain ⟨_, _, _, _, _, _, _, _, _, _, _, rfl⟩ := hop; rfl)
    | (obtain ⟨_, _, _, _, _, _, _, _, _, _, _, _, _, rfl⟩ := hop; rfl)
theorem aBin_free {H H' : Heap} {op : BinOp} {t : TypeId} {x y : Operand} {a b : Value} (h : (op != .eql && op != .neq) = true) : aBin P H op t x y a b = aBin P H' op t x y a b := by
  unfold aBin
  split
  · rfl
  · rfl
  · split
    · cases op <;> first | rfl | (simp at h)
    · rfl
theorem heapFree_aop {ev : Operand → Option Value} {H H' : Heap} {nx nx' : Nat} {o : Oper} (h : heapFree o.op = true) : aop P H nx ev o = aop P H' nx' ev o := by
  unfold aop
  cases ho : o.op <;> simp only [ho, heapFree] at h ⊢ <;> try (cases h; done)
  case binOp op t x y yt =>
    simp only [aBin_free (P := P) (H := H) (H' := H') h]
theorem evR_mem {ts : List Tmp} {tm : Nat → Value} {n nx : Nat} {H : Heap} {x : Operand} (h : ∀ t, x = .tmp t → t ∈ ts) : evR ts tm x = ASt.ev ⟨tm, n, H, nx⟩ x := by
  cases x with
  | tmp t => simp [evR, ASt.ev, h t rfl]
  | _ => rfl
theorem mem_opTs {o : Oper} {t : Tmp} (h : Operand.tmp t ∈ o.op.operands.toList) : t ∈ opTs o := by
  unfold opTs
  rw [List.mem_filterMap]
  exact ⟨.tmp t, h, rfl⟩
theorem evAll_congr {ev ev' : Operand → Option Value} : ∀ (l : List Operand), (∀ x ∈ l, ev x = ev' x) → evAll ev l = evAll ev' l := by
  intro l
  induction l with
  | nil => intro _; rfl
  | cons x l ih =>
    intro h
    simp only [evAll, h x (by simp), ih (fun y hy => h y (by simp [hy]))]
theorem evParts_congr {ev ev' : Operand → Option Value} : ∀ (l : List (Nat × Operand)), (∀ x ∈ l, ev x.2 = ev' x.2) → evParts ev l = evParts ev' l := by
  intro l
  induction l with
  | nil => intro _; rfl
  | cons x l ih =>
    obtain ⟨i, x⟩ := x
    intro h
    simp only [evParts, h (i, x) (by simp), ih (fun y hy => h y (by simp [hy]))]
theorem evOpt_congr {ev ev' : Operand → Option Value} {o : Option Operand} (h : ∀ x, o = some x → ev x = ev' x) : evOpt ev o = evOpt ev' o := by
  cases o with
  | none => rfl
  | some x => simp only [evOpt, h x rfl]
theorem aop_congr {ev ev' : Operand → Option Value} {H : Heap} {nx : Nat} {o : Oper} (h : ∀ x ∈ o.op.operands.toList, ev x = ev' x) : aop P H nx ev o = aop P H nx ev' o := by
  unfold aop
  cases ho : o.op <;> simp only [ho, Op.operands] at h ⊢
  case call c =>
    cases hc : c.callee <;> simp only
    rename_i b
    rw [evAll_congr c.args.toList (fun x hx => h x (by simp [Call.operands, hc]; first | exact hx | exact .inr hx | simpa using hx))]
  case build t ps => rw [evParts_congr ps.toList (fun x hx => h x.2 (by simp; exact ⟨x.1, by simpa using hx⟩))]
  case buildSlice t n ps => rw [evParts_congr ps.toList (fun x hx => h x.2 (by simp; exact ⟨x.1, by simpa using hx⟩))]
  case makeFunc fn first captured =>
    rw [evAll_congr first.toList (fun x hx => h x (by simp; left; simpa using hx)), evAll_congr captured.toList (fun x hx => h x (by simp; right; simpa using hx))]
  case makeMap t r => rw [evOpt_congr (fun x hx => h x (by simp [hx]))]
  case slice t x lo hi mx =>
    rw [h x (by simp), evOpt_congr (o := lo) (fun y hy => h y (by simp [hy])), evOpt_congr (o := hi) (fun y hy => h y (by simp [hy])), evOpt_congr (o := mx) (fun y hy => h y (by simp [hy]))]
  all_goals first
    | rfl
    | (rename_i x; rw [h x (by simp)]; done)
    | (rename_i t x; rw [h x (by simp)]; done)
    | (simp only [List.mem_cons, List.not_mem_nil, or_false, forall_eq_or_imp, forall_eq] at h; simp only [h]; done)
    | skip
def stAt : List Oper → List (Value × Eff) → ASt → Nat → ASt
  | o :: l, ve :: vs, st, i + 1 => stAt l vs (st.put o.dst ve.1 ve.2) i
  | _, _, st, _ => st
def PStepL (P : Program) (ops : Array Oper) (st : ASt) (o : Oper) (v : Value) (e : Eff) : Prop :=
  dstOk st o = true ∧ ((wants ops st o = false ∧ v = undef ∧ e = .none) ∨ (wants ops st o = true ∧ aop P st.H st.nx st.ev o = some (v, e)))
theorem callee_goCall {st : ASt} {o : Oper} {x : FuncId × List Value} (h : callee st o = some x) : goCall o.op = true := by
  unfold callee at h
  split at h
  · rename_i c ho
    rw [ho]
    split at h
    · rename_i y hc; simp [goCall, hc]
    · cases h
  · cases h
theorem stAt_zero (l : List Oper) (vs : List (Value × Eff)) (st : ASt) : stAt l vs st 0 = st := by cases l <;> cases vs <;> rfl
theorem OpsL.vals {Q : ASt → Prop} : ∀ (l : List Oper) (st : ASt), (∀ o ∈ l, goCall o.op = false) → OpsL P W0 ops l st Q → ∃ vs : List (Value × Eff), vs.length = l.length ∧ Q (stAt l vs st l.length) ∧
    ∀ (i : Nat) (o : Oper), l[i]? = some o → PStepL P ops (stAt l vs st i) o (vs.getD i (undef, .none)).1 (vs.getD i (undef, .none)).2 ∧ stAt l vs st (i + 1) = (stAt l vs st i).put o.dst (vs.getD i (undef, .none)).1 (vs.getD i (undef, .none)).2 := by
  intro l
  induction l with
  | nil => intro st _ h; exact ⟨[], rfl, h, fun i o ho => by simp at ho⟩
  | cons o l ih =>
    intro st hg h
    have hg0 := hg o (by simp)
    have hgl := fun x hx => hg x (List.mem_cons_of_mem _ hx)
    obtain ⟨hd, h⟩ := h
    have key : ∃ v e, PStepL P ops st o v e ∧ OpsL P W0 ops l (st.put o.dst v e) Q := by
      rcases h with ⟨hw, h⟩ | ⟨hw, ⟨v, e, hop, h⟩ | ⟨f, args, R, hc, _⟩⟩
      · exact ⟨undef, .none, ⟨hd, .inl ⟨hw, rfl, rfl⟩⟩, h⟩
      · exact ⟨v, e, ⟨hd, .inr ⟨hw, hop⟩⟩, h⟩
      · rw [callee_goCall hc] at hg0; cases hg0
    obtain ⟨v, e, h1, h2⟩ := key
    obtain ⟨vs, e1, e2, e3⟩ := ih _ hgl h2
    refine ⟨(v, e) :: vs, by simp [e1], e2, ?_⟩
    intro i o' ho
    cases i with
    | zero =>
      simp only [List.getElem?_cons_zero, Option.some.injEq] at ho
      subst ho
      refine ⟨by rw [stAt_zero]; exact h1, ?_⟩
      show stAt l vs (st.put o.dst v e) 0 = _
      rw [stAt_zero, stAt_zero]; rfl
    | succ i => exact e3 i o' (by simpa using ho)
def seqOk (ops : Array Oper) : Bool :=
  (ops.toList.all fun o => !goCall o.op) &&
  allIdx (fun i oi => allIdx (fun j oj => !(effOp oi.op && effOp oj.op && decide (i < j)) || depB oj i || (List.range ops.size).any fun k => decide (i < k) && decide (k < j) && (match ops[k]? with | some o => effOp o.op | none => false)) 0 ops.toList) 0 ops.toList &&
  allIdx (fun i oi => effOp oi.op || heapFree oi.op || allIdx (fun j oj => !effOp oj.op || depB oi j || depB oj i) 0 ops.toList) 0 ops.toList
def isEff (ops : Array Oper) (i : Nat) : Bool :=
  match ops[i]? with
  | some o => effOp o.op
  | none => false
theorem OpsL.drawn {id : Nat} {st : ASt} {Q : AExit → ASt → Prop} (hm : P.follows .mixedOrders = true) (hs : statOk ops = true) (hq : seqOk ops = true) (h : OpsL P W0 ops ops.toList st (Q .normal)) : Trip P W0 (.region id ops true) st Q := by
  unfold seqOk at hq
  simp only [Bool.and_eq_true] at hq
  obtain ⟨⟨q1, q2⟩, q3⟩ := hq
  have hgo : ∀ o ∈ ops.toList, goCall o.op = false := fun o ho => by simpa using List.all_eq_true.1 q1 o ho
  obtain ⟨vs, e1, e2, e3⟩ := OpsL.vals _ _ hgo h
  obtain ⟨b1, b2, b3⟩ := statOk_spec hs
  have toL : ∀ (i : Nat) (o : Oper), ops[i]? = some o → ops.toList[i]? = some o := fun i o ho => by simpa using ho
  have hz := stAt_zero ops.toList vs st
  have hnn : ∀ i, i ≤ ops.size → (stAt ops.toList vs st i).n = st.n := by
    intro i
    induction i with
    | zero => intro _; rw [hz]
    | succ i ih =>
      intro hi
      have ho : ops[i]? = some ops[i] := Array.getElem?_eq_getElem (by omega)
      rw [(e3 i _ (toL i _ ho)).2]
      exact ih (by omega)
  have hend : ∀ i, ops[i]? = none → stAt ops.toList vs st (i + 1) = stAt ops.toList vs st i := by
    have gen : ∀ (l : List Oper) (us : List (Value × Eff)) (st : ASt) (i : Nat), us.length = l.length → l.length ≤ i → stAt l us st (i + 1) = stAt l us st i := by
      intro l
      induction l with
      | nil => intro us st i _ _; cases i <;> rfl
      | cons o l ih =>
        intro us st i hu hi
        cases us with
        | nil => simp at hu
        | cons u us =>
          cases i with
          | zero => simp at hi
          | succ i => exact ih us _ i (by simpa using hu) (by simpa using hi)
    intro i hi
    exact gen _ _ _ _ e1 (by simpa using Array.getElem?_eq_none_iff.1 hi)
  have hstill : ∀ i, isEff ops i = false → (stAt ops.toList vs st (i + 1)).H = (stAt ops.toList vs st i).H ∧ (stAt ops.toList vs st (i + 1)).nx = (stAt ops.toList vs st i).nx := by
    intro i hi
    cases ho : ops[i]? with
    | none => rw [hend i ho]; exact ⟨rfl, rfl⟩
    | some o =>
      obtain ⟨⟨_, p2⟩, p3⟩ := e3 i o (toL i o ho)
      have hne : (vs.getD i (undef, .none)).2 = .none := by
        rcases p2 with ⟨_, _, c⟩ | ⟨_, c⟩
        · exact c
        · exact effOp_none (by simpa [isEff, ho] using hi) c
      rw [p3, hne]
      exact ⟨rfl, rfl⟩
  have hrange : ∀ m p, (∀ j, p ≤ j → j < p + m → isEff ops j = false) → (stAt ops.toList vs st (p + m)).H = (stAt ops.toList vs st p).H ∧ (stAt ops.toList vs st (p + m)).nx = (stAt ops.toList vs st p).nx := by
    intro m
    induction m with
    | zero => intro p _; exact ⟨rfl, rfl⟩
    | succ m ih =>
      intro p hp
      obtain ⟨a1, a2⟩ := ih p (fun j h1 h2 => hp j h1 (by omega))
      obtain ⟨c1, c2⟩ := hstill (p + m) (hp _ (by omega) (by omega))
      exact ⟨by rw [show p + (m + 1) = p + m + 1 by omega, c1, a1], by rw [show p + (m + 1) = p + m + 1 by omega, c2, a2]⟩
  have hev : ∀ (i : Nat) (o : Oper) (H : Heap) (nx : Nat), aop P H nx (evR (opTs o) (stAt ops.toList vs st i).tm) o = aop P H nx (stAt ops.toList vs st i).ev o := fun i o H nx =>
    aop_congr (fun x hx => evR_mem (n := (stAt ops.toList vs st i).n) (nx := (stAt ops.toList vs st i).nx) (H := (stAt ops.toList vs st i).H) (fun t ht => mem_opTs (by rw [← ht]; exact hx)))
  refine Trip.drawn (tms := fun i => (stAt ops.toList vs st i).tm) (vs := fun i => (vs.getD i (undef, .none)).1) (Hs := fun i => (stAt ops.toList vs st i).H) (ns := fun i => (stAt ops.toList vs st i).nx) (isE := isEff ops) hm
    ⟨by rw [hz], by rw [hz], by rw [hz], ?_, ?_, hstill, b1, b2, b3, ?_, ?_, ?_⟩ ?_
  · intro i o ho
    rw [(e3 i o (toL i o ho)).2]
    rfl
  · intro i o ho
    obtain ⟨⟨p1, p2⟩, p3⟩ := e3 i o (toL i o ho)
    have hlt : i < ops.size := (Array.getElem?_eq_some_iff.1 ho).1
    refine ⟨fun d hd => by have := dstOk_spec p1 d hd; rwa [hnn i (by omega)] at this, ?_⟩
    simp only [wantsT_wants]
    rcases p2 with ⟨a, b, c⟩ | ⟨a, b⟩
    · exact .inl ⟨a, b, by rw [p3, c]; rfl, by rw [p3, c]; rfl⟩
    · exact .inr ⟨a, .inl ⟨_, by rw [hev]; exact b, by rw [p3]; rfl, by rw [p3]; rfl⟩⟩
  · intro i j oj hi hj hoj hij hbetween
    unfold isEff at hi hj
    cases hoi : ops[i]? with
    | none => rw [hoi] at hi; cases hi
    | some oi =>
      rw [hoi] at hi
      rw [hoj] at hj
      simp only at hi hj
      have := allIdx_spec _ _ (allIdx_spec _ _ q2 i oi (toL i oi hoi)) j oj (toL j oj hoj)
      simp only [Nat.zero_add, hi, hj, hij, decide_true, Bool.and_self, Bool.not_true, Bool.false_or, Bool.or_eq_true] at this
      rcases this with h1 | h1
      · exact ⟨0, depB_iff.1 h1⟩
      · rw [List.any_eq_true] at h1
        obtain ⟨k, _, hk⟩ := h1
        simp only [Bool.and_eq_true, decide_eq_true_eq] at hk
        obtain ⟨⟨k1, k2⟩, k3⟩ := hk
        have := hbetween k k1 k2
        unfold isEff at this
        rw [this] at k3; cases k3
  · intro i oi p ho hE hw _ hple hdep hnot
    obtain ⟨⟨p1, p2⟩, p3⟩ := e3 i oi (toL i oi ho)
    have hlt : i < ops.size := (Array.getElem?_eq_some_iff.1 ho).1
    have hEo : effOp oi.op = false := by simpa [isEff, ho] using hE
    simp only [wantsT_wants] at hw
    have hop : aop P (stAt ops.toList vs st i).H (stAt ops.toList vs st i).nx (stAt ops.toList vs st i).ev oi = some ((vs.getD i (undef, .none)).1, .none) := by
      rcases p2 with ⟨a, _⟩ | ⟨_, b⟩
      · rw [hw] at a; cases a
      · rw [effOp_none hEo b] at b; exact b
    show aop P _ _ (evR (opTs oi) (stAt ops.toList vs st i).tm) oi = _
    rw [hev]
    have hq := allIdx_spec _ _ q3 i oi (toL i oi ho)
    simp only [hEo, Bool.false_or, Bool.or_eq_true] at hq
    rcases hq with hf | hf
    · rw [heapFree_aop (H' := (stAt ops.toList vs st i).H) (nx' := (stAt ops.toList vs st i).nx) hf]; exact hop
    · have hrel : ∀ j, isEff ops j = true → (j < i → j < p) ∧ (i < j → p ≤ j) := by
        intro j hj
        have hj' := hj
        unfold isEff at hj
        cases hoj : ops[j]? with
        | none => rw [hoj] at hj; cases hj
        | some oj =>
          rw [hoj] at hj
          simp only at hj
          have := allIdx_spec _ _ hf j oj (toL j oj hoj)
          simp only [Nat.zero_add, hj, Bool.not_true, Bool.false_or, Bool.or_eq_true] at this
          rcases this with h1 | h1
          · have hd := depB_iff.1 h1
            have := b1 i oi ho j hd
            exact ⟨fun _ => hdep j hj' hd, fun _ => by omega⟩
          · have hd := depB_iff.1 h1
            have := b1 j oj hoj i hd
            refine ⟨fun _ => by omega, fun _ => ?_⟩
            rcases Nat.lt_or_ge j p with c | c
            · exact absurd hd (hnot j oj hj' c hoj)
            · exact c
      have hsame : (stAt ops.toList vs st p).H = (stAt ops.toList vs st i).H ∧ (stAt ops.toList vs st p).nx = (stAt ops.toList vs st i).nx := by
        rcases Nat.le_total p i with c | c
        · obtain ⟨m, rfl⟩ : ∃ m, i = p + m := ⟨i - p, by omega⟩
          obtain ⟨a1, a2⟩ := hrange m p (fun j h1 h2 => by
            cases hj : isEff ops j with
            | false => rfl
            | true => have := (hrel j hj).1 h2; omega)
          exact ⟨a1.symm, a2.symm⟩
        · obtain ⟨m, rfl⟩ : ∃ m, p = i + m := ⟨p - i, by omega⟩
          exact hrange m i (fun j h1 h2 => by
            cases hj : isEff ops j with
            | false => rfl
            | true =>
              have hne : j ≠ i := fun x => by rw [x, hE] at hj; cases hj
              have := (hrel j hj).2 (by omega); omega)
      simp only [hsame.1, hsame.2]
      exact hop
  · intro i hi
    unfold isEff at hi
    cases ho : ops[i]? with
    | none => rw [ho] at hi; cases hi
    | some o => exact (Array.getElem?_eq_some_iff.1 ho).1
  · have hl : ops.toList.length = ops.size := by simp
    rw [hl] at e2
    have hn := hnn ops.size (Nat.le_refl _)
    have : (⟨(stAt ops.toList vs st ops.size).tm, st.n, (stAt ops.toList vs st ops.size).H, (stAt ops.toList vs st ops.size).nx⟩ : ASt) = stAt ops.toList vs st ops.size := by rw [← hn]
    rw [this]
    exact e2
end
end Go.Am
namespace Go.Am
set_option linter.unusedSimpArgs false
set_option linter.unusedVariables false
open Go.RowKit
section
variable {P : Program} {W0 : World} {ev : Operand → Option Value} {H : Heap} {nx n : Nat} {dst : Option Tmp} {type : TypeId} {pos : String} {after : Array Edge} {guard : Option (Nat × Bool)}
theorem aop_build {t : TypeId} {ps : Array (Nat × Operand)} {l : List (Nat × Value)} {v : Value} (hl : evParts ev ps.toList = some l) (hb : aBuild P t l = some v) :
    aop P H nx ev ⟨dst, .build t ps, type, pos, after, guard⟩ = some (v, .none) := by simp [aop, hl, hb]
theorem aop_buildSlice {t : TypeId} {len : Nat} {ps : Array (Nat × Operand)} {l : List (Nat × Value)} {r : Value × Eff} (hl : evParts ev ps.toList = some l) (hb : aBuildSlice P nx t len l = some r) :
    aop P H nx ev ⟨dst, .buildSlice t len ps, type, pos, after, guard⟩ = some r := by simp [aop, hl, hb]
theorem aop_slice {t : TypeId} {x : Operand} {lo hi mx : Option Operand} {v r : Value} {a b c : Option Value} (hx : ev x = some v) (ha : evOpt ev lo = some a) (hb : evOpt ev hi = some b) (hc : evOpt ev mx = some c) (h : aSlice P H t v a b c = some r) :
    aop P H nx ev ⟨dst, .slice t x lo hi mx, type, pos, after, guard⟩ = some (r, .none) := by simp [aop, hx, ha, hb, hc, h]
theorem setc_one {a : Addr} {cs : List Value} {e : Nat} {q : Option TypeId} {v : Value} (hH : H a.block = some (.cells cs e a.spot false q)) (h : a.off < cs.length) (h1 : v.oneCell' = true) : setc H a [v] = some (.cells (cs.set a.off v) e a.spot false q) := by
  unfold setc
  rw [hH]
  simp only [List.length_cons, List.length_nil, List.all_cons, List.all_nil, h1, Bool.and_self, and_true, true_and]
  rw [if_pos (by omega), List.set_eq_take_append_cons_drop, if_pos h]
  simp
theorem cellAt_own {b off : Nat} {t : Option Nat} {cs : List Value} {e : Nat} {ro : Bool} {q : Option TypeId} (hH : H b = some (.cells cs e t ro q)) (h : off < cs.length) : cellAt H ⟨b, off, t⟩ cs[off] := by
  unfold cellAt getc
  simp only [hH]
  rw [if_pos ⟨trivial, by omega⟩, List.take_one, List.head?_drop, List.getElem?_eq_getElem h]
  rfl
variable {ops : Array Oper} {l : List Oper} {tm : Nat → Value} {QQ : ASt → Prop}
theorem OpsL.store1 {t : TypeId} {x y : Operand} {a : Addr} {v : Value} {cs : List Value} {e : Nat} {q : Option TypeId} (hx : ASt.ev ⟨tm, n, H, nx⟩ x = some (.pointer (some a))) (hy : ASt.ev ⟨tm, n, H, nx⟩ y = some v) (hz : szOf P t = some 1) (hv : v.cells = #[v]) (h1 : v.oneCell' = true)
    (hH : H a.block = some (.cells cs e a.spot false q)) (hlt : a.off < cs.length) (h : OpsL P W0 ops l ⟨tm, n, H.put a.block (.cells (cs.set a.off v) e a.spot false q), nx⟩ QQ) :
    OpsL P W0 ops (⟨none, .store t x y, type, pos, after, none⟩ :: l) ⟨tm, n, H, nx⟩ QQ :=
  OpsL.upd (aop_store hx hy hz (by rw [hv]; rfl) (by rw [hv]; exact setc_one hH hlt h1)) h
def Ext (nx : Nat) (H : Heap) (nx' : Nat) (H' : Heap) : Prop := nx ≤ nx' ∧ ∀ i, i < nx → H' i = H i
theorem Ext.refl : Ext nx H nx H := ⟨Nat.le_refl _, fun _ _ => rfl⟩
theorem Ext.trans {nx1 nx2 : Nat} {H1 H2 : Heap} (h : Ext nx H nx1 H1) (k : Ext nx1 H1 nx2 H2) : Ext nx H nx2 H2 := ⟨Nat.le_trans h.1 k.1, fun i hi => by rw [k.2 i (Nat.lt_of_lt_of_le hi h.1), h.2 i hi]⟩
theorem Ext.put {nx1 k : Nat} {H1 : Heap} {o : AObj} (h : Ext nx H nx1 H1) (hk : nx ≤ k) : Ext nx H nx1 (H1.put k o) := ⟨h.1, fun i hi => by rw [Heap.put_ne (by omega), h.2 i hi]⟩
theorem Ext.up {nx1 nx2 : Nat} {H1 : Heap} (h : Ext nx H nx1 H1) (hk : nx1 ≤ nx2) : Ext nx H nx2 H1 := ⟨Nat.le_trans h.1 hk, h.2⟩
theorem getc_ext {nx' : Nat} {H' : Heap} (h : Ext nx H nx' H') {a : Addr} {m : Nat} {vs : List Value} (hok : ∀ id o, H id = some o → id < nx) (hg : getc H a m = some vs) : getc H' a m = some vs := by
  obtain ⟨o, ho⟩ := getc_some hg
  unfold getc at *
  rw [h.2 _ (hok _ _ ho)]
  exact hg
theorem IntsAt.ext {nx' : Nat} {H' : Heap} {v : Value} {xs : List Int} (h : Ext nx H nx' H') (hok : ∀ id o, H id = some o → id < nx) (hi : IntsAt H v xs) : IntsAt H' v xs := by
  rcases hi with hi | ⟨a, c, rfl, hi⟩
  · exact .inl hi
  · exact .inr ⟨a, c, rfl, fun i q => getc_ext h hok (hi i q)⟩
theorem OwnRow.ext {nx' : Nat} {H' : Heap} {ob : Option (Nat × Nat)} {el : TypeId} {sz k : Nat} {v : Value} {cs : List Value} (hx : Ext nx H nx' H') (hlt : ∀ b t, ob = some (b, t) → b < nx) (h : OwnRow H ob el sz v cs k) : OwnRow H' ob el sz v cs k := by
  cases ob with
  | none => exact h
  | some bt =>
    obtain ⟨b, t⟩ := bt
    obtain ⟨h1, h2, rest, h3⟩ := h
    exact ⟨h1, h2, rest, by rw [hx.2 _ (hlt b t rfl)]; exact h3⟩
def Bd (o : Option Value) (dflt k : Nat) : Prop := (o = none ∧ k = dflt) ∨ ∃ kd, o = some (.int kd k)
theorem Bd.bound {o : Option Value} {dflt k : Nat} (h : Bd o dflt k) : bound o dflt = some k := by
  rcases h with ⟨rfl, rfl⟩ | ⟨kd, rfl⟩
  · rfl
  · simp [Am.bound]
theorem bounds_of {len cap l h : Nat} {lo hi : Option Value} (hl : Bd lo 0 l) (hh : Bd hi len h) (h1 : l ≤ h) (h2 : h ≤ cap) : bounds len cap lo hi none = some (l, h, cap) := by
  unfold bounds
  rw [hl.bound, hh.bound]
  simp [Am.bound, h1, h2]
theorem aSlice_plain {t el : TypeId} {sz : Nat} {a : Addr} {len cap l h : Nat} {lo hi : Option Value} {o : AObj} (hu : P.underlying t = some (.slice el)) (hs : szOf P el = some sz) (ho : H a.block = some o) (ht : o.tag = none) (ha : a.spot = none)
    (hl : Bd lo 0 l) (hh : Bd hi len h) (h1 : l ≤ h) (h2 : h ≤ cap) : aSlice P H t (.slice (some a) len cap) lo hi none = some (.slice (some (if cap = l then a else ⟨a.block, a.off + l * sz, none⟩)) (h - l) (cap - l)) := by
  unfold aSlice
  simp only [hu, hs, ho, ht, ha, if_true, bounds_of hl hh h1 h2, Option.map_some]
theorem aop_leqT {t u : TypeId} {k : IntKind} {x y : Operand} {a b : Int} (hx : ev x = some (.int k a)) (hy : ev y = some (.int k b)) (h : a ≤ b) :
    aop P H nx ev ⟨dst, .binOp .leq t x y u, type, pos, after, guard⟩ = some (.bool true, .none) := by rw [aop_leq hx hy]; simp [h]
theorem cellAt_of_getc {a : Addr} {u v : Value} (h : getc H a 2 = some [u, v]) : cellAt H ⟨a.block, a.off + 1, a.spot⟩ v := by
  unfold cellAt getc at *
  split at h
  · rename_i c e t r q ho
    simp only [ho]
    split at h
    · rename_i hc
      rw [if_pos ⟨hc.1, by omega⟩]
      simp only [Option.some.injEq] at h
      have h1 : ((c.drop a.off).take 2)[1]? = some v := by rw [h]; rfl
      rw [List.getElem?_take, if_pos (by omega), List.getElem?_drop] at h1
      rw [List.take_one, List.head?_drop, h1]
      rfl
    · cases h
  · cases h
theorem ACalls.ok {f : FuncId} {args : List Value} {R : Value → Nat → Heap → Prop} (h : ACalls P W0 f args nx H R) : ACalls P W0 f args nx H fun v nx' H' => R v nx' H' ∧ ∀ id o, H' id = some o → id < nx' := fun C w args' hR ha => by
  refine (h C w args' hR ha).mono ?_
  rintro e w' ⟨v, v', C', nx', H', h1, h2, hR', h4⟩
  exact ⟨v, v', C', nx', H', h1, ⟨h2, fun id o ho => (hR'.lt id o ho).1⟩, hR', h4⟩
theorem OpsL.storeAt {t : TypeId} {x y : Operand} {a : Addr} {v : Value} {cs cs' : List Value} {e : Nat} {q : Option TypeId} (j : Nat) (hx : ASt.ev ⟨tm, n, H, nx⟩ x = some (.pointer (some a))) (hy : ASt.ev ⟨tm, n, H, nx⟩ y = some v) (hz : szOf P t = some 1) (hv : v.cells = #[v]) (h1 : v.oneCell' = true)
    (hH : H a.block = some (.cells cs e a.spot false q)) (hj : a.off = j) (hlt : j < cs.length) (hcs : cs.set j v = cs') (h : OpsL P W0 ops l ⟨tm, n, H.put a.block (.cells cs' e a.spot false q), nx⟩ QQ) :
    OpsL P W0 ops (⟨none, .store t x y, type, pos, after, none⟩ :: l) ⟨tm, n, H, nx⟩ QQ := by
  subst hj; subst hcs
  exact OpsL.store1 hx hy hz hv h1 hH hlt h
theorem OpsL.skippedU {j : Nat} {want : Bool} {d d' : Tmp} {op : Op} (hj : (ops[j]?).bind (·.dst) = some d') (hb : tm d' = undef) (hd : d < n) (h : OpsL P W0 ops l ⟨tmPut tm (some d) undef, n, H, nx⟩ QQ) :
    OpsL P W0 ops (⟨some d, op, type, pos, after, some (j, want)⟩ :: l) ⟨tm, n, H, nx⟩ QQ := by
  refine ⟨by simp [dstOk, hd], .inl ⟨?_, h⟩⟩
  simp [wants, hj, hb, undef]
theorem aop_lssT {t u : TypeId} {k : IntKind} {x y : Operand} {a b : Int} (hx : ev x = some (.int k a)) (hy : ev y = some (.int k b)) (h : a < b) :
    aop P H nx ev ⟨dst, .binOp .lss t x y u, type, pos, after, guard⟩ = some (.bool true, .none) := by rw [aop_lss hx hy]; simp only [h, decide_true, decide_false, not_false_eq_true, not_true_eq_false]
theorem aop_lssF {t u : TypeId} {k : IntKind} {x y : Operand} {a b : Int} (hx : ev x = some (.int k a)) (hy : ev y = some (.int k b)) (h : ¬ (a < b)) :
    aop P H nx ev ⟨dst, .binOp .lss t x y u, type, pos, after, guard⟩ = some (.bool false, .none) := by rw [aop_lss hx hy]; simp only [h, decide_true, decide_false, not_false_eq_true, not_true_eq_false]
theorem aop_leqF {t u : TypeId} {k : IntKind} {x y : Operand} {a b : Int} (hx : ev x = some (.int k a)) (hy : ev y = some (.int k b)) (h : ¬ (a ≤ b)) :
    aop P H nx ev ⟨dst, .binOp .leq t x y u, type, pos, after, guard⟩ = some (.bool false, .none) := by rw [aop_leq hx hy]; simp only [h, decide_true, decide_false, not_false_eq_true, not_true_eq_false]
theorem aop_gtrT {t u : TypeId} {k : IntKind} {x y : Operand} {a b : Int} (hx : ev x = some (.int k a)) (hy : ev y = some (.int k b)) (h : b < a) :
    aop P H nx ev ⟨dst, .binOp .gtr t x y u, type, pos, after, guard⟩ = some (.bool true, .none) := by rw [aop_gtr hx hy]; simp only [h, decide_true, decide_false, not_false_eq_true, not_true_eq_false]
theorem aop_gtrF {t u : TypeId} {k : IntKind} {x y : Operand} {a b : Int} (hx : ev x = some (.int k a)) (hy : ev y = some (.int k b)) (h : ¬ (b < a)) :
    aop P H nx ev ⟨dst, .binOp .gtr t x y u, type, pos, after, guard⟩ = some (.bool false, .none) := by rw [aop_gtr hx hy]; simp only [h, decide_true, decide_false, not_false_eq_true, not_true_eq_false]
theorem aop_geqT {t u : TypeId} {k : IntKind} {x y : Operand} {a b : Int} (hx : ev x = some (.int k a)) (hy : ev y = some (.int k b)) (h : b ≤ a) :
    aop P H nx ev ⟨dst, .binOp .geq t x y u, type, pos, after, guard⟩ = some (.bool true, .none) := by rw [aop_geq hx hy]; simp only [h, decide_true, decide_false, not_false_eq_true, not_true_eq_false]
theorem aop_geqF {t u : TypeId} {k : IntKind} {x y : Operand} {a b : Int} (hx : ev x = some (.int k a)) (hy : ev y = some (.int k b)) (h : ¬ (b ≤ a)) :
    aop P H nx ev ⟨dst, .binOp .geq t x y u, type, pos, after, guard⟩ = some (.bool false, .none) := by rw [aop_geq hx hy]; simp only [h, decide_true, decide_false, not_false_eq_true, not_true_eq_false]
theorem aop_eqlF {t u : TypeId} {k : IntKind} {x y : Operand} {a b : Int} (hx : ev x = some (.int k a)) (hy : ev y = some (.int k b)) (h : ¬ (a = b)) :
    aop P H nx ev ⟨dst, .binOp .eql t x y u, type, pos, after, guard⟩ = some (.bool false, .none) := by rw [aop_eql hx hy]; simp only [h, decide_true, decide_false, not_false_eq_true, not_true_eq_false]
theorem aop_neqT {t u : TypeId} {k : IntKind} {x y : Operand} {a b : Int} (hx : ev x = some (.int k a)) (hy : ev y = some (.int k b)) (h : a ≠ b) :
    aop P H nx ev ⟨dst, .binOp .neq t x y u, type, pos, after, guard⟩ = some (.bool true, .none) := by rw [aop_neq hx hy]; simp [h]
theorem aop_neqF {t u : TypeId} {k : IntKind} {x y : Operand} {a b : Int} (hx : ev x = some (.int k a)) (hy : ev y = some (.int k b)) (h : a = b) :
    aop P H nx ev ⟨dst, .binOp .neq t x y u, type, pos, after, guard⟩ = some (.bool false, .none) := by rw [aop_neq hx hy]; simp [h]
def bs (s : ByteArray) : List Int := s.data.toList.map fun b => (b.toNat : Int)
theorem aop_eqlA {t u : TypeId} {x y : Operand} {a b : Array Value} {r : Bool} (hx : ev x = some (.agg a)) (hy : ev y = some (.agg b)) (hg : P.eqGuardType P.depth t = false) (he : aEq P H 60 t (.agg a) (.agg b) = some r) :
    aop P H nx ev ⟨dst, .binOp .eql t x y u, type, pos, after, guard⟩ = some (.bool r, .none) := by simp [aop, hx, hy, aBin, eqOk, hg, he]
theorem aop_box {t : TypeId} {x : Operand} {v : Value} (hx : ev x = some v) : aop P H nx ev ⟨dst, .box t x, type, pos, after, guard⟩ = some (.pointer (some ⟨nx, 0, none⟩), .new (.cells v.cells.toList 0 none false (some t))) := by simp [aop, hx]
end
end Go.Am
namespace Go.Am
set_option linter.unusedSimpArgs false
set_option linter.unusedVariables false
open Go.RowKit
section
variable {P : Program} {W0 : World} {ops : Array Oper}
def edgeOkC (ops : Array Oper) (k : Nat) (o : Oper) : Bool :=
  effOp o.op || heapFree o.op || allIdx (fun j oj => !effOp oj.op || depB o j || depB oj k) 0 ops.toList
variable {nx0 : Nat} {H0 : Heap}
section
variable {k : Nat} {type : TypeId} {pos : String} {after : Array Edge} {l : List Oper} {tm : Nat → Value} {n nx nx' : Nat} {H H' : Heap} {v : Value} {QQ : ASt → Prop} {f : FuncId} {d : Tmp} {ts : Array TypeId}
end
def depNB (ops : Array Oper) : Nat → Oper → Nat → Bool
  | 0, o, i => depB o i
  | n + 1, o, i => depB o i || (List.range ops.size).any fun m => depB o m && (match ops[m]? with | some om => depNB ops n om i | none => false)
theorem depNB_iff {ops : Array Oper} : ∀ (n : Nat) (o : Oper) (i : Nat), depNB ops n o i = true → depN ops n o i := by
  intro n
  induction n with
  | zero => intro o i h; exact depB_iff.1 h
  | succ n ih =>
    intro o i h
    simp only [depNB, Bool.or_eq_true, List.any_eq_true, Bool.and_eq_true] at h
    rcases h with h | ⟨m, _, h1, h2⟩
    · exact .inl (depB_iff.1 h)
    · cases ho : ops[m]? with
      | none => rw [ho] at h2; cases h2
      | some om => rw [ho] at h2; exact .inr ⟨m, om, ho, depB_iff.1 h1, ih om i h2⟩
theorem goCall_eff {o : Op} (h : goCall o = true) : effOp o = true := by
  cases o <;> simp only [goCall] at h <;> try (cases h; done)
  rename_i c
  cases hc : c.callee <;> simp [goCall, hc] at h <;> simp [effOp, hc]
theorem calleeE_congr {st : ASt} {o : Oper} : calleeE (evR (opTs o) st.tm) o = callee st o := by
  unfold calleeE callee
  cases ho : o.op <;> simp only
  rename_i c
  cases hc : c.callee <;> simp only
  rename_i x
  have hm : ∀ y, y = x ∨ y ∈ c.args.toList → evR (opTs o) st.tm y = st.ev y := fun y hy =>
    evR_mem (n := st.n) (nx := st.nx) (H := st.H) (fun t ht => mem_opTs (by
      rw [ho, ← ht]
      simp only [Op.operands, Call.operands, hc]
      rcases hy with rfl | hy
      · simp
      · simp; right; simpa using hy))
  rw [hm x (.inl rfl), evAll_congr c.args.toList (fun y hy => hm y (.inr hy))]
  rfl
end
end Go.Am
namespace Go.Am
set_option linter.unusedSimpArgs false
set_option linter.unusedVariables false
open Go.RowKit
section
variable {P : Program} {W0 : World} {ops : Array Oper}
def OpsK (P : Program) (W0 : World) (ops : Array Oper) (K : Nat → Heap → Prop) : Nat → List Oper → ASt → (ASt → Prop) → Prop
  | _, [], st, Q => Q st
  | k, o :: l, st, Q => dstOk st o = true ∧ ((wants ops st o = false ∧ OpsK P W0 ops K (k + 1) l (st.put o.dst undef .none) Q) ∨ (wants ops st o = true ∧
      ((∃ v e, aop P st.H st.nx st.ev o = some (v, e) ∧ edgeOkC ops k o = true ∧ (effOp o.op = true → K (e.nx st.nx) (e.H st.nx st.H)) ∧ OpsK P W0 ops K (k + 1) l (st.put o.dst v e) Q) ∨
       (∃ v, effOp o.op = false ∧ (∀ H' nx', K nx' H' → aop P H' nx' st.ev o = some (v, .none)) ∧ OpsK P W0 ops K (k + 1) l (st.put o.dst v .none) Q) ∨
       (∃ f args v nx' H', callee st o = some (f, args) ∧ Enters P f ∧ ACalls P W0 f args st.nx st.H (fun v1 n1 H1 => v1 = v ∧ n1 = nx' ∧ H1 = H') ∧ K nx' H' ∧ OpsK P W0 ops K (k + 1) l ⟨tmPut st.tm o.dst v, st.n, H', nx'⟩ Q))))
variable {K : Nat → Heap → Prop}
section
variable {k : Nat} {type : TypeId} {pos : String} {after : Array Edge} {l : List Oper} {tm : Nat → Value} {n nx nx' : Nat} {H H' : Heap} {v : Value} {QQ : ASt → Prop} {f : FuncId} {d : Tmp} {ts : Array TypeId}
end
end
end Go.Am
