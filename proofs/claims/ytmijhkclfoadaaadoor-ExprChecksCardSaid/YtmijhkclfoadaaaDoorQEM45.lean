import Derived.Test.YtmijhkclfoadaaaDoorQEM44
namespace Go.Am
set_option linter.unusedSimpArgs false
set_option linter.unusedVariables false
open Go.RowKit
noncomputable section
def finG (fin : Value → Eff → Option (List Out)) (r : Option (Value × Eff)) : Option (List Out) :=
  match r with
  | some (v, e) => fin v e
  | none => none
def opGen (P : Program) (K : Value → Eff → RO) (C : FuncId → List Value → RO) (X : List (Value × Eff) → RO) (s : CSt) (ht : Tree AObj) (nx : Nat) (o : Oper) : RO :=
  match calleeG s.st.ev o with
  | some (f, args) => C f args
  | none =>
    match nextOf s.st o with
    | some it => (match aNexts ht.get it with | some rs => X rs | none => none)
    | none => finG K (aop P ht.get nx s.st.ev o)
theorem finE_eq (K : Value → Eff → RO) (r : Option (Value × Eff)) : finE K r = finG K r := by
  cases r with
  | none => rfl
  | some ve => obtain ⟨v, e⟩ := ve; rfl
theorem finV_eq (K : Value → Eff → RO) (r : Option Value) : finV K r = finG K (r.map fun v => (v, .none)) := by
  cases r <;> rfl
theorem opt_store (r : Option Eff) : Option.rec (motive := fun _ => Option (Value × Eff)) none (fun e => some (undef, e)) r = r.map fun e => (undef, e) := by cases r <;> rfl
theorem opK_eq (P : Program) (K : Value → Eff → RO) (C : FuncId → List Value → RO) (X : List (Value × Eff) → RO) (s : CSt) (ht : Tree AObj) (nx : Nat) (o : Oper) :
    opK o.op P K C X s.tt ht nx = opGen P K C X s ht nx o := by
  obtain ⟨dst, op, ty, pos, after, guard⟩ := o
  have hv := evF_eq s
  unfold opGen
  cases op <;> simp only [calleeG, nextOf, aop]
  case call c =>
    obtain ⟨cal, args, ts⟩ := c
    cases cal with
    | value x =>
      simp only
      show kCallV x args P K C X s.tt ht nx = _
      unfold kCallV
      rw [hv, evAllF_eq]
      cases s.st.ev x with
      | none => rfl
      | some v =>
        cases v with
        | func fn a b =>
          cases fn with
          | func f =>
            cases evAll s.st.ev args.toList with
            | none => rfl
            | some vs =>
              show Bool.rec (motive := fun _ => Option (List Out)) none (C f ((a.toList ++ vs) ++ b.toList)) (Nat.blt f XB) = _
              simp only
              cases Nat.blt f XB <;> rfl
          | _ => rfl
        | chan r =>
          cases r with
          | none => rfl
          | some l => cases evAll s.st.ev args.toList <;> rfl
        | _ => rfl
    | invoke r m => rfl
    | builtin b =>
      simp only
      cases b with
      | len =>
        show finV K (obind (evAllF s.tt args.toList) fun y => lenF P ht ts y) = _
        rw [finV_eq, evAllF_eq, obind_eq, Option.map_bind]
        congr 2
        funext y
        exact lenF_eq P ht nx ts y
      | append =>
        show finE K (obind (evAllF s.tt args.toList) fun y => List.rec (motive := fun _ => Option (Value × Eff)) none (fun s r _ => List.rec (motive := fun _ => Option (Value × Eff)) none (fun x r' _ => List.rec (motive := fun _ => Option (Value × Eff)) (appendF P ht nx ts s x) (fun _ _ _ => none) r') r) y) = _
        rw [finE_eq, evAllF_eq, obind_eq]
        congr 2
        funext y
        cases y with
        | nil => rfl
        | cons a y =>
          cases y with
          | nil => rfl
          | cons b y =>
            cases y with
            | nil => exact appendF_eq P ht nx ts a b
            | cons c y => rfl
      | _ =>
        show finE K (obind (evAllF s.tt args.toList) fun y => aBuiltin P ht.get nx _ ts y) = _
        rw [finE_eq, evAllF_eq, obind_eq]
  case next it str =>
    cases str with
    | true =>
      show finE K (obind (evF s.tt it) fun v => aNext ht.get v true) = _
      rw [finE_eq, hv, obind_eq]
    | false =>
      simp only
      show Option.rec (motive := fun _ => RO) none (fun it => Option.rec (motive := fun _ => RO) none X (aNexts ht.get it)) (evF s.tt it) = _
      rw [hv]
      cases s.st.ev it with
      | none => rfl
      | some it =>
        simp only
        cases aNexts ht.get it <;> rfl
  case pick c a b =>
    show finV K (obind (evF s.tt c) fun v => obind (asBool v) fun y => Bool.rec (motive := fun _ => Option Value) (evF s.tt b) (evF s.tt a) y) = _
    rw [finV_eq, hv]
    congr 1
    cases s.st.ev c with
    | none => rfl
    | some v => cases v <;> first | rfl | (rename_i y; cases y <;> rfl)
  case store t a x =>
    show finE K (obind (evF s.tt a) fun v => obind (evF s.tt x) fun u => Option.rec (motive := fun _ => Option (Value × Eff)) none (fun e => some (undef, e)) (storeF P t ht v u)) = _
    rw [finE_eq]
    simp only [hv, obind_eq, storeF_eq, opt_store]
  case convert src d x =>
    show finE K (obind (evF s.tt x) fun v => cvF P nx ht src d v) = _
    rw [finE_eq, hv, obind_eq]
    congr 2
    funext v
    rw [cvF_eq]
    cases aConvert P nx ht.get src d v with
    | some r => rfl
    | none => cases aConvPtr P ht.get src d v <;> rfl
  case nilCheck x =>
    show finE K _ = _
    rw [finE_eq, hv]
    congr 1
  all_goals first
    | rfl
    | (show finV K _ = _
       rw [finV_eq]
       simp only [hv, obind_eq, Option.map_bind, loadF_eq, binF_eq, buildF_eq, fadF_eq, fldF_eq, idxF_eq, extF_eq, lookupF_eq, Function.comp_def, Option.map_map]
       done)
    | (show finE K _ = _
       rw [finE_eq]
       done)
    | (show finE K _ = _
       rw [finE_eq]
       simp only [hv, obind_eq, updateF_eq, mapEntryF_eq, buildSliceF_eq]
       done)
def Sub (rc rc' : RecS) : Prop := ∀ j s outs, rc j s = some outs → rc' j s = some outs
theorem bindS_mono {α : Type} {k k' : α → Option (List Out)} (hk : ∀ a outs, k a = some outs → k' a = some outs) : ∀ (l : List α) (outs : List Out), bindS k l = some outs → bindS k' l = some outs := by
  intro l
  induction l with
  | nil => intro outs h; exact h
  | cons a l ih =>
    intro outs h
    simp only [bindS] at h ⊢
    cases ha : k a with
    | none => rw [ha] at h; cases h
    | some x =>
      rw [ha] at h
      simp only at h
      rw [hk _ _ ha]
      cases hl : bindS k l with
      | none => rw [hl] at h; cases h
      | some y => rw [hl] at h; rw [ih _ hl]; exact h
theorem thenS_mono {r r' : Option (List Out)} {k k' : Out → Option (List Out)} (hr : ∀ l, r = some l → r' = some l) (hk : ∀ o outs, k o = some outs → k' o = some outs) {outs : List Out} (h : thenS r k = some outs) : thenS r' k' = some outs := by
  cases r with
  | none => cases h
  | some l =>
    rw [hr l rfl]
    cases l with
    | nil => cases h
    | cons o l =>
      cases l with
      | nil => exact hk _ _ h
      | cons o' l => exact bindS_mono hk _ _ h
theorem nextX_mono {P : Program} {ops : Array Oper} {es : List Nat} {y : XSt} {k k' : XSt → Option (List Out)} (hk : ∀ z outs, k z = some outs → k' z = some outs) {outs : List Out} (h : nextX P ops es y k = some outs) : nextX P ops es y k' = some outs := by
  unfold nextX at h ⊢
  split at h
  · exact hk _ _ h
  · cases h
section
variable {P : Program} {rc rc' : RecS}
theorem rangeS_mono (hs : Sub rc rc') {g : Operand} {ps : Array Tmp} {asg body : Code} {s : CSt} {outs : List Out} (h : rangeS rc g ps asg body s = some outs) : rangeS rc' g ps asg body s = some outs := by
  unfold rangeS at h ⊢
  split at h
  case h_2 => cases h
  rename_i f first cap hg
  rw [Bool.cond_eq_ite] at h ⊢
  split at h
  case isFalse => cases h
  rename_i hb
  rw [if_pos hb]
  refine thenS_mono (fun l hl => hs _ _ _ hl) (fun o outs ho => ?_) h
  split at ho
  case h_2 => cases ho
  rename_i stt pend tt n ps asg body hl
  cases stt with
  | busy => cases ho
  | _ =>
    cases pend with
    | none => exact ho
    | some c => exact hs _ _ _ ho
theorem roundS_mono (hs : Sub rc rc') {l : Nat} {args : List Value} {s : CSt} {outs : List Out} (h : roundS rc l args s = some outs) : roundS rc' l args s = some outs := by
  unfold roundS at h ⊢
  split at h
  case h_2 => cases h
  split at h
  case h_2 => cases h
  refine thenS_mono (fun l hl => hs _ _ _ hl) (fun o outs ho => ?_) h
  split at ho
  case h_2 => cases ho
  split at ho
  case h_2 => cases ho
  exact thenS_mono (fun l hl => hs _ _ _ hl) (fun o outs ho => ho) ho
theorem codeS_mono {fl : Nat → Bool} (hs : Sub rc rc') {c : Code} {s : CSt} {outs : List Out} (h : codeS P fl rc c s = some outs) : codeS P fl rc' c s = some outs := by
  cases c with
  | seq a b =>
    simp only [codeS] at h ⊢
    refine thenS_mono (fun l hl => hs _ _ _ hl) (fun o outs ho => ?_) h
    revert ho
    cases o.x <;> intro ho <;> first | exact hs _ _ _ ho | exact ho
  | cond c a b =>
    simp only [codeS] at h ⊢
    split at h
    · exact hs _ _ _ h
    · exact hs _ _ _ h
    · cases h
  | block id c => simp only [codeS] at h ⊢; exact thenS_mono (fun l hl => hs _ _ _ hl) (fun o outs ho => ho) h
  | loop c => exact hs _ _ _ h
  | scope c => exact hs _ _ _ h
  | region id ops draw =>
    simp only [codeS] at h ⊢
    split at h
    · rename_i hd
      rw [if_pos hd]
      split at h
      · rename_i hfl
        rw [if_pos hfl]
        split at h
        · rename_i hst
          rw [if_pos hst]
          exact nextX_mono (fun z outs hz => hs _ _ _ hz) h
        · cases h
      rename_i hfl
      rw [if_neg hfl]
      split at h
      · rename_i hst
        rw [if_pos hst]
        split at h
        · rename_i hreg
          rw [if_pos hreg]
          cases hr : rc (.dops ops ops.toList) s with
          | none => rw [hr] at h; cases h
          | some l =>
            rw [hs _ _ _ hr]
            rw [hr] at h
            exact h
        · rename_i hreg
          rw [if_neg hreg]
          cases hr : rc (.dops ops ops.toList) s.bump with
          | none => rw [hr] at h; cases h
          | some l =>
            rw [hs _ _ _ hr]
            rw [hr] at h
            cases l with
            | nil => cases h
            | cons o l =>
              cases l with
              | cons o' l => cases h
              | nil =>
                simp only at h ⊢
                split at h
                · rename_i hc; rw [if_pos hc]; exact h
                · rename_i hc; rw [if_neg hc]; exact nextX_mono (fun z outs hz => hs _ _ _ hz) h
      · cases h
    · rename_i hd; rw [if_neg hd]; exact hs _ _ _ h
  | rangeFunc g ps asg body => exact rangeS_mono hs h
  | _ => exact h
theorem loopS_mono (hs : Sub rc rc') {c : Code} {s : CSt} {outs : List Out} (h : loopS rc c s = some outs) : loopS rc' c s = some outs := by
  unfold loopS at h ⊢
  refine thenS_mono (fun l hl => hs _ _ _ hl) (fun o outs ho => ?_) h
  revert ho
  cases o.x <;> intro ho <;> first | exact hs _ _ _ ho | exact ho
theorem scopeS_mono (hs : Sub rc rc') {b c : Code} {s : CSt} {outs : List Out} (h : scopeS rc b c s = some outs) : scopeS rc' b c s = some outs := by
  unfold scopeS at h ⊢
  refine thenS_mono (fun l hl => hs _ _ _ hl) (fun o outs ho => ?_) h
  revert ho
  cases o.x with
  | goto l =>
    intro ho
    simp only at ho ⊢
    split at ho
    · exact hs _ _ _ ho
    · exact ho
  | _ => exact fun ho => ho
theorem opsS_mono {xs : List Nat} (hs : Sub rc rc') {ops : Array Oper} {l : List Oper} {s : CSt} {outs : List Out} (h : opsS P xs rc ops l s = some outs) : opsS P xs rc' ops l s = some outs := by
  cases l with
  | nil => exact h
  | cons o l =>
    simp only [opsS] at h ⊢
    cases hd : dstOk s.st o with
    | false => rw [hd] at h; cases h
    | true =>
      rw [hd] at h
      simp only [cond_true] at h ⊢
      cases hw : wants ops s.st o with
      | false => rw [hw] at h; exact hs _ _ _ h
      | true =>
        rw [hw] at h
        simp only [cond_true] at h ⊢
        split at h
        · cases hx : xs.contains ‹FuncId› with
          | true =>
            rw [hx] at h
            simp only [cond_true] at h ⊢
            split at h
            · exact hs _ _ _ h
            · cases h
          | false =>
            rw [hx] at h
            simp only [cond_false] at h ⊢
            cases hy : xs.contains (XB + ‹FuncId›) with
            | true =>
              rw [hy] at h
              simp only [cond_true] at h ⊢
              split at h
              · exact hs _ _ _ h
              · cases h
            | false =>
              rw [hy] at h
              simp only [cond_false] at h ⊢
              exact thenS_mono (fun l hl => hs _ _ _ hl) (fun o outs ho => hs _ _ _ ho) h
        · split at h
          · split at h
            · exact bindS_mono (fun a outs ha => hs _ _ _ ha) _ _ h
            · cases h
          · split at h
            · exact hs _ _ _ h
            · cases h
theorem dopsS_mono (hs : Sub rc rc') {ops : Array Oper} {l : List Oper} {s : CSt} {outs : List Out} (h : dopsS P rc ops l s = some outs) : dopsS P rc' ops l s = some outs := by
  have go : ∀ (l : List Oper) (s' : CSt) (k : Out → Option (List Out)) (outs : List Out), (match rc (.dops ops l) s' with | some [q] => k q | _ => none) = some outs → (match rc' (.dops ops l) s' with | some [q] => k q | _ => none) = some outs := by
    intro l s' k outs h
    cases hr : rc (.dops ops l) s' with
    | none => rw [hr] at h; cases h
    | some x => rw [hs _ _ _ hr]; rw [hr] at h; exact h
  cases l with
  | nil => exact h
  | cons o l =>
    simp only [dopsS] at h ⊢
    split at h
    · rename_i hd
      rw [if_pos hd]
      split at h
      · rename_i hw
        rw [if_pos hw]
        split at h
        · rename_i f args _
          cases hr : rc (.call f args) s with
          | none => rw [hr] at h; cases h
          | some x =>
            rw [hs _ _ _ hr]
            rw [hr] at h
            cases x with
            | nil => cases h
            | cons r x =>
              cases x with
              | nil => exact go _ _ _ _ h
              | cons r' x => cases h
        · split at h
          · exact go _ _ _ _ h
          · cases h
      · rename_i hw
        rw [if_neg hw]
        exact go _ _ _ _ h
    · cases h
theorem xbrS_mono (hs : Sub rc rc') {ops : Array Oper} {es : List Nat} {r : List (Option XRec)} {s : CSt} {outs : List Out} (h : xbrS P rc ops es r s = some outs) : xbrS P rc' ops es r s = some outs := by
  unfold xbrS at h ⊢
  simp only at h ⊢
  split at h
  · rename_i hst
    rw [if_pos hst]
    split at h
    · exact h
    · refine bindS_mono (fun e outs he => ?_) _ _ h
      split at he
      · split at he
        · rename_i hd
          rw [if_pos hd]
          split at he
          · rename_i hw
            rw [if_pos hw]
            split at he
            · exact thenS_mono (fun l hl => hs _ _ _ hl) (fun o outs ho => nextX_mono (fun z outs hz => hs _ _ _ hz) ho) he
            · split at he
              · exact nextX_mono (fun z outs hz => hs _ _ _ hz) he
              · cases he
          · rename_i hw
            rw [if_neg hw]
            exact nextX_mono (fun z outs hz => hs _ _ _ hz) he
        · cases he
      · cases he
  · cases h
theorem callS_mono {ov : Nat → FuncId → List Value → Option Value} (hs : Sub rc rc') {f : FuncId} {args : List Value} {s : CSt} {outs : List Out} (h : callS P ov rc f args s = some outs) : callS P ov rc' f args s = some outs := by
  unfold callS at h ⊢
  split at h
  · exact h
  · rw [Bool.cond_eq_ite] at h ⊢
    split at h
    · rename_i hb; rw [if_pos hb]; exact roundS_mono hs h
    rename_i hb
    rw [if_neg hb]
    split at h
    · split at h
      · rename_i c _
        cases hr : rc (.code c) ⟨argTree args 0 .leaf, args.length + (‹Func›.ntmps - args.length), s.ht, s.nx, s.asm⟩ with
        | none => simp only [hr] at h; cases h
        | some x => simp only [hs _ _ _ hr]; simp only [hr] at h; exact h
      · cases h
    · cases h
end
theorem execS_fuel (P : Program) (xs : List Nat) (ov : Nat → FuncId → List Value → Option Value) : ∀ n, Sub (execS P xs ov n) (execS P xs ov (n + 1)) := by
  intro n
  induction n with
  | zero => intro j s outs h; simp [execS] at h
  | succ n ih =>
    intro j s outs h
    cases j <;> simp only [execS] at h ⊢
    · exact codeS_mono ih h
    · exact loopS_mono ih h
    · exact scopeS_mono ih h
    · exact opsS_mono ih h
    · exact dopsS_mono ih h
    · exact callS_mono ih h
    · exact xbrS_mono ih h
theorem allIdx_of {α : Type} {f : Nat → α → Bool} : ∀ (l : List α) (k : Nat), (∀ i x, l[i]? = some x → f (k + i) x = true) → allIdx f k l = true := by
  intro l
  induction l with
  | nil => intro k _; rfl
  | cons y l ih =>
    intro k h
    simp only [allIdx, Bool.and_eq_true]
    refine ⟨h 0 y rfl, ih (k + 1) fun i x hx => ?_⟩
    have := h (i + 1) x (by simpa using hx)
    rwa [show k + (i + 1) = k + 1 + i by omega] at this
theorem statOk_of_reg {kk : Oper → Nat} {ops : Array Oper} (h : RegP kk ops) : statOk ops = true := by
  have hr := h
  have toA : ∀ (i : Nat) (o : Oper), ops.toList[i]? = some o → ops[i]? = some o := fun i o ho => by simpa using ho
  obtain ⟨e1, e2⟩ := hr.stat
  unfold statOk
  simp only [Bool.and_eq_true]
  refine ⟨⟨allIdx_of _ _ fun i o ho => ?_, allIdx_of _ _ fun i oi hi => allIdx_of _ _ fun j oj hj => ?_⟩, allIdx_of _ _ fun i oi hi => allIdx_of _ _ fun j oj hj => ?_⟩
  · rw [Nat.zero_add, List.all_eq_true]
    intro e he
    cases hb : Region.binds .any e with
    | false => rfl
    | true =>
      have := e1 i o (toA i o ho) e.on ⟨e, by simpa using he, hb, rfl⟩
      simpa using this
  · simp only [Nat.zero_add]
    by_cases hij : i = j
    · simp [hij]
    · rw [Bool.or_eq_true]
      right
      cases hdi : oi.dst with
      | none => rfl
      | some d =>
        cases hdj : oj.dst with
        | none => rfl
        | some d' =>
          simp only [bne_iff_ne, ne_eq]
          intro q
          subst q
          exact hij (e2 i j oi oj d (toA i oi hi) (toA j oj hj) hdi hdj)
  · simp only [Nat.zero_add]
    by_cases hij : i = j
    · simp [hij]
    · rw [Bool.or_eq_true]
      right
      cases hdj : oj.dst with
      | none => rfl
      | some t =>
        simp only
        split
        · rename_i hc
          have hc' : t ∈ opTs oi ∨ gdst ops oi = some t := by
            rw [Bool.or_eq_true, beq_iff_eq, List.contains_iff_mem] at hc
            exact hc
          have := ((hr.pair i j oi oj (toA i oi hi) (toA j oj hj) hij).1 t hdj).2 hc'
          by_cases c : j < i
          · rw [if_pos c] at this ⊢; exact this
          · rw [if_neg c] at this ⊢; exact this
        · rfl
theorem putT_eq (s : CSt) (dst : Option Tmp) (v : Value) (ht : Tree AObj) (nx : Nat) (asm : Asm) : (⟨putT s.tt dst v, s.n, ht, nx, asm⟩ : CSt) = s.put dst v ht nx asm := by
  cases s
  cases dst <;> rfl
theorem only1_spec {r : Option (List Out)} {k : Out → Option (List Out)} {outs : List Out} (h : only1 r k = some outs) : ∃ o, r = some [o] ∧ k o = some outs := by
  cases r with
  | none => cases h
  | some l =>
    cases l with
    | nil => cases h
    | cons o l =>
      cases l with
      | nil => exact ⟨o, rfl, h⟩
      | cons o' l => cases h
theorem resF_eq (P : Program) (rs : Array ResultVar) (o : Out) : resF P rs o = resS P rs o := by
  obtain ⟨x, v, s, tr⟩ := o
  obtain ⟨tt, n, ht, nx, asm⟩ := s
  show AExit.rec (motive := fun _ => Option Value → CSt → Option Out) (fun r s => Option.rec (motive := fun _ => Option Out) none (fun v => some ⟨.ret, v, s, []⟩) r) (fun _ _ _ => none) (fun _ _ _ => none)
      (fun r s => Option.rec (motive := fun _ => Option Out) none (fun v => some ⟨.ret, v, s, []⟩) r) x (resAll P tt ht rs.toList) ⟨tt, n, ht, nx, asm⟩ = _
  have := resAll_eq P ⟨tt, n, ht, nx, asm⟩ rs
  simp only at this
  rw [this]
  cases x <;> simp only [resS] <;> first | rfl | (cases aResults P (⟨tt, n, ht, nx, asm⟩ : CSt).st rs <;> rfl)
theorem endF_eq (P : Program) (rs : Array ResultVar) (s : CSt) (l : List Out) :
    endF P rs s l = match resL P rs l with | some [o] => some [o] | some l => (match mergeS s l with | some m => some m | none => some l) | none => none := by
  cases l with
  | nil => rfl
  | cons o l =>
    cases l with
    | nil =>
      show Option.rec (motive := fun _ => Option (List Out)) none (fun o' => some [o']) (resF P rs o) = _
      rw [resF_eq]
      simp only [resL]
      cases resS P rs o <;> rfl
    | cons o' l =>
      show (match resL P rs (o :: o' :: l) with | some l => (match mergeS s l with | some m => some m | none => some l) | none => none) = _
      simp only [resL]
      cases resS P rs o with
      | none => rfl
      | some a =>
        cases resS P rs o' with
        | none => rfl
        | some b =>
          cases resL P rs l <;> rfl
def JobE (P : Program) (xs : List Nat) (ov : Nat → FuncId → List Value → Option Value) (n : Nat) (job : FJob) (s : CSt) (outs : List Out) : Prop :=
  match job with
  | .code c => execS P xs ov n (.code c) s = some outs
  | .loop c => execS P xs ov n (.loop c) s = some outs
  | .scope b c => execS P xs ov n (.scope b c) s = some outs
  | .ops 0 ops l => execS P xs ov n (.ops ops l) s = some outs
  | .ops 1 ops l => ∃ s' tr, outs = [⟨.normal, undef, s', []⟩] ∧ execS P xs ov n (.dops ops l) s = some [⟨.normal, undef, s', tr⟩]
  | .ops (_ + 2) ops l => ∃ s' tr, outs = [⟨.normal, undef, s', tr⟩] ∧ execS P xs ov n (.dops ops l) s = some [⟨.normal, undef, s', tr⟩]
  | .call f args => execS P xs ov n (.call f args) s = some outs
  | .old j => execS P xs ov n j s = some outs
abbrev runF (rc : RecF) (j : FJob) (s : CSt) : Option (List Out) := rc j s.tt s.n s.ht s.nx s.asm
theorem ev_R (st : ASt) (o : Oper) : ∀ x ∈ o.op.operands.toList, evR (opTs o) st.tm x = st.ev x := by
  intro x hx
  cases x with
  | tmp t =>
    have : t ∈ opTs o := by
      unfold opTs
      rw [List.mem_filterMap]
      exact ⟨_, hx, rfl⟩
    simp only [evR, ASt.ev]
    rw [if_pos (List.contains_iff_mem.2 this)]
  | _ => rfl
theorem evParts_congrF {ev ev' : Operand → Option Value} : ∀ (l : List (Nat × Operand)), (∀ x ∈ l, ev x.2 = ev' x.2) → evParts ev l = evParts ev' l := by
  intro l
  induction l with
  | nil => intro _; rfl
  | cons x l ih =>
    obtain ⟨i, x⟩ := x
    intro h
    simp only [evParts]
    rw [h _ (List.mem_cons_self ..), ih (fun y hy => h y (List.mem_cons_of_mem _ hy))]
theorem evAll_congrF {ev ev' : Operand → Option Value} : ∀ (l : List Operand), (∀ x ∈ l, ev x = ev' x) → evAll ev l = evAll ev' l := by
  intro l
  induction l with
  | nil => intro _; rfl
  | cons x l ih =>
    intro h
    simp only [evAll]
    rw [h _ (List.mem_cons_self ..), ih (fun y hy => h y (List.mem_cons_of_mem _ hy))]
theorem evOpt_congrF {ev ev' : Operand → Option Value} (x : Option Operand) (h : ∀ y, x = some y → ev y = ev' y) : evOpt ev x = evOpt ev' x := by
  cases x with
  | none => rfl
  | some y => simp only [evOpt]; rw [h y rfl]
theorem aop_congrF {P : Program} {H : Heap} {nx : Nat} {ev ev' : Operand → Option Value} {o : Oper} (h : ∀ x ∈ o.op.operands.toList, ev x = ev' x) : aop P H nx ev o = aop P H nx ev' o := by
  unfold aop
  cases ho : o.op <;> simp only [ho, Op.operands, Call.operands] at h ⊢
  case build t parts => rw [evParts_congrF parts.toList fun x hx => h _ (by simp only [List.mem_map]; exact ⟨x, hx, rfl⟩)]
  case buildSlice t len parts => rw [evParts_congrF parts.toList fun x hx => h _ (by simp only [List.mem_map]; exact ⟨x, hx, rfl⟩)]
  case makeFunc fn first captured =>
    rw [evAll_congrF first.toList fun x hx => h _ (by simp; left; simpa using hx), evAll_congrF captured.toList fun x hx => h _ (by simp; right; simpa using hx)]
  case makeMap t r => rw [evOpt_congrF r fun y hy => h _ (by subst hy; simp)]
  case slice t x lo hi mx =>
    rw [h x (by simp), evOpt_congrF lo fun y hy => h _ (by subst hy; simp), evOpt_congrF hi fun y hy => h _ (by subst hy; simp), evOpt_congrF mx fun y hy => h _ (by subst hy; simp)]
  case call c =>
    split
    · rw [evAll_congrF c.args.toList fun x hx => h _ (by simp; right; simpa using hx)]
    · rfl
  case pick c a b => rw [h c (by simp), h a (by simp), h b (by simp)]
  case store t a x => rw [h a (by simp), h x (by simp)]
  case insert t m k x => rw [h m (by simp), h k (by simp), h x (by simp)]
  case mapUpdate t m k x => rw [h m (by simp), h k (by simp), h x (by simp)]
  case entryStore t m k x => rw [h m (by simp), h k (by simp), h x (by simp)]
  case binOp op t x y yt => rw [h x (by simp), h y (by simp)]
  case makeSlice t a b => rw [h a (by simp), h b (by simp)]
  case indexAddr t a b => rw [h a (by simp), h b (by simp)]
  case index t a b => rw [h a (by simp), h b (by simp)]
  case lookup t a b ok => rw [h a (by simp), h b (by simp)]
  case mapEntry t a b => rw [h a (by simp), h b (by simp)]
  all_goals first
    | rfl
    | (rename_i x; rw [h x (by simp)]; done)
    | (rename_i x _; rw [h x (by simp)]; done)
    | (rename_i _ x; rw [h x (by simp)]; done)
theorem callee_R (s : CSt) (o : Oper) : calleeG (evR (opTs o) s.tm) o = calleeG s.st.ev o := by
  have h := ev_R s.st o
  obtain ⟨dst, op, ty, pos, after, guard⟩ := o
  cases op with
  | call c =>
    obtain ⟨cal, args, ts⟩ := c
    cases cal with
    | value x =>
      simp only [Op.operands, Call.operands] at h
      have e1 := h x (by simp)
      have e2 := evAll_congrF args.toList fun y hy => h y (by simp; right; simpa using hy)
      simp only [calleeG]
      have hs : s.st.tm = s.tm := rfl
      rw [hs] at e1 e2
      rw [e1, e2]
    | _ => rfl
  | _ => rfl
theorem finG_spec {fin : Value → Eff → Option (List Out)} {r : Option (Value × Eff)} {outs : List Out} (h : finG fin r = some outs) : ∃ v e, r = some (v, e) ∧ fin v e = some outs := by
  cases r with
  | none => cases h
  | some ve => exact ⟨ve.1, ve.2, rfl, h⟩
theorem withS_eq (rc : RecF) (j : FJob) (s : CSt) : withS rc j s = runF rc j s := by cases s; rfl
theorem onOut_eq (o : Out) (k : AExit → Value → Tree Value → Nat → Tree AObj → Nat → Asm → Option (List Out)) : onOut o k = k o.x o.v o.s.tt o.s.n o.s.ht o.s.nx o.s.asm := by
  obtain ⟨x, v, s, tr⟩ := o
  cases s
  rfl
theorem isNew_eq (e : Eff) : isNew e = !e.isNone := by cases e <;> rfl
theorem effK_eq (rc : RecF) (q : Nat) (ops : Array Oper) (l : List Oper) (dst : Option Tmp) (s : CSt) (v : Value) (e : Eff) :
    effK rc q ops l (putT s.tt dst v) s.n s.ht s.nx s.asm e = runF rc (.ops q ops l) (s.put dst v (e.tree s.nx s.ht) (e.nx s.nx) s.asm) := by
  rw [← putT_eq]
  cases e <;> rfl
theorem anyN_eq (f : Nat → Bool) (l : List Nat) : anyN f l = l.any f := by
  induction l with
  | nil => rfl
  | cons x l ih =>
    show Bool.rec (motive := fun _ => Bool) (anyN f l) true (f x) = _
    rw [ih, List.any_cons]
    cases f x <;> rfl
theorem allQ_eq (f : Nat × CSt → Bool) (l : List (Nat × CSt)) : allQ f l = l.all f := by
  induction l with
  | nil => rfl
  | cons x l ih =>
    show Bool.rec (motive := fun _ => Bool) false (allQ f l) (f x) = _
    rw [ih, List.all_cons]
    cases f x <;> rfl
theorem tellF_spec {P : Program} {o : Oper} {s : CSt} {ht : Tree AObj} {nx : Nat} {v : Value} (h : sameF (tellF P o.op s.tt ht nx) v = true) : sameAns (aop P ht.get nx (evR (opTs o) s.tm) o) v = true := by
  unfold tellF at h
  rw [opK_eq] at h
  unfold opGen at h
  have e5 : aop P ht.get nx (evR (opTs o) s.tm) o = aop P ht.get nx s.st.ev o := aop_congrF (ev_R s.st o)
  rw [e5]
  split at h
  · cases h
  · split at h
    · split at h <;> cases h
    · cases ha : aop P ht.get nx s.st.ev o with
      | none => rw [ha] at h; cases h
      | some ve =>
        obtain ⟨u, e⟩ := ve
        rw [ha] at h
        cases e with
        | none => exact h
        | _ => cases h
theorem readF1_spec {P : Program} {ops : Array Oper} {es : List Nat} {i : Nat} {o : Oper} {d : DTr} {q : Nat × CSt} (h : readF1 P ops es i o d.s.tt d.v q = true) : readG P ops es i o d q = true := by
  obtain ⟨p, sp⟩ := q
  obtain ⟨tt, n, ht, nx, asm⟩ := sp
  have h' : Bool.rec (motive := fun _ => Bool) (Bool.rec (motive := fun _ => Bool) (Bool.rec (motive := fun _ => Bool) (anyN (fun e => Bool.rec (motive := fun _ => Bool) false (waitsB ops 6 e i) (Nat.ble (Nat.succ e) p)) es) true (sameF (tellF P o.op d.s.tt ht nx) d.v)) true (anyN (fun e => Bool.rec (motive := fun _ => Bool) false (depAt ops e i) (Nat.ble (Nat.succ e) p)) es))
      true (anyN (fun j => Bool.rec (motive := fun _ => Bool) false (depB o j) (Nat.ble p j)) es) = true := h
  rw [anyN_eq, anyN_eq, anyN_eq] at h'
  unfold readG
  simp only
  have e1 : (fun j => Bool.rec (motive := fun _ => Bool) false (depB o j) (Nat.ble p j)) = fun j => depB o j && decide (p ≤ j) := by
    funext j
    have : Nat.ble p j = decide (p ≤ j) := by rw [Bool.eq_iff_iff, decide_eq_true_eq]; exact iff_of_eq Nat.ble_eq
    rw [this]
    by_cases c : p ≤ j
    · rw [decide_eq_true c]; simp
    · rw [decide_eq_false c]; simp
  have e2 : (fun e => Bool.rec (motive := fun _ => Bool) false (depAt ops e i) (Nat.ble (Nat.succ e) p)) = fun e => decide (e < p) && (match ops[e]? with | some oe => depB oe i | none => false) := by
    funext e
    have : Nat.ble (Nat.succ e) p = decide (e < p) := by rw [Bool.eq_iff_iff, decide_eq_true_eq]; exact iff_of_eq Nat.ble_eq
    rw [this]
    by_cases c : e < p
    · rw [decide_eq_true c]; rfl
    · rw [decide_eq_false c]; rfl
  have e3 : (fun e => Bool.rec (motive := fun _ => Bool) false (waitsB ops 6 e i) (Nat.ble (Nat.succ e) p)) = fun e => decide (e < p) && waitsB ops 6 e i := by
    funext e
    have : Nat.ble (Nat.succ e) p = decide (e < p) := by rw [Bool.eq_iff_iff, decide_eq_true_eq]; exact iff_of_eq Nat.ble_eq
    rw [this]
    by_cases c : e < p
    · rw [decide_eq_true c]; rfl
    · rw [decide_eq_false c]; rfl
  rw [e1, e2, e3] at h'
  rw [Bool.or_eq_true, Bool.or_eq_true, Bool.or_eq_true]
  cases ha : (es.any fun j => depB o j && decide (p ≤ j)) with
  | true => exact .inl (.inl (.inl rfl))
  | false =>
    rw [ha] at h'
    cases hb : (es.any fun e => decide (e < p) && (match ops[e]? with | some oe => depB oe i | none => false)) with
    | true => exact .inl (.inl (.inr rfl))
    | false =>
      rw [hb] at h'
      cases hc : sameF (tellF P o.op d.s.tt ht nx) d.v with
      | true => exact .inl (.inr (tellF_spec hc))
      | false =>
        rw [hc] at h'
        exact .inr h'
theorem readsFo_spec {P : Program} {ops : Array Oper} {pts : List (Nat × CSt)} {es ss : List Nat} : ∀ (l : List Oper) (tr : List DTr) (i : Nat), readsFo l P ops pts es ss tr i = true → readsGo P ops pts es ss l tr i = true := by
  intro l
  induction l with
  | nil =>
    intro tr i h
    cases tr with
    | nil => rfl
    | cons d tr => cases h
  | cons o l ih =>
    intro tr i h
    cases tr with
    | nil => cases h
    | cons d tr =>
      obtain ⟨s, v, e⟩ := d
      have hw : wantF ops s.tt o.guard = wantsT ops s.tm o := by rw [wantF_eq]; exact (wantsT_wants s.st o).symm
      have h' : Bool.rec (motive := fun _ => Bool)
        (Bool.rec (motive := fun _ => Bool)
          (Bool.rec (motive := fun _ => Bool) (readsFo l P ops pts es ss tr (i + 1))
              (Bool.rec (motive := fun _ => Bool) false (Bool.rec (motive := fun _ => Bool) false (readsFo l P ops pts es ss tr (i + 1)) (heldF ops o i ss)) (allQ (readF1 P ops es i o s.tt v) pts)) (wantF ops s.tt o.guard))
          (readsFo l P ops pts es ss tr (i + 1)) (Nat.beq (kindOp o.op) 0))
        (readsFo l P ops pts es ss tr (i + 1)) e = true := h
      simp only [readsGo]
      cases e with
      | true => exact Bool.and_eq_true _ _ ▸ ⟨by simp, ih _ _ h'⟩
      | false =>
        simp only at h'
        rw [hw] at h'
        simp only [Bool.false_or, Bool.and_eq_true, Bool.or_eq_true, Bool.not_eq_true']
        cases hk : Nat.beq (kindOp o.op) 0 with
        | true => rw [hk] at h'; exact ⟨.inl (.inl rfl), ih _ _ h'⟩
        | false =>
          rw [hk] at h'
          simp only at h'
          cases hwt : wantsT ops s.tm o with
          | false => rw [hwt] at h'; exact ⟨.inl (.inr rfl), ih _ _ h'⟩
          | true =>
            rw [hwt, allQ_eq] at h'
            simp only at h'
            cases ha : pts.all (readF1 P ops es i o s.tt v) with
            | false => rw [ha] at h'; cases h'
            | true =>
              rw [ha] at h'
              simp only at h'
              cases hh : heldF ops o i ss with
              | false => rw [hh] at h'; cases h'
              | true =>
                rw [hh] at h'
                refine ⟨.inr ⟨List.all_eq_true.2 fun q hq => ?_, hh⟩, ih _ _ h'⟩
                exact readF1_spec (d := ⟨s, v, false⟩) (List.all_eq_true.1 ha q hq)
theorem dynF_spec {P : Program} {ops : Array Oper} {tr : List DTr} {s' : CSt} (h : dynF P ops tr s' = true) : dynG P ops tr s' = true := by
  unfold dynF at h
  unfold dynG
  cases hr : actsGo ops ops.toList tr 0 none [] [] [] [] with
  | none => rw [hr] at h; cases h
  | some r =>
    rw [hr] at h
    exact readsFo_spec _ _ _ h
theorem mayTr_spec {P : Program} {xs : List Nat} {ov : Nat → FuncId → List Value → Option Value} {n q : Nat} {ops : Array Oper} {l : List Oper} {r : RO} {d : DTr} {s1 : CSt} {outs : List Out} (h : mayTr (q + 1) r d = some outs)
    (hr : ∀ outs, r = some outs → JobE P xs ov n (.ops (q + 1) ops l) s1 outs) :
    ∃ s' tr, outs = [⟨.normal, undef, s', if q = 0 then [] else d :: tr⟩] ∧ execS P xs ov n (.dops ops l) s1 = some [⟨.normal, undef, s', tr⟩] := by
  cases q with
  | zero =>
    obtain ⟨s', tr, e1, e2⟩ := hr outs h
    exact ⟨s', tr, e1, e2⟩
  | succ q =>
    have h' : only1 r (addTr d) = some outs := h
    obtain ⟨o, ho, ha⟩ := only1_spec h'
    obtain ⟨s', tr, e1, e2⟩ := hr [o] ho
    cases e1
    cases ha
    exact ⟨s', tr, rfl, e2⟩
theorem execF_spec (P : Program) (xs : List Nat) (ov : Nat → FuncId → List Value → Option Value) : ∀ (n : Nat) (job : FJob) (s : CSt) (outs : List Out), runF (execF P xs ov n) job s = some outs → JobE P xs ov n job s outs := by
  intro n
  induction n with
  | zero => intro job s outs h; cases h
  | succ n ih =>
    intro job s outs h
    have hO : Sub (oldR (execF P xs ov n)) (execS P xs ov n) := fun j s outs h => by
      have h' : withS (execF P xs ov n) (.old j) s = some outs := h
      rw [withS_eq] at h'
      exact ih (.old j) s outs h'
    have h0 : jobF job P xs ov (execF P xs ov n) s.tt s.n s.ht s.nx s.asm = some outs := h
    clear h
    cases job with
    | code c =>
      have h : codeF c P (flagOf ov) (execF P xs ov n) s.tt s.n s.ht s.nx s.asm = some outs := h0
      clear h0
      show execS P xs ov (n + 1) (.code c) s = some outs
      cases c with
      | skip => exact h
      | label l => exact h
      | exit id => exact h
      | goto l => exact h
      | ret => exact h
      | rangeFunc g ps a b =>
        simp only [execS, codeS]
        exact rangeS_mono hO h
      | refuse w => cases h
      | seq a b =>
        have h1 : then1 (runF (execF P xs ov n) (.code a) s) (goOn (execF P xs ov n) (.code b)) = some outs := h
        rw [then1_eq] at h1
        refine thenS_mono (fun l hl => ih (.code a) s l hl) (fun o outs ho => ?_) h1
        obtain ⟨x, v, s', tr⟩ := o
        cases x with
        | normal =>
          have ho' : withS (execF P xs ov n) (.code b) s' = some outs := ho
          rw [withS_eq] at ho'
          exact ih (.code b) s' outs ho'
        | _ => exact ho
      | cond c a b =>
        have h1 : Option.rec (motive := fun _ => Option (List Out)) none (fun v => Option.rec (motive := fun _ => Option (List Out)) none (fun q => Bool.rec (motive := fun _ => Option (List Out)) (runF (execF P xs ov n) (.code b) s) (runF (execF P xs ov n) (.code a) s) q) (asBool v)) (evF s.tt c) = some outs := h
        rw [evF_eq] at h1
        simp only [execS, codeS]
        cases hc : s.st.ev c with
        | none => rw [hc] at h1; cases h1
        | some v =>
          rw [hc] at h1
          cases v with
          | bool q =>
            cases q with
            | true => exact ih (.code a) s outs h1
            | false => exact ih (.code b) s outs h1
          | _ => cases h1
      | block id c =>
        have h1 : then1 (runF (execF P xs ov n) (.code c) s) (outOf id) = some outs := h
        rw [then1_eq] at h1
        refine thenS_mono (fun l hl => ih (.code c) s l hl) (fun o outs ho => ?_) h1
        obtain ⟨x, v, s', tr⟩ := o
        cases x with
        | exit id' =>
          have ho' : Bool.rec (motive := fun _ => Option (List Out)) (some [⟨.exit id', v, s', tr⟩]) (some [⟨.normal, v, s', tr⟩]) (Nat.beq id' id) = some outs := ho
          rw [beq_dec] at ho'
          simp only
          by_cases hid : id' = id
          · rw [decide_eq_true hid] at ho'; rw [if_pos hid]; exact ho'
          · rw [decide_eq_false hid] at ho'; rw [if_neg hid]; exact ho'
        | _ => exact ho
      | loop c => exact ih (.loop c) s outs h
      | scope c => exact ih (.scope c c) s outs h
      | region id ops draw =>
        cases draw with
        | false => exact ih (.ops 0 ops ops.toList) s outs h
        | true =>
          have h1 : (Bool.rec (motive := fun _ => Nat → Array Oper → KCode) regD regX (flagOf ov id)) id ops P (flagOf ov) (execF P xs ov n) s.tt s.n s.ht s.nx s.asm = some outs := h
          have hX : ∀ {o : RO}, o = some outs → o = regX id ops P (flagOf ov) (execF P xs ov n) s.tt s.n s.ht s.nx s.asm → execS P xs ov (n + 1) (.code (.region id ops true)) s = some outs := fun e1 e2 => by
            have h3 : codeS P (flagOf ov) (oldR (execF P xs ov n)) (.region id ops true) s = some outs := by rw [← e1, e2]; rfl
            exact codeS_mono hO h3
          cases hfl : flagOf ov id with
          | true => rw [hfl] at h1; exact hX h1 rfl
          | false =>
          rw [hfl] at h1
          have h1 : (Bool.rec (motive := fun _ => Nat → Array Oper → KCode)
            (fun id ops => Bool.rec (motive := fun _ => Nat → Array Oper → KCode) regX regT (statF ops) id ops)
            (fun _ ops _ _ rc tt n ht nx asm => only1 (rc (.ops 1 ops ops.toList) tt n ht nx asm) endR) (regOk ops)) id ops P (flagOf ov) (execF P xs ov n) s.tt s.n s.ht s.nx s.asm = some outs := h1
          cases hreg : regOk ops with
          | false =>
            rw [hreg] at h1
            have h2 : (Bool.rec (motive := fun _ => Nat → Array Oper → KCode) regX regT (statF ops)) id ops P (flagOf ov) (execF P xs ov n) s.tt s.n s.ht s.nx s.asm = some outs := h1
            cases hst : statF ops with
            | false => rw [hst] at h2; exact hX h2 rfl
            | true =>
              rw [hst] at h2
              have h3 : only1 (runF (execF P xs ov n) (.ops 2 ops ops.toList) s.bump) (fun o =>
                Out.rec (motive := fun _ => RO) (fun _ _ s' tr => Bool.rec (motive := fun _ => RO) (regX id ops P (flagOf ov) (execF P xs ov n) s.tt s.n s.ht s.nx s.asm) (some [⟨.normal, undef, s', []⟩]) (dynF P ops tr s')) o) = some outs := h2
              obtain ⟨o, ho, he⟩ := only1_spec h3
              obtain ⟨s', tr, e1, e2⟩ := ih (.ops 2 ops ops.toList) s.bump _ ho
              cases e1
              have he' : Bool.rec (motive := fun _ => RO) (regX id ops P (flagOf ov) (execF P xs ov n) s.tt s.n s.ht s.nx s.asm) (some [⟨.normal, undef, s', []⟩]) (dynF P ops tr s') = some outs := he
              cases hdy : dynF P ops tr s' with
              | false => rw [hdy] at he'; exact hX he' rfl
              | true =>
                rw [hdy] at he'
                simp only [execS, codeS, if_true, hfl, Bool.false_eq_true, if_false, if_pos (statOk_of_reg (regG_spec hst)), hreg, e2, dynF_spec hdy]
                exact he'
          | true =>
            rw [hreg] at h1
            have h2 : only1 (runF (execF P xs ov n) (.ops 1 ops ops.toList) s) endR = some outs := h1
            obtain ⟨o, ho, he⟩ := only1_spec h2
            obtain ⟨s', tr, e1, e2⟩ := ih (.ops 1 ops ops.toList) s _ ho
            cases e1
            simp only [execS, codeS, if_true, hfl, Bool.false_eq_true, if_false, if_pos (statOk_of_reg (regG_spec hreg)), e2, hreg]
            exact he
    | loop c =>
      have h1 : then1 (runF (execF P xs ov n) (.code c) s) (goOn (execF P xs ov n) (.loop c)) = some outs := h0
      rw [then1_eq] at h1
      refine thenS_mono (fun l hl => ih (.code c) s l hl) (fun o outs ho => ?_) h1
      obtain ⟨x, v, s', tr⟩ := o
      cases x with
      | normal =>
        have ho' : withS (execF P xs ov n) (.loop c) s' = some outs := ho
        rw [withS_eq] at ho'
        exact ih (.loop c) s' outs ho'
      | _ => exact ho
    | scope b c => exact scopeS_mono hO h0
    | ops q ops l =>
      have jobTr : ∀ {q : Nat} {o : Oper} {l : List Oper} {d : DTr} {s' : CSt} {tr : List DTr} {outs : List Out}, outs = [⟨.normal, undef, s', if q = 0 then [] else d :: tr⟩] → dopsS P (execS P xs ov n) ops (o :: l) s = some [⟨.normal, undef, s', d :: tr⟩] →
          JobE P xs ov (n + 1) (.ops (q + 1) ops (o :: l)) s outs := by
        intro q o l d s' tr outs e1 e2
        cases q with
        | zero => exact ⟨s', d :: tr, e1, e2⟩
        | succ q => exact ⟨s', d :: tr, e1, e2⟩
      cases l with
      | nil =>
        have h1 : some [(⟨.normal, undef, s, []⟩ : Out)] = some outs := h0
        cases q with
        | zero => exact h0
        | succ q =>
          cases h1
          cases q with
          | zero => exact ⟨s, [], rfl, rfl⟩
          | succ q => exact ⟨s, [], rfl, rfl⟩
      | cons o l =>
        have h1 : onOper o.dst o.op o.guard l P xs (execF P xs ov n) q ops s.tt s.n s.ht s.nx s.asm = some outs := h0
        unfold onOper at h1
        rw [dstF_eq, wantF_eq] at h1
        have hrun : ∀ (v : Value) (ht : Tree AObj) (nx : Nat) (asm : Asm) (outs : List Out), execF P xs ov n (.ops q ops l) (putT s.tt o.dst v) s.n ht nx asm = some outs → JobE P xs ov n (.ops q ops l) (s.put o.dst v ht nx asm) outs := fun v ht nx asm outs hh => by
          rw [← putT_eq]
          exact ih (.ops q ops l) ⟨putT s.tt o.dst v, s.n, ht, nx, asm⟩ outs hh
        have heff : ∀ (v : Value) (e : Eff) (outs : List Out), effK (execF P xs ov n) q ops l (putT s.tt o.dst v) s.n s.ht s.nx s.asm e = some outs → JobE P xs ov n (.ops q ops l) (s.put o.dst v (e.tree s.nx s.ht) (e.nx s.nx) s.asm) outs := fun v e outs hh => by
          rw [effK_eq] at hh
          exact ih (.ops q ops l) _ outs hh
        cases hd : dstOk s.st o with
        | false => rw [hd] at h1; cases h1
        | true =>
          rw [hd] at h1
          simp only at h1
          cases hw : wants ops s.st o with
          | false =>
            rw [hw] at h1
            simp only at h1
            cases q with
            | zero =>
              show opsS P xs (execS P xs ov n) ops (o :: l) s = some outs
              simp only [opsS, hd, hw, cond_true, cond_false]
              exact hrun undef s.ht s.nx s.asm outs h1
            | succ q =>
              have hw' : wantsT ops s.tm o = false := by rw [← hw]; exact wantsT_wants s.st o
              obtain ⟨s', tr, e1, e2⟩ := mayTr_spec h1 (fun outs ho => hrun undef s.ht s.nx s.asm outs ho)
              refine jobTr e1 ?_
              simp only [dopsS, hd, hw', if_true, Bool.false_eq_true, if_false, e2]
          | true =>
            rw [hw] at h1
            simp only at h1
            rw [opK_eq] at h1
            unfold opGen at h1
            cases q with
            | zero =>
              show opsS P xs (execS P xs ov n) ops (o :: l) s = some outs
              simp only [opsS, hd, hw, cond_true]
              cases hc : calleeG s.st.ev o with
              | some fa =>
                obtain ⟨f, args⟩ := fa
                rw [hc] at h1
                simp only at h1 ⊢
                unfold callK at h1
                cases hx : xs.contains f with
                | true =>
                  rw [hx] at h1
                  simp only [cond_true] at h1 ⊢
                  split at h1
                  · exact hrun _ _ _ _ _ h1
                  · cases h1
                | false =>
                  rw [hx] at h1
                  simp only [cond_false] at h1 ⊢
                  cases hy : xs.contains (XB + f) with
                  | true =>
                    have hy' : xs.contains (Nat.add XB f) = true := hy
                    simp only [hy'] at h1
                    simp only [cond_true]
                    cases hv : idxV args with
                    | none => rw [hv] at h1; cases h1
                    | some x =>
                      rw [hv] at h1
                      exact hrun _ _ _ _ _ h1
                  | false =>
                  have hy' : xs.contains (Nat.add XB f) = false := hy
                  simp only [hy'] at h1
                  simp only [cond_false]
                  have h2 : then1 (runF (execF P xs ov n) (.call f args) s) (fun r => onOut r fun _ v _ _ ht' nx' asm' => execF P xs ov n (.ops 0 ops l) (putT s.tt o.dst v) s.n ht' nx' asm') = some outs := h1
                  rw [then1_eq] at h2
                  refine thenS_mono (fun l hl => ih (.call f args) s l hl) (fun r outs hr => ?_) h2
                  rw [onOut_eq] at hr
                  exact hrun _ _ _ _ _ hr
              | none =>
                rw [hc] at h1
                simp only at h1 ⊢
                cases hn : nextOf s.st o with
                | some it =>
                  rw [hn] at h1
                  simp only at h1 ⊢
                  cases ha : aNexts s.ht.get it with
                  | none => rw [ha] at h1; cases h1
                  | some rs =>
                    rw [ha] at h1
                    have h2 : bindS (fun r => effK (execF P xs ov n) 0 ops l (putT s.tt o.dst r.1) s.n s.ht s.nx s.asm r.2) rs = some outs := h1
                    exact bindS_mono (fun r outs hr => heff _ _ _ hr) _ _ h2
                | none =>
                  rw [hn] at h1
                  simp only at h1 ⊢
                  obtain ⟨v, e, e1, e2⟩ := finG_spec h1
                  simp only [e1]
                  exact heff _ _ _ e2
            | succ q =>
              have hw' : wantsT ops s.tm o = true := by rw [← hw]; exact wantsT_wants s.st o
              cases hc : calleeG s.st.ev o with
              | some fa =>
                obtain ⟨f, args⟩ := fa
                rw [hc] at h1
                simp only at h1
                unfold callK at h1
                cases hx : xs.contains f with
                | true => rw [hx] at h1; cases h1
                | false =>
                  rw [hx] at h1
                  have h2 : only1 (runF (execF P xs ov n) (.call f args) s) (fun r => onOut r fun _ v _ _ ht' nx' asm' => mayTr (q + 1) (execF P xs ov n (.ops (q + 1) ops l) (putT s.tt o.dst v) s.n ht' nx' asm') ⟨s, v, true⟩) = some outs := h1
                  obtain ⟨r, hr, h3⟩ := only1_spec h2
                  rw [onOut_eq] at h3
                  obtain ⟨s', tr, e1, e2⟩ := mayTr_spec h3 (fun outs ho => hrun _ _ _ _ outs ho)
                  have hr' : execS P xs ov n (.call f args) s = some [r] := ih (.call f args) s _ hr
                  refine jobTr e1 ?_
                  simp only [dopsS, hd, hw', if_true, callee_R, hc, hr', e2]
              | none =>
                rw [hc] at h1
                simp only at h1
                cases hn : nextOf s.st o with
                | some it =>
                  rw [hn] at h1
                  simp only at h1
                  split at h1 <;> cases h1
                | none =>
                  rw [hn] at h1
                  simp only at h1
                  obtain ⟨v, e, e1, e2⟩ := finG_spec h1
                  obtain ⟨s', tr, e3, e4⟩ := mayTr_spec e2 (fun outs ho => heff v e outs ho)
                  have e5 : aop P s.ht.get s.nx (evR (opTs o) s.tm) o = some (v, e) := by rw [← e1]; exact aop_congrF (ev_R s.st o)
                  refine jobTr e3 ?_
                  simp only [dopsS, hd, hw', if_true, callee_R, hc, e5, e4, isNew_eq]
    | call f args =>
      have h1 : callF f args P xs ov (execF P xs ov n) s.tt s.n s.ht s.nx s.asm = some outs := h0
      show callS P ov (execS P xs ov n) f args s = some outs
      unfold callF at h1
      unfold callS
      cases hv : ov s.asm.length f args with
      | some v => rw [hv] at h1; exact h1
      | none =>
        rw [hv] at h1
        simp only at h1 ⊢
        cases hy : Nat.ble YB f with
        | true =>
          rw [hy] at h1
          rw [cond_true]
          exact roundS_mono hO h1
        | false =>
        rw [hy] at h1
        rw [cond_false]
        unfold fnK at h1
        simp only at h1
        cases hf : P.funcs[f]? with
        | none => rw [hf] at h1; cases h1
        | some fn =>
          rw [hf] at h1
          simp only at h1 ⊢
          cases hb : fn.body with
          | none => rw [hb] at h1; cases h1
          | some c =>
            rw [hb] at h1
            have h2 : Option.rec (motive := fun _ => Option (List Out)) none (fun l => endF P fn.results s l) (execF P xs ov n (.code c) (argF args 0 .leaf) (Nat.add (lenV args) (Nat.sub fn.ntmps (lenV args))) s.ht s.nx s.asm) = some outs := h1
            rw [argF_eq, lenV_eq] at h2
            simp only
            cases hr : execF P xs ov n (.code c) (argTree args 0 .leaf) (Nat.add args.length (Nat.sub fn.ntmps args.length)) s.ht s.nx s.asm with
            | none => rw [hr] at h2; cases h2
            | some r =>
              have := ih (.code c) ⟨argTree args 0 .leaf, args.length + (fn.ntmps - args.length), s.ht, s.nx, s.asm⟩ r hr
              have this' : execS P xs ov n (.code c) ⟨argTree args 0 .leaf, args.length + (fn.ntmps - args.length), s.ht, s.nx, s.asm⟩ = some r := this
              rw [hr] at h2
              simp only [this']
              have h3 : endF P fn.results s r = some outs := h2
              rw [endF_eq] at h3
              exact h3
    | old j =>
      have hup : ∀ (j' : SJob), execS P xs ov n j' s = some outs → execS P xs ov (n + 1) j' s = some outs := fun j' hh => execS_fuel P xs ov n _ _ _ hh
      cases j with
      | code c => exact hup _ (ih (.code c) s outs h0)
      | loop c => exact hup _ (ih (.loop c) s outs h0)
      | scope b c => exact hup _ (ih (.scope b c) s outs h0)
      | ops ops l => exact hup _ (ih (.ops 0 ops l) s outs h0)
      | dops ops l =>
        obtain ⟨s', tr, e1, e2⟩ := ih (.ops 2 ops l) s outs h0
        subst e1
        exact hup _ e2
      | call f args => exact hup _ (ih (.call f args) s outs h0)
      | xbr ops es r => exact xbrS_mono hO h0
theorem chk_fast {P : Program} {T : Tables} {xs : List Nat} {ov : Nat → FuncId → List Value → Option Value} {n : Nat} {f : FuncId} {args : List Value} {r : Bool × Asm} (h : chkS (execF P xs ov n (.call f args) .leaf 0 (tabTree T) NG []) = some r) :
    chkS (execS P xs ov n (.call f args) ⟨.leaf, 0, tabTree T, NG, []⟩) = some r := by
  cases he : execF P xs ov n (.call f args) .leaf 0 (tabTree T) NG [] with
  | none => rw [he] at h; cases h
  | some outs =>
    have : execS P xs ov n (.call f args) ⟨.leaf, 0, tabTree T, NG, []⟩ = some outs := execF_spec P xs ov n (.call f args) ⟨.leaf, 0, tabTree T, NG, []⟩ outs he
    rw [this, ← he]
    exact h
section
variable {P : Program} {xs : List Nat} {ov : Nat → FuncId → List Value → Option Value} {W0 : World}
end
end
end Go.Am
