import Derived.MakeChecks
import Derived.ChangeArms
import Derived.OpenShut
import Derived.FnData
import Derived.Lib.Bytealg
import Derived.Test.YtooakbmehcchnaaRows
import Derived.Lib.Hide
import Derived.Test.YtooakbmehcchnaaQFM8
set_option linter.unusedSimpArgs false
set_option linter.unusedVariables false
set_option maxRecDepth 100000
set_option maxHeartbeats 16000000
namespace Go.Am
open Go.RowKit
noncomputable section
def finG (fin : Value → Eff → Option (List Out)) (r : Option (Value × Eff)) : Option (List Out) :=
  match r with
  | some (v, e) => fin v e
  | none => none
def opGen (P : Program) (K : Value → Eff → RO) (C : FuncId → List Value → RO) (X : List (Value × Eff) → RO) (s : CSt) (ht : Tree AObj) (nx : Nat) (o : Oper) : RO :=
  match calleeG s.st.ev o with
  | some (f, args) => C f args
  | none =>
    match nextOf s.st o with
    | some it => (match aNexts ht.get it with | some rs => X rs | none => none)
    | none => finG K (aop P ht.get nx s.st.ev o)
theorem finE_eq (K : Value → Eff → RO) (r : Option (Value × Eff)) : finE K r = finG K r := by
  cases r with
  | none => rfl
  | some ve => obtain ⟨v, e⟩ := ve; rfl
theorem finV_eq (K : Value → Eff → RO) (r : Option Value) : finV K r = finG K (r.map fun v => (v, .none)) := by
  cases r <;> rfl
theorem opt_store (r : Option Eff) : Option.rec (motive := fun _ => Option (Value × Eff)) none (fun e => some (undef, e)) r = r.map fun e => (undef, e) := by cases r <;> rfl
theorem opK_eq (P : Program) (K : Value → Eff → RO) (C : FuncId → List Value → RO) (X : List (Value × Eff) → RO) (s : CSt) (ht : Tree AObj) (nx : Nat) (o : Oper) :
    opK o.op P K C X s.tt ht nx = opGen P K C X s ht nx o := by
  obtain ⟨dst, op, ty, pos, after, guard⟩ := o
  have hv := evF_eq s
  unfold opGen
  cases op <;> simp only [calleeG, nextOf, aop]
  case call c =>
    obtain ⟨cal, args, ts⟩ := c
    cases cal with
    | value x =>
      simp only
      show kCallV x args P K C X s.tt ht nx = _
      unfold kCallV
      rw [hv, evAllF_eq]
      cases s.st.ev x with
      | none => rfl
      | some v =>
        cases v with
        | func fn a b =>
          cases fn with
          | func f =>
            cases evAll s.st.ev args.toList with
            | none => rfl
            | some vs =>
              show Bool.rec (motive := fun _ => Option (List Out)) none (C f ((a.toList ++ vs) ++ b.toList)) (Nat.blt f XB) = _
              simp only
              cases Nat.blt f XB <;> rfl
          | _ => rfl
        | chan r =>
          cases r with
          | none => rfl
          | some l => cases evAll s.st.ev args.toList <;> rfl
        | _ => rfl
    | invoke r m => rfl
    | builtin b =>
      simp only
      cases b with
      | len =>
        show finV K (obind (evAllF s.tt args.toList) fun y => lenF P ht ts y) = _
        rw [finV_eq, evAllF_eq, obind_eq, Option.map_bind]
        congr 2
        funext y
        exact lenF_eq P ht nx ts y
      | append =>
        show finE K (obind (evAllF s.tt args.toList) fun y => List.rec (motive := fun _ => Option (Value × Eff)) none (fun s r _ => List.rec (motive := fun _ => Option (Value × Eff)) none (fun x r' _ => List.rec (motive := fun _ => Option (Value × Eff)) (appendF P ht nx ts s x) (fun _ _ _ => none) r') r) y) = _
        rw [finE_eq, evAllF_eq, obind_eq]
        congr 2
        funext y
        cases y with
        | nil => rfl
        | cons a y =>
          cases y with
          | nil => rfl
          | cons b y =>
            cases y with
            | nil => exact appendF_eq P ht nx ts a b
            | cons c y => rfl
      | _ =>
        show finE K (obind (evAllF s.tt args.toList) fun y => aBuiltin P ht.get nx _ ts y) = _
        rw [finE_eq, evAllF_eq, obind_eq]
  case next it str =>
    cases str with
    | true =>
      show finE K (obind (evF s.tt it) fun v => aNext ht.get v true) = _
      rw [finE_eq, hv, obind_eq]
    | false =>
      simp only
      show Option.rec (motive := fun _ => RO) none (fun it => Option.rec (motive := fun _ => RO) none X (aNexts ht.get it)) (evF s.tt it) = _
      rw [hv]
      cases s.st.ev it with
      | none => rfl
      | some it =>
        simp only
        cases aNexts ht.get it <;> rfl
  case pick c a b =>
    show finV K (obind (evF s.tt c) fun v => obind (asBool v) fun y => Bool.rec (motive := fun _ => Option Value) (evF s.tt b) (evF s.tt a) y) = _
    rw [finV_eq, hv]
    congr 1
    cases s.st.ev c with
    | none => rfl
    | some v => cases v <;> first | rfl | (rename_i y; cases y <;> rfl)
  case store t a x =>
    show finE K (obind (evF s.tt a) fun v => obind (evF s.tt x) fun u => Option.rec (motive := fun _ => Option (Value × Eff)) none (fun e => some (undef, e)) (storeF P t ht v u)) = _
    rw [finE_eq]
    simp only [hv, obind_eq, storeF_eq, opt_store]
  case convert src d x =>
    show finE K (obind (evF s.tt x) fun v => cvF P nx ht src d v) = _
    rw [finE_eq, hv, obind_eq]
    congr 2
    funext v
    rw [cvF_eq]
    cases aConvert P nx ht.get src d v with
    | some r => rfl
    | none => cases aConvPtr P ht.get src d v <;> rfl
  case nilCheck x =>
    show finE K _ = _
    rw [finE_eq, hv]
    congr 1
  all_goals first
    | rfl
    | (show finV K _ = _
       rw [finV_eq]
       simp only [hv, obind_eq, Option.map_bind, loadF_eq, binF_eq, buildF_eq, fadF_eq, fldF_eq, idxF_eq, extF_eq, lookupF_eq, Function.comp_def, Option.map_map]
       done)
    | (show finE K _ = _
       rw [finE_eq]
       done)
    | (show finE K _ = _
       rw [finE_eq]
       simp only [hv, obind_eq, updateF_eq, mapEntryF_eq, buildSliceF_eq]
       done)
def Sub (rc rc' : RecS) : Prop := ∀ j s outs, rc j s = some outs → rc' j s = some outs
theorem bindS_mono {α : Type} {k k' : α → Option (List Out)} (hk : ∀ a outs, k a = some outs → k' a = some outs) : ∀ (l : List α) (outs : List Out), bindS k l = some outs → bindS k' l = some outs := by
  intro l
  induction l with
  | nil => intro outs h; exact h
  | cons a l ih =>
    intro outs h
    simp only [bindS] at h ⊢
    cases ha : k a with
    | none => rw [ha] at h; cases h
    | some x =>
      rw [ha] at h
      simp only at h
      rw [hk _ _ ha]
      cases hl : bindS k l with
      | none => rw [hl] at h; cases h
      | some y => rw [hl] at h; rw [ih _ hl]; exact h
theorem thenS_mono {r r' : Option (List Out)} {k k' : Out → Option (List Out)} (hr : ∀ l, r = some l → r' = some l) (hk : ∀ o outs, k o = some outs → k' o = some outs) {outs : List Out} (h : thenS r k = some outs) : thenS r' k' = some outs := by
  cases r with
  | none => cases h
  | some l =>
    rw [hr l rfl]
    cases l with
    | nil => cases h
    | cons o l =>
      cases l with
      | nil => exact hk _ _ h
      | cons o' l => exact bindS_mono hk _ _ h
theorem nextX_mono {P : Program} {ops : Array Oper} {es : List Nat} {y : XSt} {k k' : XSt → Option (List Out)} (hk : ∀ z outs, k z = some outs → k' z = some outs) {outs : List Out} (h : nextX P ops es y k = some outs) : nextX P ops es y k' = some outs := by
  unfold nextX at h ⊢
  split at h
  · exact hk _ _ h
  · cases h
section
variable {P : Program} {rc rc' : RecS}
theorem rangeS_mono (hs : Sub rc rc') {g : Operand} {ps : Array Tmp} {asg body : Code} {s : CSt} {outs : List Out} (h : rangeS rc g ps asg body s = some outs) : rangeS rc' g ps asg body s = some outs := by
  unfold rangeS at h ⊢
  split at h
  case h_2 => cases h
  rename_i f first cap hg
  rw [Bool.cond_eq_ite] at h ⊢
  split at h
  case isFalse => cases h
  rename_i hb
  rw [if_pos hb]
  refine thenS_mono (fun l hl => hs _ _ _ hl) (fun o outs ho => ?_) h
  split at ho
  case h_2 => cases ho
  rename_i stt pend tt n ps asg body hl
  cases stt with
  | busy => cases ho
  | _ =>
    cases pend with
    | none => exact ho
    | some c => exact hs _ _ _ ho
theorem roundS_mono (hs : Sub rc rc') {l : Nat} {args : List Value} {s : CSt} {outs : List Out} (h : roundS rc l args s = some outs) : roundS rc' l args s = some outs := by
  unfold roundS at h ⊢
  split at h
  case h_2 => cases h
  split at h
  case h_2 => cases h
  refine thenS_mono (fun l hl => hs _ _ _ hl) (fun o outs ho => ?_) h
  split at ho
  case h_2 => cases ho
  split at ho
  case h_2 => cases ho
  exact thenS_mono (fun l hl => hs _ _ _ hl) (fun o outs ho => ho) ho
theorem codeS_mono {fl : Nat → Bool} (hs : Sub rc rc') {c : Code} {s : CSt} {outs : List Out} (h : codeS P fl rc c s = some outs) : codeS P fl rc' c s = some outs := by
  cases c with
  | seq a b =>
    simp only [codeS] at h ⊢
    refine thenS_mono (fun l hl => hs _ _ _ hl) (fun o outs ho => ?_) h
    revert ho
    cases o.x <;> intro ho <;> first | exact hs _ _ _ ho | exact ho
  | cond c a b =>
    simp only [codeS] at h ⊢
    split at h
    · exact hs _ _ _ h
    · exact hs _ _ _ h
    · cases h
  | block id c => simp only [codeS] at h ⊢; exact thenS_mono (fun l hl => hs _ _ _ hl) (fun o outs ho => ho) h
  | loop c => exact hs _ _ _ h
  | scope c => exact hs _ _ _ h
  | region id ops draw =>
    simp only [codeS] at h ⊢
    split at h
    · rename_i hd
      rw [if_pos hd]
      split at h
      · rename_i hfl
        rw [if_pos hfl]
        split at h
        · rename_i hst
          rw [if_pos hst]
          exact nextX_mono (fun z outs hz => hs _ _ _ hz) h
        · cases h
      rename_i hfl
      rw [if_neg hfl]
      split at h
      · rename_i hst
        rw [if_pos hst]
        split at h
        · rename_i hreg
          rw [if_pos hreg]
          cases hr : rc (.dops ops ops.toList) s with
          | none => rw [hr] at h; cases h
          | some l =>
            rw [hs _ _ _ hr]
            rw [hr] at h
            exact h
        · rename_i hreg
          rw [if_neg hreg]
          cases hr : rc (.dops ops ops.toList) s.bump with
          | none => rw [hr] at h; cases h
          | some l =>
            rw [hs _ _ _ hr]
            rw [hr] at h
            cases l with
            | nil => cases h
            | cons o l =>
              cases l with
              | cons o' l => cases h
              | nil =>
                simp only at h ⊢
                split at h
                · rename_i hc; rw [if_pos hc]; exact h
                · rename_i hc; rw [if_neg hc]; exact nextX_mono (fun z outs hz => hs _ _ _ hz) h
      · cases h
    · rename_i hd; rw [if_neg hd]; exact hs _ _ _ h
  | rangeFunc g ps asg body => exact rangeS_mono hs h
  | _ => exact h
theorem loopS_mono (hs : Sub rc rc') {c : Code} {s : CSt} {outs : List Out} (h : loopS rc c s = some outs) : loopS rc' c s = some outs := by
  unfold loopS at h ⊢
  refine thenS_mono (fun l hl => hs _ _ _ hl) (fun o outs ho => ?_) h
  revert ho
  cases o.x <;> intro ho <;> first | exact hs _ _ _ ho | exact ho
theorem scopeS_mono (hs : Sub rc rc') {b c : Code} {s : CSt} {outs : List Out} (h : scopeS rc b c s = some outs) : scopeS rc' b c s = some outs := by
  unfold scopeS at h ⊢
  refine thenS_mono (fun l hl => hs _ _ _ hl) (fun o outs ho => ?_) h
  revert ho
  cases o.x with
  | goto l =>
    intro ho
    simp only at ho ⊢
    split at ho
    · exact hs _ _ _ ho
    · exact ho
  | _ => exact fun ho => ho
theorem opsS_mono {xs : List Nat} (hs : Sub rc rc') {ops : Array Oper} {l : List Oper} {s : CSt} {outs : List Out} (h : opsS P xs rc ops l s = some outs) : opsS P xs rc' ops l s = some outs := by
  cases l with
  | nil => exact h
  | cons o l =>
    simp only [opsS] at h ⊢
    cases hd : dstOk s.st o with
    | false => rw [hd] at h; cases h
    | true =>
      rw [hd] at h
      simp only [cond_true] at h ⊢
      cases hw : wants ops s.st o with
      | false => rw [hw] at h; exact hs _ _ _ h
      | true =>
        rw [hw] at h
        simp only [cond_true] at h ⊢
        split at h
        · cases hx : xs.contains ‹FuncId› with
          | true =>
            rw [hx] at h
            simp only [cond_true] at h ⊢
            split at h
            · exact hs _ _ _ h
            · cases h
          | false =>
            rw [hx] at h
            simp only [cond_false] at h ⊢
            cases hy : xs.contains (XB + ‹FuncId›) with
            | true =>
              rw [hy] at h
              simp only [cond_true] at h ⊢
              split at h
              · exact hs _ _ _ h
              · cases h
            | false =>
              rw [hy] at h
              simp only [cond_false] at h ⊢
              exact thenS_mono (fun l hl => hs _ _ _ hl) (fun o outs ho => hs _ _ _ ho) h
        · split at h
          · split at h
            · exact bindS_mono (fun a outs ha => hs _ _ _ ha) _ _ h
            · cases h
          · split at h
            · exact hs _ _ _ h
            · cases h
theorem dopsS_mono (hs : Sub rc rc') {ops : Array Oper} {l : List Oper} {s : CSt} {outs : List Out} (h : dopsS P rc ops l s = some outs) : dopsS P rc' ops l s = some outs := by
  have go : ∀ (l : List Oper) (s' : CSt) (k : Out → Option (List Out)) (outs : List Out), (match rc (.dops ops l) s' with | some [q] => k q | _ => none) = some outs → (match rc' (.dops ops l) s' with | some [q] => k q | _ => none) = some outs := by
    intro l s' k outs h
    cases hr : rc (.dops ops l) s' with
    | none => rw [hr] at h; cases h
    | some x => rw [hs _ _ _ hr]; rw [hr] at h; exact h
  cases l with
  | nil => exact h
  | cons o l =>
    simp only [dopsS] at h ⊢
    split at h
    · rename_i hd
      rw [if_pos hd]
      split at h
      · rename_i hw
        rw [if_pos hw]
        split at h
        · rename_i f args _
          cases hr : rc (.call f args) s with
          | none => rw [hr] at h; cases h
          | some x =>
            rw [hs _ _ _ hr]
            rw [hr] at h
            cases x with
            | nil => cases h
            | cons r x =>
              cases x with
              | nil => exact go _ _ _ _ h
              | cons r' x => cases h
        · split at h
          · exact go _ _ _ _ h
          · cases h
      · rename_i hw
        rw [if_neg hw]
        exact go _ _ _ _ h
    · cases h
theorem xbrS_mono (hs : Sub rc rc') {ops : Array Oper} {es : List Nat} {r : List (Option XRec)} {s : CSt} {outs : List Out} (h : xbrS P rc ops es r s = some outs) : xbrS P rc' ops es r s = some outs := by
  unfold xbrS at h ⊢
  simp only at h ⊢
  split at h
  · rename_i hst
    rw [if_pos hst]
    split at h
    · exact h
    · refine bindS_mono (fun e outs he => ?_) _ _ h
      split at he
      · split at he
        · rename_i hd
          rw [if_pos hd]
          split at he
          · rename_i hw
            rw [if_pos hw]
            split at he
            · exact thenS_mono (fun l hl => hs _ _ _ hl) (fun o outs ho => nextX_mono (fun z outs hz => hs _ _ _ hz) ho) he
            · split at he
              · exact nextX_mono (fun z outs hz => hs _ _ _ hz) he
              · cases he
          · rename_i hw
            rw [if_neg hw]
            exact nextX_mono (fun z outs hz => hs _ _ _ hz) he
        · cases he
      · cases he
  · cases h
theorem callS_mono {ov : Nat → FuncId → List Value → Option Value} (hs : Sub rc rc') {f : FuncId} {args : List Value} {s : CSt} {outs : List Out} (h : callS P ov rc f args s = some outs) : callS P ov rc' f args s = some outs := by
  unfold callS at h ⊢
  split at h
  · exact h
  · rw [Bool.cond_eq_ite] at h ⊢
    split at h
    · rename_i hb; rw [if_pos hb]; exact roundS_mono hs h
    rename_i hb
    rw [if_neg hb]
    split at h
    · split at h
      · rename_i c _
        cases hr : rc (.code c) ⟨argTree args 0 .leaf, args.length + (‹Func›.ntmps - args.length), s.ht, s.nx, s.asm⟩ with
        | none => simp only [hr] at h; cases h
        | some x => simp only [hs _ _ _ hr]; simp only [hr] at h; exact h
      · cases h
    · cases h
end
theorem execS_fuel (P : Program) (xs : List Nat) (ov : Nat → FuncId → List Value → Option Value) : ∀ n, Sub (execS P xs ov n) (execS P xs ov (n + 1)) := by
  intro n
  induction n with
  | zero => intro j s outs h; simp [execS] at h
  | succ n ih =>
    intro j s outs h
    cases j <;> simp only [execS] at h ⊢
    · exact codeS_mono ih h
    · exact loopS_mono ih h
    · exact scopeS_mono ih h
    · exact opsS_mono ih h
    · exact dopsS_mono ih h
    · exact callS_mono ih h
    · exact xbrS_mono ih h
theorem allIdx_of {α : Type} {f : Nat → α → Bool} : ∀ (l : List α) (k : Nat), (∀ i x, l[i]? = some x → f (k + i) x = true) → allIdx f k l = true := by
  intro l
  induction l with
  | nil => intro k _; rfl
  | cons y l ih =>
    intro k h
    simp only [allIdx, Bool.and_eq_true]
    refine ⟨h 0 y rfl, ih (k + 1) fun i x hx => ?_⟩
    have := h (i + 1) x (by simpa using hx)
    rwa [show k + (i + 1) = k + 1 + i by omega] at this
theorem statOk_of_reg {kk : Oper → Nat} {ops : Array Oper} (h : RegP kk ops) : statOk ops = true := by
  have hr := h
  have toA : ∀ (i : Nat) (o : Oper), ops.toList[i]? = some o → ops[i]? = some o := fun i o ho => by simpa using ho
  obtain ⟨e1, e2⟩ := hr.stat
  unfold statOk
  simp only [Bool.and_eq_true]
  refine ⟨⟨allIdx_of _ _ fun i o ho => ?_, allIdx_of _ _ fun i oi hi => allIdx_of _ _ fun j oj hj => ?_⟩, allIdx_of _ _ fun i oi hi => allIdx_of _ _ fun j oj hj => ?_⟩
  · rw [Nat.zero_add, List.all_eq_true]
    intro e he
    cases hb : Region.binds .any e with
    | false => rfl
    | true =>
      have := e1 i o (toA i o ho) e.on ⟨e, by simpa using he, hb, rfl⟩
      simpa using this
  · simp only [Nat.zero_add]
    by_cases hij : i = j
    · simp [hij]
    · rw [Bool.or_eq_true]
      right
      cases hdi : oi.dst with
      | none => rfl
      | some d =>
        cases hdj : oj.dst with
        | none => rfl
        | some d' =>
          simp only [bne_iff_ne, ne_eq]
          intro q
          subst q
          exact hij (e2 i j oi oj d (toA i oi hi) (toA j oj hj) hdi hdj)
  · simp only [Nat.zero_add]
    by_cases hij : i = j
    · simp [hij]
    · rw [Bool.or_eq_true]
      right
      cases hdj : oj.dst with
      | none => rfl
      | some t =>
        simp only
        split
        · rename_i hc
          have hc' : t ∈ opTs oi ∨ gdst ops oi = some t := by
            rw [Bool.or_eq_true, beq_iff_eq, List.contains_iff_mem] at hc
            exact hc
          have := ((hr.pair i j oi oj (toA i oi hi) (toA j oj hj) hij).1 t hdj).2 hc'
          by_cases c : j < i
          · rw [if_pos c] at this ⊢; exact this
          · rw [if_neg c] at this ⊢; exact this
        · rfl
theorem putT_eq (s : CSt) (dst : Option Tmp) (v : Value) (ht : Tree AObj) (nx : Nat) (asm : Asm) : (⟨putT s.tt dst v, s.n, ht, nx, asm⟩ : CSt) = s.put dst v ht nx asm := by
  cases s
  cases dst <;> rfl
theorem only1_spec {r : Option (List Out)} {k : Out → Option (List Out)} {outs : List Out} (h : only1 r k = some outs) : ∃ o, r = some [o] ∧ k o = some outs := by
  cases r with
  | none => cases h
  | some l =>
    cases l with
    | nil => cases h
    | cons o l =>
      cases l with
      | nil => exact ⟨o, rfl, h⟩
      | cons o' l => cases h
theorem resF_eq (P : Program) (rs : Array ResultVar) (o : Out) : resF P rs o = resS P rs o := by
  obtain ⟨x, v, s, tr⟩ := o
  obtain ⟨tt, n, ht, nx, asm⟩ := s
  show AExit.rec (motive := fun _ => Option Value → CSt → Option Out) (fun r s => Option.rec (motive := fun _ => Option Out) none (fun v => some ⟨.ret, v, s, []⟩) r) (fun _ _ _ => none) (fun _ _ _ => none)
      (fun r s => Option.rec (motive := fun _ => Option Out) none (fun v => some ⟨.ret, v, s, []⟩) r) x (resAll P tt ht rs.toList) ⟨tt, n, ht, nx, asm⟩ = _
  have := resAll_eq P ⟨tt, n, ht, nx, asm⟩ rs
  simp only at this
  rw [this]
  cases x <;> simp only [resS] <;> first | rfl | (cases aResults P (⟨tt, n, ht, nx, asm⟩ : CSt).st rs <;> rfl)
theorem endF_eq (P : Program) (rs : Array ResultVar) (s : CSt) (l : List Out) :
    endF P rs s l = match resL P rs l with | some [o] => some [o] | some l => (match mergeS s l with | some m => some m | none => some l) | none => none := by
  cases l with
  | nil => rfl
  | cons o l =>
    cases l with
    | nil =>
      show Option.rec (motive := fun _ => Option (List Out)) none (fun o' => some [o']) (resF P rs o) = _
      rw [resF_eq]
      simp only [resL]
      cases resS P rs o <;> rfl
    | cons o' l =>
      show (match resL P rs (o :: o' :: l) with | some l => (match mergeS s l with | some m => some m | none => some l) | none => none) = _
      simp only [resL]
      cases resS P rs o with
      | none => rfl
      | some a =>
        cases resS P rs o' with
        | none => rfl
        | some b =>
          cases resL P rs l <;> rfl
def JobE (P : Program) (xs : List Nat) (ov : Nat → FuncId → List Value → Option Value) (n : Nat) (job : FJob) (s : CSt) (outs : List Out) : Prop :=
  match job with
  | .code c => execS P xs ov n (.code c) s = some outs
  | .loop c => execS P xs ov n (.loop c) s = some outs
  | .scope b c => execS P xs ov n (.scope b c) s = some outs
  | .ops 0 ops l => execS P xs ov n (.ops ops l) s = some outs
  | .ops 1 ops l => ∃ s' tr, outs = [⟨.normal, undef, s', []⟩] ∧ execS P xs ov n (.dops ops l) s = some [⟨.normal, undef, s', tr⟩]
  | .ops (_ + 2) ops l => ∃ s' tr, outs = [⟨.normal, undef, s', tr⟩] ∧ execS P xs ov n (.dops ops l) s = some [⟨.normal, undef, s', tr⟩]
  | .call f args => execS P xs ov n (.call f args) s = some outs
  | .old j => execS P xs ov n j s = some outs
abbrev runF (rc : RecF) (j : FJob) (s : CSt) : Option (List Out) := rc j s.tt s.n s.ht s.nx s.asm
theorem ev_R (st : ASt) (o : Oper) : ∀ x ∈ o.op.operands.toList, evR (opTs o) st.tm x = st.ev x := by
  intro x hx
  cases x with
  | tmp t =>
    have : t ∈ opTs o := by
      unfold opTs
      rw [List.mem_filterMap]
      exact ⟨_, hx, rfl⟩
    simp only [evR, ASt.ev]
    rw [if_pos (List.contains_iff_mem.2 this)]
  | _ => rfl
theorem evParts_congrF {ev ev' : Operand → Option Value} : ∀ (l : List (Nat × Operand)), (∀ x ∈ l, ev x.2 = ev' x.2) → evParts ev l = evParts ev' l := by
  intro l
  induction l with
  | nil => intro _; rfl
  | cons x l ih =>
    obtain ⟨i, x⟩ := x
    intro h
    simp only [evParts]
    rw [h _ (List.mem_cons_self ..), ih (fun y hy => h y (List.mem_cons_of_mem _ hy))]
theorem evAll_congrF {ev ev' : Operand → Option Value} : ∀ (l : List Operand), (∀ x ∈ l, ev x = ev' x) → evAll ev l = evAll ev' l := by
  intro l
  induction l with
  | nil => intro _; rfl
  | cons x l ih =>
    intro h
    simp only [evAll]
    rw [h _ (List.mem_cons_self ..), ih (fun y hy => h y (List.mem_cons_of_mem _ hy))]
theorem evOpt_congrF {ev ev' : Operand → Option Value} (x : Option Operand) (h : ∀ y, x = some y → ev y = ev' y) : evOpt ev x = evOpt ev' x := by
  cases x with
  | none => rfl
  | some y => simp only [evOpt]; rw [h y rfl]
theorem aop_congrF {P : Program} {H : Heap} {nx : Nat} {ev ev' : Operand → Option Value} {o : Oper} (h : ∀ x ∈ o.op.operands.toList, ev x = ev' x) : aop P H nx ev o = aop P H nx ev' o := by
  unfold aop
  cases ho : o.op <;> simp only [ho, Op.operands, Call.operands] at h ⊢
  case build t parts => rw [evParts_congrF parts.toList fun x hx => h _ (by simp only [List.mem_map]; exact ⟨x, hx, rfl⟩)]
  case buildSlice t len parts => rw [evParts_congrF parts.toList fun x hx => h _ (by simp only [List.mem_map]; exact ⟨x, hx, rfl⟩)]
  case makeFunc fn first captured =>
    rw [evAll_congrF first.toList fun x hx => h _ (by simp; left; simpa using hx), evAll_congrF captured.toList fun x hx => h _ (by simp; right; simpa using hx)]
  case makeMap t r => rw [evOpt_congrF r fun y hy => h _ (by subst hy; simp)]
  case slice t x lo hi mx =>
    rw [h x (by simp), evOpt_congrF lo fun y hy => h _ (by subst hy; simp), evOpt_congrF hi fun y hy => h _ (by subst hy; simp), evOpt_congrF mx fun y hy => h _ (by subst hy; simp)]
  case call c =>
    split
    · rw [evAll_congrF c.args.toList fun x hx => h _ (by simp; right; simpa using hx)]
    · rfl
  case pick c a b => rw [h c (by simp), h a (by simp), h b (by simp)]
  case store t a x => rw [h a (by simp), h x (by simp)]
  case insert t m k x => rw [h m (by simp), h k (by simp), h x (by simp)]
  case mapUpdate t m k x => rw [h m (by simp), h k (by simp), h x (by simp)]
  case entryStore t m k x => rw [h m (by simp), h k (by simp), h x (by simp)]
  case binOp op t x y yt => rw [h x (by simp), h y (by simp)]
  case makeSlice t a b => rw [h a (by simp), h b (by simp)]
  case indexAddr t a b => rw [h a (by simp), h b (by simp)]
  case index t a b => rw [h a (by simp), h b (by simp)]
  case lookup t a b ok => rw [h a (by simp), h b (by simp)]
  case mapEntry t a b => rw [h a (by simp), h b (by simp)]
  all_goals first
    | rfl
    | (rename_i x; rw [h x (by simp)]; done)
    | (rename_i x _; rw [h x (by simp)]; done)
    | (rename_i _ x; rw [h x (by simp)]; done)
theorem callee_R (s : CSt) (o : Oper) : calleeG (evR (opTs o) s.tm) o = calleeG s.st.ev o := by
  have h := ev_R s.st o
  obtain ⟨dst, op, ty, pos, after, guard⟩ := o
  cases op with
  | call c =>
    obtain ⟨cal, args, ts⟩ := c
    cases cal with
    | value x =>
      simp only [Op.operands, Call.operands] at h
      have e1 := h x (by simp)
      have e2 := evAll_congrF args.toList fun y hy => h y (by simp; right; simpa using hy)
      simp only [calleeG]
      have hs : s.st.tm = s.tm := rfl
      rw [hs] at e1 e2
      rw [e1, e2]
    | _ => rfl
  | _ => rfl
theorem finG_spec {fin : Value → Eff → Option (List Out)} {r : Option (Value × Eff)} {outs : List Out} (h : finG fin r = some outs) : ∃ v e, r = some (v, e) ∧ fin v e = some outs := by
  cases r with
  | none => cases h
  | some ve => exact ⟨ve.1, ve.2, rfl, h⟩
theorem withS_eq (rc : RecF) (j : FJob) (s : CSt) : withS rc j s = runF rc j s := by cases s; rfl
theorem onOut_eq (o : Out) (k : AExit → Value → Tree Value → Nat → Tree AObj → Nat → Asm → Option (List Out)) : onOut o k = k o.x o.v o.s.tt o.s.n o.s.ht o.s.nx o.s.asm := by
  obtain ⟨x, v, s, tr⟩ := o
  cases s
  rfl
theorem isNew_eq (e : Eff) : isNew e = !e.isNone := by cases e <;> rfl
theorem effK_eq (rc : RecF) (q : Nat) (ops : Array Oper) (l : List Oper) (dst : Option Tmp) (s : CSt) (v : Value) (e : Eff) :
    effK rc q ops l (putT s.tt dst v) s.n s.ht s.nx s.asm e = runF rc (.ops q ops l) (s.put dst v (e.tree s.nx s.ht) (e.nx s.nx) s.asm) := by
  rw [← putT_eq]
  cases e <;> rfl
theorem anyN_eq (f : Nat → Bool) (l : List Nat) : anyN f l = l.any f := by
  induction l with
  | nil => rfl
  | cons x l ih =>
    show Bool.rec (motive := fun _ => Bool) (anyN f l) true (f x) = _
    rw [ih, List.any_cons]
    cases f x <;> rfl
theorem allQ_eq (f : Nat × CSt → Bool) (l : List (Nat × CSt)) : allQ f l = l.all f := by
  induction l with
  | nil => rfl
  | cons x l ih =>
    show Bool.rec (motive := fun _ => Bool) false (allQ f l) (f x) = _
    rw [ih, List.all_cons]
    cases f x <;> rfl
theorem tellF_spec {P : Program} {o : Oper} {s : CSt} {ht : Tree AObj} {nx : Nat} {v : Value} (h : sameF (tellF P o.op s.tt ht nx) v = true) : sameAns (aop P ht.get nx (evR (opTs o) s.tm) o) v = true := by
  unfold tellF at h
  rw [opK_eq] at h
  unfold opGen at h
  have e5 : aop P ht.get nx (evR (opTs o) s.tm) o = aop P ht.get nx s.st.ev o := aop_congrF (ev_R s.st o)
  rw [e5]
  split at h
  · cases h
  · split at h
    · split at h <;> cases h
    · cases ha : aop P ht.get nx s.st.ev o with
      | none => rw [ha] at h; cases h
      | some ve =>
        obtain ⟨u, e⟩ := ve
        rw [ha] at h
        cases e with
        | none => exact h
        | _ => cases h
theorem readF1_spec {P : Program} {ops : Array Oper} {es : List Nat} {i : Nat} {o : Oper} {d : DTr} {q : Nat × CSt} (h : readF1 P ops es i o d.s.tt d.v q = true) : readG P ops es i o d q = true := by
  obtain ⟨p, sp⟩ := q
  obtain ⟨tt, n, ht, nx, asm⟩ := sp
  have h' : Bool.rec (motive := fun _ => Bool) (Bool.rec (motive := fun _ => Bool) (Bool.rec (motive := fun _ => Bool) (anyN (fun e => Bool.rec (motive := fun _ => Bool) false (waitsB ops 6 e i) (Nat.ble (Nat.succ e) p)) es) true (sameF (tellF P o.op d.s.tt ht nx) d.v)) true (anyN (fun e => Bool.rec (motive := fun _ => Bool) false (depAt ops e i) (Nat.ble (Nat.succ e) p)) es))
      true (anyN (fun j => Bool.rec (motive := fun _ => Bool) false (depB o j) (Nat.ble p j)) es) = true := h
  rw [anyN_eq, anyN_eq, anyN_eq] at h'
  unfold readG
  simp only
  have e1 : (fun j => Bool.rec (motive := fun _ => Bool) false (depB o j) (Nat.ble p j)) = fun j => depB o j && decide (p ≤ j) := by
    funext j
    have : Nat.ble p j = decide (p ≤ j) := by rw [Bool.eq_iff_iff, decide_eq_true_eq]; exact iff_of_eq Nat.ble_eq
    rw [this]
    by_cases c : p ≤ j
    · rw [decide_eq_true c]; simp
    · rw [decide_eq_false c]; simp
  have e2 : (fun e => Bool.rec (motive := fun _ => Bool) false (depAt ops e i) (Nat.ble (Nat.succ e) p)) = fun e => decide (e < p) && (match ops[e]? with | some oe => depB oe i | none => false) := by
    funext e
    have : Nat.ble (Nat.succ e) p = decide (e < p) := by rw [Bool.eq_iff_iff, decide_eq_true_eq]; exact iff_of_eq Nat.ble_eq
    rw [this]
    by_cases c : e < p
    · rw [decide_eq_true c]; rfl
    · rw [decide_eq_false c]; rfl
  have e3 : (fun e => Bool.rec (motive := fun _ => Bool) false (waitsB ops 6 e i) (Nat.ble (Nat.succ e) p)) = fun e => decide (e < p) && waitsB ops 6 e i := by
    funext e
    have : Nat.ble (Nat.succ e) p = decide (e < p) := by rw [Bool.eq_iff_iff, decide_eq_true_eq]; exact iff_of_eq Nat.ble_eq
    rw [this]
    by_cases c : e < p
    · rw [decide_eq_true c]; rfl
    · rw [decide_eq_false c]; rfl
  rw [e1, e2, e3] at h'
  rw [Bool.or_eq_true, Bool.or_eq_true, Bool.or_eq_true]
  cases ha : (es.any fun j => depB o j && decide (p ≤ j)) with
  | true => exact .inl (.inl (.inl rfl))
  | false =>
    rw [ha] at h'
    cases hb : (es.any fun e => decide (e < p) && (match ops[e]? with | some oe => depB oe i | none => false)) with
    | true => exact .inl (.inl (.inr rfl))
    | false =>
      rw [hb] at h'
      cases hc : sameF (tellF P o.op d.s.tt ht nx) d.v with
      | true => exact .inl (.inr (tellF_spec hc))
      | false =>
        rw [hc] at h'
        exact .inr h'
theorem readsFo_spec {P : Program} {ops : Array Oper} {pts : List (Nat × CSt)} {es ss : List Nat} : ∀ (l : List Oper) (tr : List DTr) (i : Nat), readsFo l P ops pts es ss tr i = true → readsGo P ops pts es ss l tr i = true := by
  intro l
  induction l with
  | nil =>
    intro tr i h
    cases tr with
    | nil => rfl
    | cons d tr => cases h
  | cons o l ih =>
    intro tr i h
    cases tr with
    | nil => cases h
    | cons d tr =>
      obtain ⟨s, v, e⟩ := d
      have hw : wantF ops s.tt o.guard = wantsT ops s.tm o := by rw [wantF_eq]; exact (wantsT_wants s.st o).symm
      have h' : Bool.rec (motive := fun _ => Bool)
        (Bool.rec (motive := fun _ => Bool)
          (Bool.rec (motive := fun _ => Bool) (readsFo l P ops pts es ss tr (i + 1))
              (Bool.rec (motive := fun _ => Bool) false (Bool.rec (motive := fun _ => Bool) false (readsFo l P ops pts es ss tr (i + 1)) (heldF ops o i ss)) (allQ (readF1 P ops es i o s.tt v) pts)) (wantF ops s.tt o.guard))
          (readsFo l P ops pts es ss tr (i + 1)) (Nat.beq (kindOp o.op) 0))
        (readsFo l P ops pts es ss tr (i + 1)) e = true := h
      simp only [readsGo]
      cases e with
      | true => exact Bool.and_eq_true _ _ ▸ ⟨by simp, ih _ _ h'⟩
      | false =>
        simp only at h'
        rw [hw] at h'
        simp only [Bool.false_or, Bool.and_eq_true, Bool.or_eq_true, Bool.not_eq_true']
        cases hk : Nat.beq (kindOp o.op) 0 with
        | true => rw [hk] at h'; exact ⟨.inl (.inl rfl), ih _ _ h'⟩
        | false =>
          rw [hk] at h'
          simp only at h'
          cases hwt : wantsT ops s.tm o with
          | false => rw [hwt] at h'; exact ⟨.inl (.inr rfl), ih _ _ h'⟩
          | true =>
            rw [hwt, allQ_eq] at h'
            simp only at h'
            cases ha : pts.all (readF1 P ops es i o s.tt v) with
            | false => rw [ha] at h'; cases h'
            | true =>
              rw [ha] at h'
              simp only at h'
              cases hh : heldF ops o i ss with
              | false => rw [hh] at h'; cases h'
              | true =>
                rw [hh] at h'
                refine ⟨.inr ⟨List.all_eq_true.2 fun q hq => ?_, hh⟩, ih _ _ h'⟩
                exact readF1_spec (d := ⟨s, v, false⟩) (List.all_eq_true.1 ha q hq)
theorem dynF_spec {P : Program} {ops : Array Oper} {tr : List DTr} {s' : CSt} (h : dynF P ops tr s' = true) : dynG P ops tr s' = true := by
  unfold dynF at h
  unfold dynG
  cases hr : actsGo ops ops.toList tr 0 none [] [] [] [] with
  | none => rw [hr] at h; cases h
  | some r =>
    rw [hr] at h
    exact readsFo_spec _ _ _ h
theorem mayTr_spec {P : Program} {xs : List Nat} {ov : Nat → FuncId → List Value → Option Value} {n q : Nat} {ops : Array Oper} {l : List Oper} {r : RO} {d : DTr} {s1 : CSt} {outs : List Out} (h : mayTr (q + 1) r d = some outs)
    (hr : ∀ outs, r = some outs → JobE P xs ov n (.ops (q + 1) ops l) s1 outs) :
    ∃ s' tr, outs = [⟨.normal, undef, s', if q = 0 then [] else d :: tr⟩] ∧ execS P xs ov n (.dops ops l) s1 = some [⟨.normal, undef, s', tr⟩] := by
  cases q with
  | zero =>
    obtain ⟨s', tr, e1, e2⟩ := hr outs h
    exact ⟨s', tr, e1, e2⟩
  | succ q =>
    have h' : only1 r (addTr d) = some outs := h
    obtain ⟨o, ho, ha⟩ := only1_spec h'
    obtain ⟨s', tr, e1, e2⟩ := hr [o] ho
    cases e1
    cases ha
    exact ⟨s', tr, rfl, e2⟩
theorem execF_spec (P : Program) (xs : List Nat) (ov : Nat → FuncId → List Value → Option Value) : ∀ (n : Nat) (job : FJob) (s : CSt) (outs : List Out), runF (execF P xs ov n) job s = some outs → JobE P xs ov n job s outs := by
  intro n
  induction n with
  | zero => intro job s outs h; cases h
  | succ n ih =>
    intro job s outs h
    have hO : Sub (oldR (execF P xs ov n)) (execS P xs ov n) := fun j s outs h => by
      have h' : withS (execF P xs ov n) (.old j) s = some outs := h
      rw [withS_eq] at h'
      exact ih (.old j) s outs h'
    have h0 : jobF job P xs ov (execF P xs ov n) s.tt s.n s.ht s.nx s.asm = some outs := h
    clear h
    cases job with
    | code c =>
      have h : codeF c P (flagOf ov) (execF P xs ov n) s.tt s.n s.ht s.nx s.asm = some outs := h0
      clear h0
      show execS P xs ov (n + 1) (.code c) s = some outs
      cases c with
      | skip => exact h
      | label l => exact h
      | exit id => exact h
      | goto l => exact h
      | ret => exact h
      | rangeFunc g ps a b =>
        simp only [execS, codeS]
        exact rangeS_mono hO h
      | refuse w => cases h
      | seq a b =>
        have h1 : then1 (runF (execF P xs ov n) (.code a) s) (goOn (execF P xs ov n) (.code b)) = some outs := h
        rw [then1_eq] at h1
        refine thenS_mono (fun l hl => ih (.code a) s l hl) (fun o outs ho => ?_) h1
        obtain ⟨x, v, s', tr⟩ := o
        cases x with
        | normal =>
          have ho' : withS (execF P xs ov n) (.code b) s' = some outs := ho
          rw [withS_eq] at ho'
          exact ih (.code b) s' outs ho'
        | _ => exact ho
      | cond c a b =>
        have h1 : Option.rec (motive := fun _ => Option (List Out)) none (fun v => Option.rec (motive := fun _ => Option (List Out)) none (fun q => Bool.rec (motive := fun _ => Option (List Out)) (runF (execF P xs ov n) (.code b) s) (runF (execF P xs ov n) (.code a) s) q) (asBool v)) (evF s.tt c) = some outs := h
        rw [evF_eq] at h1
        simp only [execS, codeS]
        cases hc : s.st.ev c with
        | none => rw [hc] at h1; cases h1
        | some v =>
          rw [hc] at h1
          cases v with
          | bool q =>
            cases q with
            | true => exact ih (.code a) s outs h1
            | false => exact ih (.code b) s outs h1
          | _ => cases h1
      | block id c =>
        have h1 : then1 (runF (execF P xs ov n) (.code c) s) (outOf id) = some outs := h
        rw [then1_eq] at h1
        refine thenS_mono (fun l hl => ih (.code c) s l hl) (fun o outs ho => ?_) h1
        obtain ⟨x, v, s', tr⟩ := o
        cases x with
        | exit id' =>
          have ho' : Bool.rec (motive := fun _ => Option (List Out)) (some [⟨.exit id', v, s', tr⟩]) (some [⟨.normal, v, s', tr⟩]) (Nat.beq id' id) = some outs := ho
          rw [beq_dec] at ho'
          simp only
          by_cases hid : id' = id
          · rw [decide_eq_true hid] at ho'; rw [if_pos hid]; exact ho'
          · rw [decide_eq_false hid] at ho'; rw [if_neg hid]; exact ho'
        | _ => exact ho
      | loop c => exact ih (.loop c) s outs h
      | scope c => exact ih (.scope c c) s outs h
      | region id ops draw =>
        cases draw with
        | false => exact ih (.ops 0 ops ops.toList) s outs h
        | true =>
          have h1 : (Bool.rec (motive := fun _ => Nat → Array Oper → KCode) regD regX (flagOf ov id)) id ops P (flagOf ov) (execF P xs ov n) s.tt s.n s.ht s.nx s.asm = some outs := h
          have hX : ∀ {o : RO}, o = some outs → o = regX id ops P (flagOf ov) (execF P xs ov n) s.tt s.n s.ht s.nx s.asm → execS P xs ov (n + 1) (.code (.region id ops true)) s = some outs := fun e1 e2 => by
            have h3 : codeS P (flagOf ov) (oldR (execF P xs ov n)) (.region id ops true) s = some outs := by rw [← e1, e2]; rfl
            exact codeS_mono hO h3
          cases hfl : flagOf ov id with
          | true => rw [hfl] at h1; exact hX h1 rfl
          | false =>
          rw [hfl] at h1
          have h1 : (Bool.rec (motive := fun _ => Nat → Array Oper → KCode)
            (fun id ops => Bool.rec (motive := fun _ => Nat → Array Oper → KCode) regX regT (statF ops) id ops)
            (fun _ ops _ _ rc tt n ht nx asm => only1 (rc (.ops 1 ops ops.toList) tt n ht nx asm) endR) (regOk ops)) id ops P (flagOf ov) (execF P xs ov n) s.tt s.n s.ht s.nx s.asm = some outs := h1
          cases hreg : regOk ops with
          | false =>
            rw [hreg] at h1
            have h2 : (Bool.rec (motive := fun _ => Nat → Array Oper → KCode) regX regT (statF ops)) id ops P (flagOf ov) (execF P xs ov n) s.tt s.n s.ht s.nx s.asm = some outs := h1
            cases hst : statF ops with
            | false => rw [hst] at h2; exact hX h2 rfl
            | true =>
              rw [hst] at h2
              have h3 : only1 (runF (execF P xs ov n) (.ops 2 ops ops.toList) s.bump) (fun o =>
                Out.rec (motive := fun _ => RO) (fun _ _ s' tr => Bool.rec (motive := fun _ => RO) (regX id ops P (flagOf ov) (execF P xs ov n) s.tt s.n s.ht s.nx s.asm) (some [⟨.normal, undef, s', []⟩]) (dynF P ops tr s')) o) = some outs := h2
              obtain ⟨o, ho, he⟩ := only1_spec h3
              obtain ⟨s', tr, e1, e2⟩ := ih (.ops 2 ops ops.toList) s.bump _ ho
              cases e1
              have he' : Bool.rec (motive := fun _ => RO) (regX id ops P (flagOf ov) (execF P xs ov n) s.tt s.n s.ht s.nx s.asm) (some [⟨.normal, undef, s', []⟩]) (dynF P ops tr s') = some outs := he
              cases hdy : dynF P ops tr s' with
              | false => rw [hdy] at he'; exact hX he' rfl
              | true =>
                rw [hdy] at he'
                simp only [execS, codeS, if_true, hfl, Bool.false_eq_true, if_false, if_pos (statOk_of_reg (regG_spec hst)), hreg, e2, dynF_spec hdy]
                exact he'
          | true =>
            rw [hreg] at h1
            have h2 : only1 (runF (execF P xs ov n) (.ops 1 ops ops.toList) s) endR = some outs := h1
            obtain ⟨o, ho, he⟩ := only1_spec h2
            obtain ⟨s', tr, e1, e2⟩ := ih (.ops 1 ops ops.toList) s _ ho
            cases e1
            simp only [execS, codeS, if_true, hfl, Bool.false_eq_true, if_false, if_pos (statOk_of_reg (regG_spec hreg)), e2, hreg]
            exact he
    | loop c =>
      have h1 : then1 (runF (execF P xs ov n) (.code c) s) (goOn (execF P xs ov n) (.loop c)) = some outs := h0
      rw [then1_eq] at h1
      refine thenS_mono (fun l hl => ih (.code c) s l hl) (fun o outs ho => ?_) h1
      obtain ⟨x, v, s', tr⟩ := o
      cases x with
      | normal =>
        have ho' : withS (execF P xs ov n) (.loop c) s' = some outs := ho
        rw [withS_eq] at ho'
        exact ih (.loop c) s' outs ho'
      | _ => exact ho
    | scope b c => exact scopeS_mono hO h0
    | ops q ops l =>
      have jobTr : ∀ {q : Nat} {o : Oper} {l : List Oper} {d : DTr} {s' : CSt} {tr : List DTr} {outs : List Out}, outs = [⟨.normal, undef, s', if q = 0 then [] else d :: tr⟩] → dopsS P (execS P xs ov n) ops (o :: l) s = some [⟨.normal, undef, s', d :: tr⟩] →
          JobE P xs ov (n + 1) (.ops (q + 1) ops (o :: l)) s outs := by
        intro q o l d s' tr outs e1 e2
        cases q with
        | zero => exact ⟨s', d :: tr, e1, e2⟩
        | succ q => exact ⟨s', d :: tr, e1, e2⟩
      cases l with
      | nil =>
        have h1 : some [(⟨.normal, undef, s, []⟩ : Out)] = some outs := h0
        cases q with
        | zero => exact h0
        | succ q =>
          cases h1
          cases q with
          | zero => exact ⟨s, [], rfl, rfl⟩
          | succ q => exact ⟨s, [], rfl, rfl⟩
      | cons o l =>
        have h1 : onOper o.dst o.op o.guard l P xs (execF P xs ov n) q ops s.tt s.n s.ht s.nx s.asm = some outs := h0
        unfold onOper at h1
        rw [dstF_eq, wantF_eq] at h1
        have hrun : ∀ (v : Value) (ht : Tree AObj) (nx : Nat) (asm : Asm) (outs : List Out), execF P xs ov n (.ops q ops l) (putT s.tt o.dst v) s.n ht nx asm = some outs → JobE P xs ov n (.ops q ops l) (s.put o.dst v ht nx asm) outs := fun v ht nx asm outs hh => by
          rw [← putT_eq]
          exact ih (.ops q ops l) ⟨putT s.tt o.dst v, s.n, ht, nx, asm⟩ outs hh
        have heff : ∀ (v : Value) (e : Eff) (outs : List Out), effK (execF P xs ov n) q ops l (putT s.tt o.dst v) s.n s.ht s.nx s.asm e = some outs → JobE P xs ov n (.ops q ops l) (s.put o.dst v (e.tree s.nx s.ht) (e.nx s.nx) s.asm) outs := fun v e outs hh => by
          rw [effK_eq] at hh
          exact ih (.ops q ops l) _ outs hh
        cases hd : dstOk s.st o with
        | false => rw [hd] at h1; cases h1
        | true =>
          rw [hd] at h1
          simp only at h1
          cases hw : wants ops s.st o with
          | false =>
            rw [hw] at h1
            simp only at h1
            cases q with
            | zero =>
              show opsS P xs (execS P xs ov n) ops (o :: l) s = some outs
              simp only [opsS, hd, hw, cond_true, cond_false]
              exact hrun undef s.ht s.nx s.asm outs h1
            | succ q =>
              have hw' : wantsT ops s.tm o = false := by rw [← hw]; exact wantsT_wants s.st o
              obtain ⟨s', tr, e1, e2⟩ := mayTr_spec h1 (fun outs ho => hrun undef s.ht s.nx s.asm outs ho)
              refine jobTr e1 ?_
              simp only [dopsS, hd, hw', if_true, Bool.false_eq_true, if_false, e2]
          | true =>
            rw [hw] at h1
            simp only at h1
            rw [opK_eq] at h1
            unfold opGen at h1
            cases q with
            | zero =>
              show opsS P xs (execS P xs ov n) ops (o :: l) s = some outs
              simp only [opsS, hd, hw, cond_true]
              cases hc : calleeG s.st.ev o with
              | some fa =>
                obtain ⟨f, args⟩ := fa
                rw [hc] at h1
                simp only at h1 ⊢
                unfold callK at h1
                cases hx : xs.contains f with
                | true =>
                  rw [hx] at h1
                  simp only [cond_true] at h1 ⊢
                  split at h1
                  · exact hrun _ _ _ _ _ h1
                  · cases h1
                | false =>
                  rw [hx] at h1
                  simp only [cond_false] at h1 ⊢
                  cases hy : xs.contains (XB + f) with
                  | true =>
                    have hy' : xs.contains (Nat.add XB f) = true := hy
                    simp only [hy'] at h1
                    simp only [cond_true]
                    cases hv : idxV args with
                    | none => rw [hv] at h1; cases h1
                    | some x =>
                      rw [hv] at h1
                      exact hrun _ _ _ _ _ h1
                  | false =>
                  have hy' : xs.contains (Nat.add XB f) = false := hy
                  simp only [hy'] at h1
                  simp only [cond_false]
                  have h2 : then1 (runF (execF P xs ov n) (.call f args) s) (fun r => onOut r fun _ v _ _ ht' nx' asm' => execF P xs ov n (.ops 0 ops l) (putT s.tt o.dst v) s.n ht' nx' asm') = some outs := h1
                  rw [then1_eq] at h2
                  refine thenS_mono (fun l hl => ih (.call f args) s l hl) (fun r outs hr => ?_) h2
                  rw [onOut_eq] at hr
                  exact hrun _ _ _ _ _ hr
              | none =>
                rw [hc] at h1
                simp only at h1 ⊢
                cases hn : nextOf s.st o with
                | some it =>
                  rw [hn] at h1
                  simp only at h1 ⊢
                  cases ha : aNexts s.ht.get it with
                  | none => rw [ha] at h1; cases h1
                  | some rs =>
                    rw [ha] at h1
                    have h2 : bindS (fun r => effK (execF P xs ov n) 0 ops l (putT s.tt o.dst r.1) s.n s.ht s.nx s.asm r.2) rs = some outs := h1
                    exact bindS_mono (fun r outs hr => heff _ _ _ hr) _ _ h2
                | none =>
                  rw [hn] at h1
                  simp only at h1 ⊢
                  obtain ⟨v, e, e1, e2⟩ := finG_spec h1
                  simp only [e1]
                  exact heff _ _ _ e2
            | succ q =>
              have hw' : wantsT ops s.tm o = true := by rw [← hw]; exact wantsT_wants s.st o
              cases hc : calleeG s.st.ev o with
              | some fa =>
                obtain ⟨f, args⟩ := fa
                rw [hc] at h1
                simp only at h1
                unfold callK at h1
                cases hx : xs.contains f with
                | true => rw [hx] at h1; cases h1
                | false =>
                  rw [hx] at h1
                  have h2 : only1 (runF (execF P xs ov n) (.call f args) s) (fun r => onOut r fun _ v _ _ ht' nx' asm' => mayTr (q + 1) (execF P xs ov n (.ops (q + 1) ops l) (putT s.tt o.dst v) s.n ht' nx' asm') ⟨s, v, true⟩) = some outs := h1
                  obtain ⟨r, hr, h3⟩ := only1_spec h2
                  rw [onOut_eq] at h3
                  obtain ⟨s', tr, e1, e2⟩ := mayTr_spec h3 (fun outs ho => hrun _ _ _ _ outs ho)
                  have hr' : execS P xs ov n (.call f args) s = some [r] := ih (.call f args) s _ hr
                  refine jobTr e1 ?_
                  simp only [dopsS, hd, hw', if_true, callee_R, hc, hr', e2]
              | none =>
                rw [hc] at h1
                simp only at h1
                cases hn : nextOf s.st o with
                | some it =>
                  rw [hn] at h1
                  simp only at h1
                  split at h1 <;> cases h1
                | none =>
                  rw [hn] at h1
                  simp only at h1
                  obtain ⟨v, e, e1, e2⟩ := finG_spec h1
                  obtain ⟨s', tr, e3, e4⟩ := mayTr_spec e2 (fun outs ho => heff v e outs ho)
                  have e5 : aop P s.ht.get s.nx (evR (opTs o) s.tm) o = some (v, e) := by rw [← e1]; exact aop_congrF (ev_R s.st o)
                  refine jobTr e3 ?_
                  simp only [dopsS, hd, hw', if_true, callee_R, hc, e5, e4, isNew_eq]
    | call f args =>
      have h1 : callF f args P xs ov (execF P xs ov n) s.tt s.n s.ht s.nx s.asm = some outs := h0
      show callS P ov (execS P xs ov n) f args s = some outs
      unfold callF at h1
      unfold callS
      cases hv : ov s.asm.length f args with
      | some v => rw [hv] at h1; exact h1
      | none =>
        rw [hv] at h1
        simp only at h1 ⊢
        cases hy : Nat.ble YB f with
        | true =>
          rw [hy] at h1
          rw [cond_true]
          exact roundS_mono hO h1
        | false =>
        rw [hy] at h1
        rw [cond_false]
        unfold fnK at h1
        simp only at h1
        cases hf : P.funcs[f]? with
        | none => rw [hf] at h1; cases h1
        | some fn =>
          rw [hf] at h1
          simp only at h1 ⊢
          cases hb : fn.body with
          | none => rw [hb] at h1; cases h1
          | some c =>
            rw [hb] at h1
            have h2 : Option.rec (motive := fun _ => Option (List Out)) none (fun l => endF P fn.results s l) (execF P xs ov n (.code c) (argF args 0 .leaf) (Nat.add (lenV args) (Nat.sub fn.ntmps (lenV args))) s.ht s.nx s.asm) = some outs := h1
            rw [argF_eq, lenV_eq] at h2
            simp only
            cases hr : execF P xs ov n (.code c) (argTree args 0 .leaf) (Nat.add args.length (Nat.sub fn.ntmps args.length)) s.ht s.nx s.asm with
            | none => rw [hr] at h2; cases h2
            | some r =>
              have := ih (.code c) ⟨argTree args 0 .leaf, args.length + (fn.ntmps - args.length), s.ht, s.nx, s.asm⟩ r hr
              have this' : execS P xs ov n (.code c) ⟨argTree args 0 .leaf, args.length + (fn.ntmps - args.length), s.ht, s.nx, s.asm⟩ = some r := this
              rw [hr] at h2
              simp only [this']
              have h3 : endF P fn.results s r = some outs := h2
              rw [endF_eq] at h3
              exact h3
    | old j =>
      have hup : ∀ (j' : SJob), execS P xs ov n j' s = some outs → execS P xs ov (n + 1) j' s = some outs := fun j' hh => execS_fuel P xs ov n _ _ _ hh
      cases j with
      | code c => exact hup _ (ih (.code c) s outs h0)
      | loop c => exact hup _ (ih (.loop c) s outs h0)
      | scope b c => exact hup _ (ih (.scope b c) s outs h0)
      | ops ops l => exact hup _ (ih (.ops 0 ops l) s outs h0)
      | dops ops l =>
        obtain ⟨s', tr, e1, e2⟩ := ih (.ops 2 ops l) s outs h0
        subst e1
        exact hup _ e2
      | call f args => exact hup _ (ih (.call f args) s outs h0)
      | xbr ops es r => exact xbrS_mono hO h0
theorem chk_fast {P : Program} {T : Tables} {xs : List Nat} {ov : Nat → FuncId → List Value → Option Value} {n : Nat} {f : FuncId} {args : List Value} {r : Bool × Asm} (h : chkS (execF P xs ov n (.call f args) .leaf 0 (tabTree T) NG []) = some r) :
    chkS (execS P xs ov n (.call f args) ⟨.leaf, 0, tabTree T, NG, []⟩) = some r := by
  cases he : execF P xs ov n (.call f args) .leaf 0 (tabTree T) NG [] with
  | none => rw [he] at h; cases h
  | some outs =>
    have : execS P xs ov n (.call f args) ⟨.leaf, 0, tabTree T, NG, []⟩ = some outs := execF_spec P xs ov n (.call f args) ⟨.leaf, 0, tabTree T, NG, []⟩ outs he
    rw [this, ← he]
    exact h
section
variable {P : Program} {xs : List Nat} {ov : Nat → FuncId → List Value → Option Value} {W0 : World}
end
end
end Go.Am
namespace Go.Am
open Go.RowKit
section
variable {P : Program}
end
end Go.Am
namespace Go.Am
open Go.RowKit
section
variable {P : Program} {xs : List Nat} {ov : Nat → FuncId → List Value → Option Value} {W0 : World}
end
end Go.Am
namespace Go.Proofs.Ytooakbmehcchnaa
open Go.Am Go.RowKit
theorem names_ok : (Try.prog.funcs.toList.all fun fn => !(fn.name == "runtime.NumGoroutine")) = true := by kernel_rfl
def XS : List Nat := []
theorem fit : Fit Try.prog XS := ⟨fun f fn hf => by
    have := List.all_eq_true.1 names_ok fn (by simpa using Array.mem_of_getElem? hf)
    simpa using this,
  fun f _ hf => (by cases hf),
  fun f _ hf => (by cases hf),
  by kernel_rfl,
  Nat.le_of_ble_eq_true (by kernel_rfl),
  fun f hf => (by cases hf)⟩
def noOv : Nat → FuncId → List Value → Option Value := fun _ _ _ => none
noncomputable def T8 : Go.Am.Tables := []
theorem known_run : (chkS (execF Try.prog XS noOv 1000000 (.call 13 []) .leaf 0 (tabTree T8) NG [])) = some (true, []) := by kernel_rfl
theorem known_told (W0 : World) (hT : Tabs T8 W0) : AsTold Try.prog W0 (13, [], .bool true) :=
  fit.toldS rfl (chk_fast known_run) (fun _ _ _ hx => by cases hx) hT
end Go.Proofs.Ytooakbmehcchnaa
namespace Go.Am
open Go.RowKit
section
variable {P : Program} {W0 : World}
def OpsL (P : Program) (W0 : World) (ops : Array Oper) : List Oper → ASt → (ASt → Prop) → Prop
  | [], st, Q => Q st
  | o :: l, st, Q => dstOk st o = true ∧ ((wants ops st o = false ∧ OpsL P W0 ops l (st.put o.dst undef .none) Q) ∨ (wants ops st o = true ∧
      ((∃ v e, aop P st.H st.nx st.ev o = some (v, e) ∧ OpsL P W0 ops l (st.put o.dst v e) Q) ∨
       (∃ f args R, callee st o = some (f, args) ∧ Enters P f ∧ ACalls P W0 f args st.nx st.H R ∧ ∀ v nx' H', R v nx' H' → OpsL P W0 ops l ⟨tmPut st.tm o.dst v, st.n, H', nx'⟩ Q))))
theorem OpsL.ops {ops : Array Oper} {Q : ASt → Prop} : ∀ (l : List Oper) (k : Nat) (st : ASt), ops.toList.drop k = l → OpsL P W0 ops l st Q → Ops P W0 ops (List.range' k l.length) st Q := by
  intro l
  induction l with
  | nil => intro k st _ h; exact Ops.nil h
  | cons o l ih =>
    intro k st hk h
    have ho : ops[k]? = some o := by
      have : (ops.toList.drop k)[0]? = some o := by rw [hk]; rfl
      rw [List.getElem?_drop] at this
      simpa using this
    have hk' : ops.toList.drop (k + 1) = l := by
      rw [← List.drop_drop, hk]; rfl
    obtain ⟨hd, h⟩ := h
    rw [List.length_cons, List.range'_succ]
    rcases h with ⟨hw, h⟩ | ⟨hw, ⟨v, e, hop, h⟩ | ⟨f, args, R, hc, hf, hcall, h⟩⟩
    · exact Ops.skip ho hw hd (ih _ _ hk' h)
    · exact Ops.step ho hw hd hop (ih _ _ hk' h)
    · exact Ops.call ho hw hd hc hf hcall fun v nx' H' hr => ih _ _ hk' (h v nx' H' hr)
theorem Trip.ops {id : Nat} {ops : Array Oper} {st : ASt} {Q : AExit → ASt → Prop} (h : OpsL P W0 ops ops.toList st (Q .normal)) : Trip P W0 (.region id ops false) st Q := by
  refine Trip.region ?_
  have := OpsL.ops ops.toList 0 st rfl h
  rwa [Array.length_toList, ← List.range_eq_range'] at this
theorem OpsL.pure {ops : Array Oper} {o : Oper} {l : List Oper} {tm : Nat → Value} {n nx : Nat} {H : Heap} {v : Value} {Q : ASt → Prop} (hd : dstOk ⟨tm, n, H, nx⟩ o = true) (hw : wants ops ⟨tm, n, H, nx⟩ o = true)
    (hop : aop P H nx (ASt.ev ⟨tm, n, H, nx⟩) o = some (v, .none)) (h : OpsL P W0 ops l ⟨tmPut tm o.dst v, n, H, nx⟩ Q) : OpsL P W0 ops (o :: l) ⟨tm, n, H, nx⟩ Q :=
  ⟨hd, .inr ⟨hw, .inl ⟨v, .none, hop, h⟩⟩⟩
theorem OpsL.eff {ops : Array Oper} {o : Oper} {l : List Oper} {tm : Nat → Value} {n nx : Nat} {H : Heap} {v : Value} {e : Eff} {Q : ASt → Prop} (hd : dstOk ⟨tm, n, H, nx⟩ o = true) (hw : wants ops ⟨tm, n, H, nx⟩ o = true)
    (hop : aop P H nx (ASt.ev ⟨tm, n, H, nx⟩) o = some (v, e)) (h : OpsL P W0 ops l ⟨tmPut tm o.dst v, n, e.H nx H, e.nx nx⟩ Q) : OpsL P W0 ops (o :: l) ⟨tm, n, H, nx⟩ Q :=
  ⟨hd, .inr ⟨hw, .inl ⟨v, e, hop, h⟩⟩⟩
theorem OpsL.call {ops : Array Oper} {o : Oper} {l : List Oper} {tm : Nat → Value} {n nx : Nat} {H : Heap} {Q : ASt → Prop} {f : FuncId} {args : List Value} (R : Value → Nat → Heap → Prop) (hd : dstOk ⟨tm, n, H, nx⟩ o = true) (hw : wants ops ⟨tm, n, H, nx⟩ o = true)
    (hc : callee ⟨tm, n, H, nx⟩ o = some (f, args)) (hf : Enters P f) (hcall : ACalls P W0 f args nx H R) (h : ∀ v nx' H', R v nx' H' → OpsL P W0 ops l ⟨tmPut tm o.dst v, n, H', nx'⟩ Q) : OpsL P W0 ops (o :: l) ⟨tm, n, H, nx⟩ Q :=
  ⟨hd, .inr ⟨hw, .inr ⟨f, args, R, hc, hf, hcall, h⟩⟩⟩
variable {ev : Operand → Option Value} {H : Heap} {nx : Nat} {dst : Option Tmp} {type : TypeId} {pos : String} {after : Array Edge} {guard : Option (Nat × Bool)}
theorem aop_move {x : Operand} {v : Value} (h : ev x = some v) : aop P H nx ev ⟨dst, .move x, type, pos, after, guard⟩ = some (v, .none) := by simp [aop, h]
theorem aop_assign {x : Operand} {v : Value} (h : ev x = some v) : aop P H nx ev ⟨dst, .assign x, type, pos, after, guard⟩ = some (v, .none) := by simp [aop, h]
theorem aop_add {t u : TypeId} {x y : Operand} {a b : Int} (hx : ev x = some (.int .i64 a)) (hy : ev y = some (.int .i64 b)) (h : -9223372036854775808 ≤ a + b ∧ a + b ≤ 9223372036854775807) :
    aop P H nx ev ⟨dst, .binOp .add t x y u, type, pos, after, guard⟩ = some (.int .i64 (a + b), .none) := by simp [aop, hx, hy, aBin, intArith, IntWalk.i64_in _ h]
theorem aop_sub {t u : TypeId} {x y : Operand} {a b : Int} (hx : ev x = some (.int .i64 a)) (hy : ev y = some (.int .i64 b)) (h : -9223372036854775808 ≤ a - b ∧ a - b ≤ 9223372036854775807) :
    aop P H nx ev ⟨dst, .binOp .sub t x y u, type, pos, after, guard⟩ = some (.int .i64 (a - b), .none) := by simp [aop, hx, hy, aBin, intArith, IntWalk.i64_in _ h]
theorem aop_lss {t u : TypeId} {k : IntKind} {x y : Operand} {a b : Int} (hx : ev x = some (.int k a)) (hy : ev y = some (.int k b)) :
    aop P H nx ev ⟨dst, .binOp .lss t x y u, type, pos, after, guard⟩ = some (.bool (decide (a < b)), .none) := by simp [aop, hx, hy, aBin, intArith]
theorem aop_leq {t u : TypeId} {k : IntKind} {x y : Operand} {a b : Int} (hx : ev x = some (.int k a)) (hy : ev y = some (.int k b)) :
    aop P H nx ev ⟨dst, .binOp .leq t x y u, type, pos, after, guard⟩ = some (.bool (decide (a ≤ b)), .none) := by simp [aop, hx, hy, aBin, intArith]
theorem aop_gtr {t u : TypeId} {k : IntKind} {x y : Operand} {a b : Int} (hx : ev x = some (.int k a)) (hy : ev y = some (.int k b)) :
    aop P H nx ev ⟨dst, .binOp .gtr t x y u, type, pos, after, guard⟩ = some (.bool (decide (b < a)), .none) := by simp [aop, hx, hy, aBin, intArith]
theorem aop_geq {t u : TypeId} {k : IntKind} {x y : Operand} {a b : Int} (hx : ev x = some (.int k a)) (hy : ev y = some (.int k b)) :
    aop P H nx ev ⟨dst, .binOp .geq t x y u, type, pos, after, guard⟩ = some (.bool (decide (b ≤ a)), .none) := by simp [aop, hx, hy, aBin, intArith]
theorem aop_eql {t u : TypeId} {k : IntKind} {x y : Operand} {a b : Int} (hx : ev x = some (.int k a)) (hy : ev y = some (.int k b)) :
    aop P H nx ev ⟨dst, .binOp .eql t x y u, type, pos, after, guard⟩ = some (.bool (decide (a = b)), .none) := by
  have : (a == b) = decide (a = b) := by by_cases h : a = b <;> simp [h]
  simp [aop, hx, hy, aBin, intArith, this]
theorem aop_neq {t u : TypeId} {k : IntKind} {x y : Operand} {a b : Int} (hx : ev x = some (.int k a)) (hy : ev y = some (.int k b)) :
    aop P H nx ev ⟨dst, .binOp .neq t x y u, type, pos, after, guard⟩ = some (.bool (decide (a ≠ b)), .none) := by
  have : (a != b) = decide (a ≠ b) := by by_cases h : a = b <;> simp [h]
  simp [aop, hx, hy, aBin, intArith, this]
theorem aop_not {t : TypeId} {x : Operand} {b : Bool} (hx : ev x = some (.bool b)) : aop P H nx ev ⟨dst, .unOp .not t x, type, pos, after, guard⟩ = some (.bool (!b), .none) := by simp [aop, hx, aUn]
theorem aop_len {t e : TypeId} {x : Operand} {a : Option Addr} {n c : Nat} (hx : ev x = some (.slice a n c)) (hu : P.underlying t = some (.slice e)) :
    aop P H nx ev ⟨dst, .call ⟨.builtin .len, #[x], #[t]⟩, type, pos, after, guard⟩ = some (.int .i64 n, .none) := by simp [aop, hx, evAll, aBuiltin, aLen, hu]
theorem aop_indexAddr {t e : TypeId} {x i : Operand} {a : Addr} {n c sz : Nat} {k : IntKind} {j : Int} (hx : ev x = some (.slice (some a) n c)) (hi : ev i = some (.int k j)) (hu : P.underlying t = some (.slice e)) (hs : szOf P e = some sz) (h0 : 0 ≤ j) (h1 : j < n) :
    aop P H nx ev ⟨dst, .indexAddr t x i, type, pos, after, guard⟩ = some (.pointer (some ⟨a.block, a.off + j.toNat * sz, a.spot⟩), .none) := by simp [aop, hx, hi, aIndexAddr, hu, hs, h0, h1]
def cellAt (H : Heap) (a : Addr) (v : Value) : Prop := getc H a 1 = some [v]
theorem aop_load {t : TypeId} {x : Operand} {a : Addr} {d : TypeDesc} {v : Value} (hx : ev x = some (.pointer (some a))) (hu : P.underlying t = some d) (hd : isAggD d = false) (hc : cellAt H a v) :
    aop P H nx ev ⟨dst, .load t x, type, pos, after, guard⟩ = some (v, .none) := by
  unfold cellAt at hc
  simp [aop, hx, aLoad, readAt, hu, hd, hc]
def IntsAt (H : Heap) (v : Value) (xs : List Int) : Prop :=
  (∃ c, v = .slice none 0 c ∧ xs = []) ∨ ∃ a c, v = .slice (some a) xs.length c ∧ ∀ (i : Nat) (h : i < xs.length), cellAt H ⟨a.block, a.off + i, a.spot⟩ (.int .i64 xs[i])
theorem IntsAt.slice {v : Value} {xs : List Int} (h : IntsAt H v xs) : ∃ a c, v = .slice a xs.length c := by
  rcases h with ⟨c, rfl, rfl⟩ | ⟨a, c, rfl, _⟩
  · exact ⟨none, c, rfl⟩
  · exact ⟨some a, c, rfl⟩
theorem IntsAt.get {a : Option Addr} {c n : Nat} {xs : List Int} (h : IntsAt H (.slice a n c) xs) {i : Nat} (hi : i < xs.length) : ∃ p, a = some p ∧ cellAt H ⟨p.block, p.off + i, p.spot⟩ (.int .i64 xs[i]) := by
  rcases h with ⟨c, h, rfl⟩ | ⟨p, c, h, hv⟩
  · simp at hi
  · cases h
    exact ⟨p, rfl, hv i hi⟩
end
section
variable {P : Program} {W0 : World}
theorem ACalls.by_trip {f : FuncId} {fn : Func} {c : Code} {args : List Value} {nx : Nat} {H : Heap} {R : Value → Nat → Heap → Prop} (hf : P.funcs[f]? = some fn) (hb : fn.body = some c)
    (h : ∀ (tm : Nat → Value) (n : Nat), n = args.length + (fn.ntmps - args.length) → (∀ t, tm t = (args[t]?).getD undef) → Trip P W0 c ⟨tm, n, H, nx⟩ fun x s => (x = .normal ∨ x = .ret) ∧ ∃ v, aResults P s fn.results = some v ∧ R v s.nx s.H) : ACalls P W0 f args nx H R :=
  ACalls.of_trip hf hb (fun _ => rfl) (h _ _ rfl (fun _ => rfl))
theorem OpsL.nil {ops : Array Oper} {st : ASt} {Q : ASt → Prop} (h : Q st) : OpsL P W0 ops [] st Q := h
theorem Trip.ite {st : ASt} {Q : AExit → ASt → Prop} {c : Operand} {x y : Code} {p : Prop} [Decidable p] (hc : st.ev c = some (.bool (decide p))) (h1 : p → Trip P W0 x st Q) (h2 : ¬p → Trip P W0 y st Q) : Trip P W0 (.cond c x y) st Q := by
  refine Trip.cond hc ?_
  by_cases h : p
  · simpa [h] using h1 h
  · simpa [h] using h2 h
theorem Trip.iteB {st : ASt} {Q : AExit → ASt → Prop} {c : Operand} {x y : Code} {b : Bool} (hc : st.ev c = some (.bool b)) (h1 : b = true → Trip P W0 x st Q) (h2 : b = false → Trip P W0 y st Q) : Trip P W0 (.cond c x y) st Q := by
  refine Trip.cond hc ?_
  cases b
  · simpa using h2 rfl
  · simpa using h1 rfl
theorem Trip.inv {c : Code} {st : ASt} {Q : AExit → ASt → Prop} {α : Type} (I : α → ASt → Prop) (μ : α → Nat) (a0 : α) (h0 : I a0 st) (h : ∀ a s, I a s → Trip P W0 c s fun e s' => match e with | .normal => ∃ a', I a' s' ∧ μ a' < μ a | e => Q e s') : Trip P W0 (.loop c) st Q := by
  have key : ∀ n a s, I a s → μ a < n → Rnd P W0 c Q n s := by
    intro n
    induction n with
    | zero => intro a s _ hm; omega
    | succ n ih =>
      intro a s hi hm
      refine Trip.mono (h a s hi) ?_
      intro e s' hq
      cases e with
      | normal => obtain ⟨a', hq1, hq2⟩ := hq; exact ih a' s' hq1 (by omega)
      | exit id => exact hq
      | goto l => exact hq
      | ret => exact hq
  exact Trip.loop (μ a0 + 1) (key _ a0 st h0 (by omega))
variable {Q : AExit → ASt → Prop} {st : ASt}
theorem blockExit_eq {id : Nat} (h : Q .normal st) : blockExit id Q (.exit id) st := by simpa [blockExit] using h
theorem blockExit_normal {id : Nat} (h : Q .normal st) : blockExit id Q .normal st := h
theorem blockExit_ret {id : Nat} (h : Q .ret st) : blockExit id Q .ret st := h
variable {ops : Array Oper} {dst : Option Tmp} {op : Op} {type : TypeId} {pos : String} {after : Array Edge} {guard : Option (Nat × Bool)} {l : List Oper} {tm : Nat → Value} {n nx : Nat} {H : Heap} {v : Value} {QQ : ASt → Prop}
theorem OpsL.p {d : Tmp} (hd : d < n) (hop : aop P H nx (ASt.ev ⟨tm, n, H, nx⟩) ⟨some d, op, type, pos, after, none⟩ = some (v, .none)) (h : OpsL P W0 ops l ⟨tmPut tm (some d) v, n, H, nx⟩ QQ) : OpsL P W0 ops (⟨some d, op, type, pos, after, none⟩ :: l) ⟨tm, n, H, nx⟩ QQ :=
  OpsL.pure (by simp [dstOk, hd]) rfl hop h
theorem OpsL.e {e : Eff} {d : Tmp} (hd : d < n) (hop : aop P H nx (ASt.ev ⟨tm, n, H, nx⟩) ⟨some d, op, type, pos, after, none⟩ = some (v, e)) (h : OpsL P W0 ops l ⟨tmPut tm (some d) v, n, e.H nx H, e.nx nx⟩ QQ) : OpsL P W0 ops (⟨some d, op, type, pos, after, none⟩ :: l) ⟨tm, n, H, nx⟩ QQ :=
  OpsL.eff (by simp [dstOk, hd]) rfl hop h
theorem OpsL.u {e : Eff} (hop : aop P H nx (ASt.ev ⟨tm, n, H, nx⟩) ⟨none, op, type, pos, after, none⟩ = some (v, e)) (h : OpsL P W0 ops l ⟨tm, n, e.H nx H, e.nx nx⟩ QQ) : OpsL P W0 ops (⟨none, op, type, pos, after, none⟩ :: l) ⟨tm, n, H, nx⟩ QQ :=
  OpsL.eff rfl rfl hop h
variable {ev : Operand → Option Value}
theorem aop_fieldAddr {s : TypeId} {x : Operand} {f : Nat} {a : Addr} {v : Value}
   (hx : ev x = some (.pointer (some a))) (h : aFieldAddr P s (.pointer (some a)) f = some v) :
    aop P H nx ev ⟨dst, .fieldAddr s x f, type, pos, after, guard⟩ = some (v, .none) := by simp [aop, hx, h]
variable {f : FuncId} {R : Value → Nat → Heap → Prop} {d : Tmp} {ts : Array TypeId}
theorem OpsL.call0 (hd : d < n) (hf : Enters P f) (hcall : ACalls P W0 f [] nx H R) (h : ∀ v nx' H', R v nx' H' → OpsL P W0 ops l ⟨tmPut tm (some d) v, n, H', nx'⟩ QQ) :
    OpsL P W0 ops (⟨some d, .call ⟨.value (.func f), #[], ts⟩, type, pos, after, none⟩ :: l) ⟨tm, n, H, nx⟩ QQ :=
  OpsL.call R (by simp [dstOk, hd]) rfl (by simp [callee, ASt.ev, evAll]) hf hcall h
theorem OpsL.call1 {x : Operand} {a : Value} (hd : d < n) (hx : ASt.ev ⟨tm, n, H, nx⟩ x = some a) (hf : Enters P f) (hcall : ACalls P W0 f [a] nx H R) (h : ∀ v nx' H', R v nx' H' → OpsL P W0 ops l ⟨tmPut tm (some d) v, n, H', nx'⟩ QQ) :
    OpsL P W0 ops (⟨some d, .call ⟨.value (.func f), #[x], ts⟩, type, pos, after, none⟩ :: l) ⟨tm, n, H, nx⟩ QQ := by
  refine OpsL.call R (by simp [dstOk, hd]) rfl ?_ hf hcall h
  have hf' : ASt.ev ⟨tm, n, H, nx⟩ (.func f) = some (.func (.func f) #[] #[]) := rfl
  simp [callee, hf', evAll, hx]
theorem OpsL.call2 {x y : Operand} {a b : Value} (hd : d < n) (hx : ASt.ev ⟨tm, n, H, nx⟩ x = some a) (hy : ASt.ev ⟨tm, n, H, nx⟩ y = some b) (hf : Enters P f) (hcall : ACalls P W0 f [a, b] nx H R) (h : ∀ v nx' H', R v nx' H' → OpsL P W0 ops l ⟨tmPut tm (some d) v, n, H', nx'⟩ QQ) :
    OpsL P W0 ops (⟨some d, .call ⟨.value (.func f), #[x, y], ts⟩, type, pos, after, none⟩ :: l) ⟨tm, n, H, nx⟩ QQ := by
  refine OpsL.call R (by simp [dstOk, hd]) rfl ?_ hf hcall h
  have hf' : ASt.ev ⟨tm, n, H, nx⟩ (.func f) = some (.func (.func f) #[] #[]) := rfl
  simp [callee, hf', evAll, hx, hy]
theorem OpsL.call3 {x y z : Operand} {a b c : Value} (hd : d < n) (hx : ASt.ev ⟨tm, n, H, nx⟩ x = some a) (hy : ASt.ev ⟨tm, n, H, nx⟩ y = some b) (hz : ASt.ev ⟨tm, n, H, nx⟩ z = some c) (hf : Enters P f) (hcall : ACalls P W0 f [a, b, c] nx H R) (h : ∀ v nx' H', R v nx' H' → OpsL P W0 ops l ⟨tmPut tm (some d) v, n, H', nx'⟩ QQ) :
    OpsL P W0 ops (⟨some d, .call ⟨.value (.func f), #[x, y, z], ts⟩, type, pos, after, none⟩ :: l) ⟨tm, n, H, nx⟩ QQ := by
  refine OpsL.call R (by simp [dstOk, hd]) rfl ?_ hf hcall h
  have hf' : ASt.ev ⟨tm, n, H, nx⟩ (.func f) = some (.func (.func f) #[] #[]) := rfl
  simp [callee, hf', evAll, hx, hy, hz]
theorem OpsL.unguard {j : Nat} {want : Bool} {d' : Tmp} (hj : (ops[j]?).bind (·.dst) = some d') (hb : tm d' = .bool want) (h : OpsL P W0 ops (⟨dst, op, type, pos, after, none⟩ :: l) ⟨tm, n, H, nx⟩ QQ) :
    OpsL P W0 ops (⟨dst, op, type, pos, after, some (j, want)⟩ :: l) ⟨tm, n, H, nx⟩ QQ := by
  obtain ⟨hd, h⟩ := h
  refine ⟨hd, ?_⟩
  have hw : wants ops ⟨tm, n, H, nx⟩ ⟨dst, op, type, pos, after, some (j, want)⟩ = true := by simp [wants, hj, hb]
  rcases h with ⟨hw', _⟩ | ⟨_, h⟩
  · simp [wants] at hw'
  · exact .inr ⟨hw, h⟩
theorem OpsL.skipped {j : Nat} {want : Bool} {d' : Tmp} (hj : (ops[j]?).bind (·.dst) = some d') (hb : tm d' = .bool (!want)) (hd : d < n) (h : OpsL P W0 ops l ⟨tmPut tm (some d) undef, n, H, nx⟩ QQ) :
    OpsL P W0 ops (⟨some d, op, type, pos, after, some (j, want)⟩ :: l) ⟨tm, n, H, nx⟩ QQ := by
  refine ⟨by simp [dstOk, hd], .inl ⟨?_, h⟩⟩
  cases want <;> simp_all [wants]
theorem OpsL.guarded {j : Nat} {want : Bool} {d' : Tmp} {p : Prop} [Decidable p] (hj : (ops[j]?).bind (·.dst) = some d') (hb : tm d' = .bool (decide p)) (hd : d < n)
    (h1 : decide p = want → OpsL P W0 ops (⟨some d, op, type, pos, after, none⟩ :: l) ⟨tm, n, H, nx⟩ QQ) (h2 : decide p = (!want) → OpsL P W0 ops l ⟨tmPut tm (some d) undef, n, H, nx⟩ QQ) :
    OpsL P W0 ops (⟨some d, op, type, pos, after, some (j, want)⟩ :: l) ⟨tm, n, H, nx⟩ QQ := by
  by_cases e : decide p = want
  · exact OpsL.unguard hj (by rw [hb, e]) (h1 e)
  · have e' : decide p = !want := by revert e; cases decide p <;> cases want <;> simp
    exact OpsL.skipped hj (by rw [hb, e']) hd (h2 e')
theorem OpsL.guardT {j : Nat} {d' : Tmp} {p : Prop} [Decidable p] (hj : (ops[j]?).bind (·.dst) = some d') (hb : tm d' = .bool (decide p)) (hd : d < n)
    (h1 : p → OpsL P W0 ops (⟨some d, op, type, pos, after, none⟩ :: l) ⟨tm, n, H, nx⟩ QQ) (h2 : ¬p → OpsL P W0 ops l ⟨tmPut tm (some d) undef, n, H, nx⟩ QQ) :
    OpsL P W0 ops (⟨some d, op, type, pos, after, some (j, true)⟩ :: l) ⟨tm, n, H, nx⟩ QQ :=
  OpsL.guarded hj hb hd (fun e => h1 (by simpa using e)) (fun e => h2 (by simpa using e))
theorem OpsL.guardF {j : Nat} {d' : Tmp} {p : Prop} [Decidable p] (hj : (ops[j]?).bind (·.dst) = some d') (hb : tm d' = .bool (decide p)) (hd : d < n)
    (h1 : ¬p → OpsL P W0 ops (⟨some d, op, type, pos, after, none⟩ :: l) ⟨tm, n, H, nx⟩ QQ) (h2 : p → OpsL P W0 ops l ⟨tmPut tm (some d) undef, n, H, nx⟩ QQ) :
    OpsL P W0 ops (⟨some d, op, type, pos, after, some (j, false)⟩ :: l) ⟨tm, n, H, nx⟩ QQ :=
  OpsL.guarded hj hb hd (fun e => h1 (by simpa using e)) (fun e => h2 (by simpa using e))
theorem aop_pickT {x y z : Operand} {v : Value} (hx : ev x = some (.bool true)) (hv : ev y = some v) : aop P H nx ev ⟨dst, .pick x y z, type, pos, after, guard⟩ = some (v, .none) := by simp [aop, hx, hv]
theorem aop_pickF {x y z : Operand} {v : Value} (hx : ev x = some (.bool false)) (hv : ev z = some v) : aop P H nx ev ⟨dst, .pick x y z, type, pos, after, guard⟩ = some (v, .none) := by simp [aop, hx, hv]
theorem aop_alloc {t : TypeId} {l : List Value} (hz : zeroOf P t = some l) : aop P H nx ev ⟨dst, .alloc t, type, pos, after, guard⟩ = some (.pointer (some ⟨nx, 0, none⟩), .new (.cells l 0 none false (some t))) := by simp [aop, aAlloc, hz]
theorem aop_loadAgg {t : TypeId} {x : Operand} {a : Addr} {dd : TypeDesc} {k : Nat} {vs : List Value} (hx : ev x = some (.pointer (some a))) (hu : P.underlying t = some dd) (hd : isAggD dd = true) (hz : szOf P t = some k) (hc : getc H a k = some vs) :
    aop P H nx ev ⟨dst, .load t x, type, pos, after, guard⟩ = some (.agg vs.toArray, .none) := by simp [aop, hx, aLoad, readAt, hu, hd, hz, hc]
theorem aop_store {t : TypeId} {x y : Operand} {a : Addr} {u : Value} {k : Nat} {o : AObj} (hx : ev x = some (.pointer (some a))) (hy : ev y = some u) (hz : szOf P t = some k) (hk : u.cells.size = k) (hc : setc H a u.cells.toList = some o) :
    aop P H nx ev ⟨dst, .store t x y, type, pos, after, guard⟩ = some (undef, .upd a.block o) := by simp [aop, hx, hy, aStore, writeAt, hz, hk, hc]
theorem OpsL.new {o : AObj} (hd : d < n) (hop : aop P H nx (ASt.ev ⟨tm, n, H, nx⟩) ⟨some d, op, type, pos, after, none⟩ = some (v, .new o)) (h : OpsL P W0 ops l ⟨tmPut tm (some d) v, n, H.put nx o, nx + 1⟩ QQ) : OpsL P W0 ops (⟨some d, op, type, pos, after, none⟩ :: l) ⟨tm, n, H, nx⟩ QQ :=
  OpsL.e hd hop h
theorem OpsL.upd {o : AObj} {k : Nat} (hop : aop P H nx (ASt.ev ⟨tm, n, H, nx⟩) ⟨none, op, type, pos, after, none⟩ = some (v, .upd k o)) (h : OpsL P W0 ops l ⟨tm, n, H.put k o, nx⟩ QQ) : OpsL P W0 ops (⟨none, op, type, pos, after, none⟩ :: l) ⟨tm, n, H, nx⟩ QQ :=
  OpsL.u hop h
theorem Trip.ok {c : Code} (h : (∀ id o, st.H id = some o → id < st.nx) → Trip P W0 c st Q) : Trip P W0 c st Q := fun ρ C a w hr hs => h (fun id o ho => (hs.rel.lt id o ho).1) ρ C a w hr hs
theorem getc_some {a : Addr} {m : Nat} {vs : List Value} (h : getc H a m = some vs) : ∃ o, H a.block = some o := by
  obtain ⟨o, ho, _⟩ := getc_live h; exact ⟨o, ho⟩
theorem Heap.put_eq {k : Nat} {o : AObj} : H.put k o k = some o := by simp [Heap.put]
theorem Heap.put_ne {i k : Nat} {o : AObj} (h : i ≠ k) : H.put k o i = H i := by simp [Heap.put, h]
theorem readAt_agg {t : TypeId} {a : Addr} {dd : TypeDesc} {k : Nat} {vs : List Value} (hu : P.underlying t = some dd) (hd : isAggD dd = true) (hz : szOf P t = some k) (hc : getc H a k = some vs) : readAt P H t a = some (.agg vs.toArray) := by simp [readAt, hu, hd, hz, hc]
theorem res_tmp {t : Tmp} : aResults P st #[.tmp t] = some (st.tm t) := rfl
theorem res_cell {t : Tmp} {ty : TypeId} {a : Addr} {v : Value} (ht : st.tm t = .pointer (some a)) (hr : readAt P st.H ty a = some v) : aResults P st #[.cell t ty] = some v := by simp [aResults, aResultL, aResult, ht, hr]
theorem getc_own {k : Nat} {c : List Value} {e : Nat} {tg : Option Nat} {ro : Bool} {q : Option TypeId} {off m : Nat} (h : off + m ≤ c.length) : getc (H.put k (.cells c e tg ro q)) ⟨k, off, tg⟩ m = some ((c.drop off).take m) := by simp [getc, Heap.put, h]
end
end Go.Am
namespace Go.Am
open Go.RowKit
section
variable {P : Program} {W0 : World} {ops : Array Oper} {H : Heap} {nx n : Nat}
def PStep (P : Program) (ops : Array Oper) (H : Heap) (nx n : Nat) (o : Oper) (tm : Nat → Value) (v : Value) : Prop :=
  (∀ d, o.dst = some d → d < n) ∧ ((wantsT ops tm o = false ∧ v = undef) ∨ (wantsT ops tm o = true ∧ aop P H nx (evR (opTs o) tm) o = some (v, .none)))
def OpsD (P : Program) (ops : Array Oper) (H : Heap) (nx n : Nat) : List Oper → (Nat → Value) → ((Nat → Value) → Prop) → Prop
  | [], tm, Q => Q tm
  | o :: l, tm, Q => ∃ v, PStep P ops H nx n o tm v ∧ OpsD P ops H nx n l (tmPut tm o.dst v) Q
variable {d : Tmp} {op : Op} {type : TypeId} {pos : String} {after : Array Edge} {l : List Oper} {tm : Nat → Value} {v : Value} {QQ : (Nat → Value) → Prop}
end
end Go.Am
namespace Go.Am
open Go.RowKit
section
variable {P : Program} {W0 : World} {H : Heap} {nx n : Nat}
def OwnRow (H : Heap) (ob : Option (Nat × Nat)) (el : TypeId) (sz : Nat) (v : Value) (cs : List Value) (k : Nat) : Prop :=
  match ob with
  | none => v = .slice none 0 0 ∧ cs = [] ∧ k = 0
  | some (b, t) => v = .slice (some ⟨b, 0, some t⟩) k k ∧ cs.length = k * sz ∧ ∃ rest, H b = some (.cells (cs ++ rest) sz (some t) false (some el))
def blkOf (nx : Nat) : Option (Nat × Nat) → Nat
  | none => nx
  | some (b, _) => b
variable {ev : Operand → Option Value} {dst : Option Tmp} {type : TypeId} {pos : String} {after : Array Edge} {guard : Option (Nat × Bool)}
theorem aop_append_own {ob : Option (Nat × Nat)} {el : TypeId} {sz bytes k m : Nat} {v u : Value} {cs xs z : List Value} {x y : Operand} {st xt : TypeId} {xd : TypeDesc} (hx : ev x = some v) (hy : ev y = some u) (hv : OwnRow H ob el sz v cs k)
    (hs : source H sz u none = some (m, xs)) (h1 : xs.all (·.oneCell') = true) (hm : m ≠ 0) (hst : P.underlying st = some (.slice el)) (hxt : P.underlying xt = some xd) (hxd : notInt xd = true)
    (hsz : szOf P el = some sz) (hby : bytesOfT P el = some bytes) (hz : zeroOf P el = some z) (hzl : z.length = sz) (hle : k + m ≤ 1099511627776) (hle2 : (2 * (k + m) + 192) * bytes ≤ 281474976710656) :
    ∃ e, aop P H nx ev ⟨dst, .call ⟨.builtin .append, #[x, y], #[st, xt]⟩, type, pos, after, guard⟩ = some (.slice (some ⟨blkOf nx ob, 0, some nx⟩) (k + m) (k + m), e) ∧
      e.H nx H = H.put (blkOf nx ob) (.cells (cs ++ xs) sz (some nx) false (some el)) ∧ e.nx nx = nx + 1 := by
  cases ob with
  | none =>
    obtain ⟨rfl, rfl, rfl⟩ := hv
    refine ⟨.new (.cells xs sz (some nx) false (some el)), ?_, by simp [Eff.H, blkOf], rfl⟩
    simp only [Nat.zero_add] at hle hle2
    simp [aop, hx, hy, evAll, aBuiltin, aAppend, hst, hxt, hsz, hby, hz, hxd, hzl, hs, hm, hle, hle2, blkOf]
    rw [if_pos (by simpa using h1)]
  | some bt =>
    obtain ⟨b, t⟩ := bt
    obtain ⟨rfl, hc, rest, ho⟩ := hv
    refine ⟨.bump b (.cells (cs ++ xs) sz (some nx) false (some el)), ?_, by simp [Eff.H, blkOf], rfl⟩
    have hg : getc H ⟨b, 0, some t⟩ (k * sz) = some cs := by
      unfold getc
      simp only [ho]
      rw [if_pos ⟨trivial, by simp; omega⟩]
      simp [← hc]
    simp [aop, hx, hy, evAll, aBuiltin, aAppend, hst, hxt, hsz, hby, hz, hxd, hzl, hs, hm, ho, hle, hle2, hg, blkOf]
    rw [if_pos (by simpa using h1)]
variable {ops : Array Oper} {l : List Oper} {tm : Nat → Value} {QQ : ASt → Prop} {d : Tmp}
theorem OpsL.append {ob : Option (Nat × Nat)} {el : TypeId} {sz bytes k m : Nat} {v u : Value} {cs xs z : List Value} {x y : Operand} {st xt : TypeId} {xd : TypeDesc} (hd : d < n) (hx : ASt.ev ⟨tm, n, H, nx⟩ x = some v) (hy : ASt.ev ⟨tm, n, H, nx⟩ y = some u) (hv : OwnRow H ob el sz v cs k)
    (hs : source H sz u none = some (m, xs)) (h1 : xs.all (·.oneCell') = true) (hm : m ≠ 0) (hst : P.underlying st = some (.slice el)) (hxt : P.underlying xt = some xd) (hxd : notInt xd = true)
    (hsz : szOf P el = some sz) (hby : bytesOfT P el = some bytes) (hz : zeroOf P el = some z) (hzl : z.length = sz) (hle : k + m ≤ 1099511627776) (hle2 : (2 * (k + m) + 192) * bytes ≤ 281474976710656)
    (h : OpsL P W0 ops l ⟨tmPut tm (some d) (.slice (some ⟨blkOf nx ob, 0, some nx⟩) (k + m) (k + m)), n, H.put (blkOf nx ob) (.cells (cs ++ xs) sz (some nx) false (some el)), nx + 1⟩ QQ) :
    OpsL P W0 ops (⟨some d, .call ⟨.builtin .append, #[x, y], #[st, xt]⟩, type, pos, after, none⟩ :: l) ⟨tm, n, H, nx⟩ QQ := by
  obtain ⟨e, he, h1', h2'⟩ := aop_append_own (P := P) (nx := nx) (dst := some d) (type := type) (pos := pos) (after := after) (guard := none) hx hy hv hs h1 hm hst hxt hxd hsz hby hz hzl hle hle2
  refine OpsL.e hd he ?_
  rw [h1', h2']
  exact h
end
section
variable {P : Program} {W0 : World} {H : Heap} {nx n : Nat} {ev : Operand → Option Value} {dst : Option Tmp} {type : TypeId} {pos : String} {after : Array Edge} {guard : Option (Nat × Bool)}
theorem aop_extract {x : Operand} {i : Nat} {a : Array Value} {v : Value} (hx : ev x = some (.tuple a)) (hv : a[i]? = some v) : aop P H nx ev ⟨dst, .extract x i, type, pos, after, guard⟩ = some (v, .none) := by
  simp [aop, hx, aExtract, hv]
theorem aop_eqlT {t u : TypeId} {k : IntKind} {x y : Operand} {a b : Int} (hx : ev x = some (.int k a)) (hy : ev y = some (.int k b)) (h : a = b) :
    aop P H nx ev ⟨dst, .binOp .eql t x y u, type, pos, after, guard⟩ = some (.bool true, .none) := by
  rw [aop_eql hx hy]; simp [h]
theorem wrap_i64 (a : Int) : IntKind.i64.wrap a = (a + 9223372036854775808) % 18446744073709551616 - 9223372036854775808 := by
  simp only [IntKind.wrap, IntKind.bits, IntKind.signed, Bool.true_and, decide_eq_true_eq, Nat.reduceSub, Int.reducePow, ge_iff_le]
  split <;> omega
end
end Go.Am
namespace Go.Am
open Go.RowKit
section
variable {P : Program} {W0 : World} {ops : Array Oper}
def effOp : Op → Bool
  | .move _ | .assign _ | .pick .. | .build .. | .load .. | .nilCheck _ | .binOp .. | .unOp .. | .makeFunc .. | .lookup .. | .slice .. | .fieldAddr .. | .field .. | .indexAddr .. | .index .. | .extract .. => false
  | .call c => match c.callee with
    | .builtin .len | .builtin .min | .builtin .max | .builtin .cap => false
    | _ => true
  | _ => true
def heapFree : Op → Bool
  | .move _ | .assign _ | .pick .. | .build .. | .unOp .. | .fieldAddr .. | .field .. | .indexAddr .. | .index .. | .extract .. | .nilCheck _ => true
  | .binOp op .. => op != .eql && op != .neq
  | _ => false
def goCall : Op → Bool
  | .call c => match c.callee with
    | .builtin _ => false
    | _ => true
  | _ => false
theorem effOp_none {ev : Operand → Option Value} {H : Heap} {nx : Nat} {o : Oper} {v : Value} {e : Eff} (h : effOp o.op = false) (hop : aop P H nx ev o = some (v, e)) : e = .none := by
  unfold aop at hop
  cases ho : o.op <;> simp only [ho, effOp] at h hop <;> try (cases h; done)
  case call c =>
    cases hc : c.callee <;> simp only [hc] at h hop <;> try (cases h; done)
    rename_i b
    simp only [Option.bind_eq_some_iff] at hop
    obtain ⟨l, _, hl⟩ := hop
    cases b <;> simp only at h <;> try (cases h; done)
    all_goals
      unfold aBuiltin at hl
      split at hl <;> simp_all [Option.map_eq_some_iff]
      all_goals (obtain ⟨_, _, _, h⟩ := hl; exact h.symm)
  case pick =>
    split at hop <;> simp_all [Option.map_eq_some_iff]
    all_goals (obtain ⟨_, _, _, h⟩ := hop; exact h.symm)
  case nilCheck =>
    split at hop <;> simp_all
  all_goals simp only [Option.bind_eq_some_iff, Option.map_eq_some_iff, Prod.mk.injEq] at hop
  all_goals first
    | (obtain ⟨_, _, _, rfl⟩ := hop; rfl)
    | (obtain ⟨_, _, _, _, _, rfl⟩ := hop; rfl)
    | (obtain ⟨_, _, _, _, _, _, _, rfl⟩ := hop; rfl)
    | (obtain ⟨_, _, _, _, _, _, _, _, _, _, _, rfl⟩ := hop; rfl)
    | (obtain ⟨_, _, _, _, _, _, _, _, _, _, _, _, _, rfl⟩ := hop; rfl)
theorem aBin_free {H H' : Heap} {op : BinOp} {t : TypeId} {x y : Operand} {a b : Value} (h : (op != .eql && op != .neq) = true) : aBin P H op t x y a b = aBin P H' op t x y a b := by
  unfold aBin
  split
  · rfl
  · rfl
  · split
    · cases op <;> first | rfl | (simp at h)
    · rfl
theorem heapFree_aop {ev : Operand → Option Value} {H H' : Heap} {nx nx' : Nat} {o : Oper} (h : heapFree o.op = true) : aop P H nx ev o = aop P H' nx' ev o := by
  unfold aop
  cases ho : o.op <;> simp only [ho, heapFree] at h ⊢ <;> try (cases h; done)
  case binOp op t x y yt =>
    simp only [aBin_free (P := P) (H := H) (H' := H') h]
theorem evR_mem {ts : List Tmp} {tm : Nat → Value} {n nx : Nat} {H : Heap} {x : Operand} (h : ∀ t, x = .tmp t → t ∈ ts) : evR ts tm x = ASt.ev ⟨tm, n, H, nx⟩ x := by
  cases x with
  | tmp t => simp [evR, ASt.ev, h t rfl]
  | _ => rfl
theorem mem_opTs {o : Oper} {t : Tmp} (h : Operand.tmp t ∈ o.op.operands.toList) : t ∈ opTs o := by
  unfold opTs
  rw [List.mem_filterMap]
  exact ⟨.tmp t, h, rfl⟩
theorem evAll_congr {ev ev' : Operand → Option Value} : ∀ (l : List Operand), (∀ x ∈ l, ev x = ev' x) → evAll ev l = evAll ev' l := by
  intro l
  induction l with
  | nil => intro _; rfl
  | cons x l ih =>
    intro h
    simp only [evAll, h x (by simp), ih (fun y hy => h y (by simp [hy]))]
theorem evParts_congr {ev ev' : Operand → Option Value} : ∀ (l : List (Nat × Operand)), (∀ x ∈ l, ev x.2 = ev' x.2) → evParts ev l = evParts ev' l := by
  intro l
  induction l with
  | nil => intro _; rfl
  | cons x l ih =>
    obtain ⟨i, x⟩ := x
    intro h
    simp only [evParts, h (i, x) (by simp), ih (fun y hy => h y (by simp [hy]))]
theorem evOpt_congr {ev ev' : Operand → Option Value} {o : Option Operand} (h : ∀ x, o = some x → ev x = ev' x) : evOpt ev o = evOpt ev' o := by
  cases o with
  | none => rfl
  | some x => simp only [evOpt, h x rfl]
theorem aop_congr {ev ev' : Operand → Option Value} {H : Heap} {nx : Nat} {o : Oper} (h : ∀ x ∈ o.op.operands.toList, ev x = ev' x) : aop P H nx ev o = aop P H nx ev' o := by
  unfold aop
  cases ho : o.op <;> simp only [ho, Op.operands] at h ⊢
  case call c =>
    cases hc : c.callee <;> simp only
    rename_i b
    rw [evAll_congr c.args.toList (fun x hx => h x (by simp [Call.operands, hc]; first | exact hx | exact .inr hx | simpa using hx))]
  case build t ps => rw [evParts_congr ps.toList (fun x hx => h x.2 (by simp; exact ⟨x.1, by simpa using hx⟩))]
  case buildSlice t n ps => rw [evParts_congr ps.toList (fun x hx => h x.2 (by simp; exact ⟨x.1, by simpa using hx⟩))]
  case makeFunc fn first captured =>
    rw [evAll_congr first.toList (fun x hx => h x (by simp; left; simpa using hx)), evAll_congr captured.toList (fun x hx => h x (by simp; right; simpa using hx))]
  case makeMap t r => rw [evOpt_congr (fun x hx => h x (by simp [hx]))]
  case slice t x lo hi mx =>
    rw [h x (by simp), evOpt_congr (o := lo) (fun y hy => h y (by simp [hy])), evOpt_congr (o := hi) (fun y hy => h y (by simp [hy])), evOpt_congr (o := mx) (fun y hy => h y (by simp [hy]))]
  all_goals first
    | rfl
    | (rename_i x; rw [h x (by simp)]; done)
    | (rename_i t x; rw [h x (by simp)]; done)
    | (simp only [List.mem_cons, List.not_mem_nil, or_false, forall_eq_or_imp, forall_eq] at h; simp only [h]; done)
    | skip
theorem callee_goCall {st : ASt} {o : Oper} {x : FuncId × List Value} (h : callee st o = some x) : goCall o.op = true := by
  unfold callee at h
  split at h
  · rename_i c ho
    rw [ho]
    split at h
    · rename_i y hc; simp [goCall, hc]
    · cases h
  · cases h
end
end Go.Am
namespace Go.Am
open Go.RowKit
section
variable {P : Program} {W0 : World} {ev : Operand → Option Value} {H : Heap} {nx n : Nat} {dst : Option Tmp} {type : TypeId} {pos : String} {after : Array Edge} {guard : Option (Nat × Bool)}
theorem aop_build {t : TypeId} {ps : Array (Nat × Operand)} {l : List (Nat × Value)} {v : Value} (hl : evParts ev ps.toList = some l) (hb : aBuild P t l = some v) :
    aop P H nx ev ⟨dst, .build t ps, type, pos, after, guard⟩ = some (v, .none) := by simp [aop, hl, hb]
theorem aop_buildSlice {t : TypeId} {len : Nat} {ps : Array (Nat × Operand)} {l : List (Nat × Value)} {r : Value × Eff} (hl : evParts ev ps.toList = some l) (hb : aBuildSlice P nx t len l = some r) :
    aop P H nx ev ⟨dst, .buildSlice t len ps, type, pos, after, guard⟩ = some r := by simp [aop, hl, hb]
theorem aop_slice {t : TypeId} {x : Operand} {lo hi mx : Option Operand} {v r : Value} {a b c : Option Value} (hx : ev x = some v) (ha : evOpt ev lo = some a) (hb : evOpt ev hi = some b) (hc : evOpt ev mx = some c) (h : aSlice P H t v a b c = some r) :
    aop P H nx ev ⟨dst, .slice t x lo hi mx, type, pos, after, guard⟩ = some (r, .none) := by simp [aop, hx, ha, hb, hc, h]
theorem aop_makeSlice {t : TypeId} {l c : Operand} {a b : Value} {r : Value × Eff} (hl : ev l = some a) (hc : ev c = some b) (h : aMakeSlice P nx t a b = some r) :
    aop P H nx ev ⟨dst, .makeSlice t l c, type, pos, after, guard⟩ = some r := by simp [aop, hl, hc, h]
theorem setc_one {a : Addr} {cs : List Value} {e : Nat} {q : Option TypeId} {v : Value} (hH : H a.block = some (.cells cs e a.spot false q)) (h : a.off < cs.length) (h1 : v.oneCell' = true) : setc H a [v] = some (.cells (cs.set a.off v) e a.spot false q) := by
  unfold setc
  rw [hH]
  simp only [List.length_cons, List.length_nil, List.all_cons, List.all_nil, h1, Bool.and_self, and_true, true_and]
  rw [if_pos (by omega), List.set_eq_take_append_cons_drop, if_pos h]
  simp
theorem cellAt_own {b off : Nat} {t : Option Nat} {cs : List Value} {e : Nat} {ro : Bool} {q : Option TypeId} (hH : H b = some (.cells cs e t ro q)) (h : off < cs.length) : cellAt H ⟨b, off, t⟩ cs[off] := by
  unfold cellAt getc
  simp only [hH]
  rw [if_pos ⟨trivial, by omega⟩, List.take_one, List.head?_drop, List.getElem?_eq_getElem h]
  rfl
variable {ops : Array Oper} {l : List Oper} {tm : Nat → Value} {QQ : ASt → Prop}
theorem OpsL.store1 {t : TypeId} {x y : Operand} {a : Addr} {v : Value} {cs : List Value} {e : Nat} {q : Option TypeId} (hx : ASt.ev ⟨tm, n, H, nx⟩ x = some (.pointer (some a))) (hy : ASt.ev ⟨tm, n, H, nx⟩ y = some v) (hz : szOf P t = some 1) (hv : v.cells = #[v]) (h1 : v.oneCell' = true)
    (hH : H a.block = some (.cells cs e a.spot false q)) (hlt : a.off < cs.length) (h : OpsL P W0 ops l ⟨tm, n, H.put a.block (.cells (cs.set a.off v) e a.spot false q), nx⟩ QQ) :
    OpsL P W0 ops (⟨none, .store t x y, type, pos, after, none⟩ :: l) ⟨tm, n, H, nx⟩ QQ :=
  OpsL.upd (aop_store hx hy hz (by rw [hv]; rfl) (by rw [hv]; exact setc_one hH hlt h1)) h
def Ext (nx : Nat) (H : Heap) (nx' : Nat) (H' : Heap) : Prop := nx ≤ nx' ∧ ∀ i, i < nx → H' i = H i
theorem Ext.refl : Ext nx H nx H := ⟨Nat.le_refl _, fun _ _ => rfl⟩
theorem Ext.trans {nx1 nx2 : Nat} {H1 H2 : Heap} (h : Ext nx H nx1 H1) (k : Ext nx1 H1 nx2 H2) : Ext nx H nx2 H2 := ⟨Nat.le_trans h.1 k.1, fun i hi => by rw [k.2 i (Nat.lt_of_lt_of_le hi h.1), h.2 i hi]⟩
theorem Ext.put {nx1 k : Nat} {H1 : Heap} {o : AObj} (h : Ext nx H nx1 H1) (hk : nx ≤ k) : Ext nx H nx1 (H1.put k o) := ⟨h.1, fun i hi => by rw [Heap.put_ne (by omega), h.2 i hi]⟩
theorem Ext.up {nx1 nx2 : Nat} {H1 : Heap} (h : Ext nx H nx1 H1) (hk : nx1 ≤ nx2) : Ext nx H nx2 H1 := ⟨Nat.le_trans h.1 hk, h.2⟩
theorem getc_ext {nx' : Nat} {H' : Heap} (h : Ext nx H nx' H') {a : Addr} {m : Nat} {vs : List Value} (hok : ∀ id o, H id = some o → id < nx) (hg : getc H a m = some vs) : getc H' a m = some vs := by
  obtain ⟨o, ho⟩ := getc_some hg
  unfold getc at *
  rw [h.2 _ (hok _ _ ho)]
  exact hg
theorem IntsAt.ext {nx' : Nat} {H' : Heap} {v : Value} {xs : List Int} (h : Ext nx H nx' H') (hok : ∀ id o, H id = some o → id < nx) (hi : IntsAt H v xs) : IntsAt H' v xs := by
  rcases hi with hi | ⟨a, c, rfl, hi⟩
  · exact .inl hi
  · exact .inr ⟨a, c, rfl, fun i q => getc_ext h hok (hi i q)⟩
def Bd (o : Option Value) (dflt k : Nat) : Prop := (o = none ∧ k = dflt) ∨ ∃ kd, o = some (.int kd k)
theorem Bd.bound {o : Option Value} {dflt k : Nat} (h : Bd o dflt k) : bound o dflt = some k := by
  rcases h with ⟨rfl, rfl⟩ | ⟨kd, rfl⟩
  · rfl
  · simp [Am.bound]
theorem bounds_of {len cap l h : Nat} {lo hi : Option Value} (hl : Bd lo 0 l) (hh : Bd hi len h) (h1 : l ≤ h) (h2 : h ≤ cap) : bounds len cap lo hi none = some (l, h, cap) := by
  unfold bounds
  rw [hl.bound, hh.bound]
  simp [Am.bound, h1, h2]
theorem aSlice_tagged {t el : TypeId} {sz : Nat} {a : Addr} {len cap l h tg : Nat} {lo hi : Option Value} {o : AObj} (hu : P.underlying t = some (.slice el)) (hs : szOf P el = some sz) (ho : H a.block = some o) (ht : o.tag = some tg) (ha : a.spot = some tg) (he : o.esz = sz)
    (hl : Bd lo 0 l) (hh : Bd hi len h) (h1 : l ≤ h) (h2 : h ≤ len) : aSlice P H t (.slice (some a) len cap) lo hi none = some (.slice (some ⟨a.block, a.off + l * sz, if l = len ∧ 0 < l then none else some tg⟩) (h - l) (h - l)) := by
  unfold aSlice
  simp only [hu, hs, ho, ht, ha, he, if_true, bounds_of hl hh h1 h2, Option.map_some, Option.isSome_none, Bool.false_eq_true, ne_eq, not_true_eq_false, or_self, if_false]
theorem ACalls.ok {f : FuncId} {args : List Value} {R : Value → Nat → Heap → Prop} (h : ACalls P W0 f args nx H R) : ACalls P W0 f args nx H fun v nx' H' => R v nx' H' ∧ ∀ id o, H' id = some o → id < nx' := fun C w args' hR ha => by
  refine (h C w args' hR ha).mono ?_
  rintro e w' ⟨v, v', C', nx', H', h1, h2, hR', h4⟩
  exact ⟨v, v', C', nx', H', h1, ⟨h2, fun id o ho => (hR'.lt id o ho).1⟩, hR', h4⟩
theorem OpsL.storeAt {t : TypeId} {x y : Operand} {a : Addr} {v : Value} {cs cs' : List Value} {e : Nat} {q : Option TypeId} (j : Nat) (hx : ASt.ev ⟨tm, n, H, nx⟩ x = some (.pointer (some a))) (hy : ASt.ev ⟨tm, n, H, nx⟩ y = some v) (hz : szOf P t = some 1) (hv : v.cells = #[v]) (h1 : v.oneCell' = true)
    (hH : H a.block = some (.cells cs e a.spot false q)) (hj : a.off = j) (hlt : j < cs.length) (hcs : cs.set j v = cs') (h : OpsL P W0 ops l ⟨tm, n, H.put a.block (.cells cs' e a.spot false q), nx⟩ QQ) :
    OpsL P W0 ops (⟨none, .store t x y, type, pos, after, none⟩ :: l) ⟨tm, n, H, nx⟩ QQ := by
  subst hj; subst hcs
  exact OpsL.store1 hx hy hz hv h1 hH hlt h
theorem set_ints (l : List Int) (i : Nat) (v : Int) : (l.map (Value.int .i64 ·)).set i (.int .i64 v) = (l.set i v).map (Value.int .i64 ·) := by rw [List.map_set]
theorem aop_lssT {t u : TypeId} {k : IntKind} {x y : Operand} {a b : Int} (hx : ev x = some (.int k a)) (hy : ev y = some (.int k b)) (h : a < b) :
    aop P H nx ev ⟨dst, .binOp .lss t x y u, type, pos, after, guard⟩ = some (.bool true, .none) := by rw [aop_lss hx hy]; simp only [h, decide_true, decide_false, not_false_eq_true, not_true_eq_false]
theorem aop_lssF {t u : TypeId} {k : IntKind} {x y : Operand} {a b : Int} (hx : ev x = some (.int k a)) (hy : ev y = some (.int k b)) (h : ¬ (a < b)) :
    aop P H nx ev ⟨dst, .binOp .lss t x y u, type, pos, after, guard⟩ = some (.bool false, .none) := by rw [aop_lss hx hy]; simp only [h, decide_true, decide_false, not_false_eq_true, not_true_eq_false]
theorem aop_gtrT {t u : TypeId} {k : IntKind} {x y : Operand} {a b : Int} (hx : ev x = some (.int k a)) (hy : ev y = some (.int k b)) (h : b < a) :
    aop P H nx ev ⟨dst, .binOp .gtr t x y u, type, pos, after, guard⟩ = some (.bool true, .none) := by rw [aop_gtr hx hy]; simp only [h, decide_true, decide_false, not_false_eq_true, not_true_eq_false]
theorem aop_gtrF {t u : TypeId} {k : IntKind} {x y : Operand} {a b : Int} (hx : ev x = some (.int k a)) (hy : ev y = some (.int k b)) (h : ¬ (b < a)) :
    aop P H nx ev ⟨dst, .binOp .gtr t x y u, type, pos, after, guard⟩ = some (.bool false, .none) := by rw [aop_gtr hx hy]; simp only [h, decide_true, decide_false, not_false_eq_true, not_true_eq_false]
theorem aop_geqT {t u : TypeId} {k : IntKind} {x y : Operand} {a b : Int} (hx : ev x = some (.int k a)) (hy : ev y = some (.int k b)) (h : b ≤ a) :
    aop P H nx ev ⟨dst, .binOp .geq t x y u, type, pos, after, guard⟩ = some (.bool true, .none) := by rw [aop_geq hx hy]; simp only [h, decide_true, decide_false, not_false_eq_true, not_true_eq_false]
theorem aop_geqF {t u : TypeId} {k : IntKind} {x y : Operand} {a b : Int} (hx : ev x = some (.int k a)) (hy : ev y = some (.int k b)) (h : ¬ (b ≤ a)) :
    aop P H nx ev ⟨dst, .binOp .geq t x y u, type, pos, after, guard⟩ = some (.bool false, .none) := by rw [aop_geq hx hy]; simp only [h, decide_true, decide_false, not_false_eq_true, not_true_eq_false]
theorem aop_eqlF {t u : TypeId} {k : IntKind} {x y : Operand} {a b : Int} (hx : ev x = some (.int k a)) (hy : ev y = some (.int k b)) (h : ¬ (a = b)) :
    aop P H nx ev ⟨dst, .binOp .eql t x y u, type, pos, after, guard⟩ = some (.bool false, .none) := by rw [aop_eql hx hy]; simp only [h, decide_true, decide_false, not_false_eq_true, not_true_eq_false]
theorem aop_neqT {t u : TypeId} {k : IntKind} {x y : Operand} {a b : Int} (hx : ev x = some (.int k a)) (hy : ev y = some (.int k b)) (h : a ≠ b) :
    aop P H nx ev ⟨dst, .binOp .neq t x y u, type, pos, after, guard⟩ = some (.bool true, .none) := by rw [aop_neq hx hy]; simp [h]
theorem aop_neqF {t u : TypeId} {k : IntKind} {x y : Operand} {a b : Int} (hx : ev x = some (.int k a)) (hy : ev y = some (.int k b)) (h : a = b) :
    aop P H nx ev ⟨dst, .binOp .neq t x y u, type, pos, after, guard⟩ = some (.bool false, .none) := by rw [aop_neq hx hy]; simp [h]
def bs (s : ByteArray) : List Int := s.data.toList.map fun b => (b.toNat : Int)
theorem aop_box {t : TypeId} {x : Operand} {v : Value} (hx : ev x = some v) : aop P H nx ev ⟨dst, .box t x, type, pos, after, guard⟩ = some (.pointer (some ⟨nx, 0, none⟩), .new (.cells v.cells.toList 0 none false (some t))) := by simp [aop, hx]
theorem aop_rem {t u : TypeId} {k : IntKind} {x y : Operand} {a b : Int} (hx : ev x = some (.int k a)) (hy : ev y = some (.int k b)) (hb : b ≠ 0) :
    aop P H nx ev ⟨dst, .binOp .rem t x y u, type, pos, after, guard⟩ = some (.int k (a.tmod b), .none) := by simp [aop, hx, hy, aBin, intArith, hb]
end
end Go.Am
