import Derived.Test.YtmijhkclfoadaaaDoorQEM28
namespace Go.Am
set_option linter.unusedSimpArgs false
set_option linter.unusedVariables false
open Go.RowKit
noncomputable section
section
variable {P : Program} {W0 : World} {xs : List Nat} {ov : Nat → FuncId → List Value → Option Value}
theorem aNexts_ne {H : Heap} {it : Value} {l : List (Value × Eff)} (h : aNexts H it = some l) : l ≠ [] := by
  unfold aNexts at h
  split at h
  case h_2 => cases h
  split at h
  case h_3 => cases h
  · cases h; simp
  · split at h
    case h_2 => cases h
    split at h
    case isFalse => cases h
    split at h
    · cases h; simp
    · rename_i hne
      cases h
      intro e
      exact hne (List.map_eq_nil_iff.1 e)
def GrewN (s : CSt) (outs : List Out) : Prop := outs ≠ [] ∧ ∀ o ∈ outs, ∃ t, o.s.asm = t ++ s.asm
theorem GrewN.one {s : CSt} {o : Out} {t : Asm} (h : o.s.asm = t ++ s.asm) : GrewN s [o] := ⟨by simp, fun o' ho' => by rw [List.mem_singleton.1 ho']; exact ⟨t, h⟩⟩
theorem bindS_grew {s : CSt} {k : Out → Option (List Out)} : ∀ {l outs : List Out}, bindS k l = some outs → (∀ o ∈ l, ∃ t, o.s.asm = t ++ s.asm) → (∀ o ∈ l, ∀ a, k o = some a → GrewN o.s a) → (l ≠ [] → outs ≠ []) ∧ ∀ o ∈ outs, ∃ t, o.s.asm = t ++ s.asm := by
  intro l
  induction l with
  | nil => intro outs h _ _; simp only [bindS, Option.some.injEq] at h; subst h; exact ⟨fun h => absurd rfl h, fun o ho => by cases ho⟩
  | cons y l ih =>
    intro outs h h1 h2
    simp only [bindS] at h
    split at h
    · rename_i a ha
      split at h
      · rename_i b hb
        cases h
        obtain ⟨g1, g2⟩ := h2 y (List.mem_cons_self ..) a ha
        obtain ⟨i1, i2⟩ := ih hb (fun o ho => h1 o (List.mem_cons_of_mem _ ho)) (fun o ho => h2 o (List.mem_cons_of_mem _ ho))
        refine ⟨fun _ => by simp [g1], fun o ho => ?_⟩
        rcases List.mem_append.1 ho with ho | ho
        · obtain ⟨t, e⟩ := g2 o ho
          obtain ⟨t', e'⟩ := h1 y (List.mem_cons_self ..)
          exact ⟨t ++ t', by rw [e, e', List.append_assoc]⟩
        · exact i2 o ho
      · cases h
    · cases h
theorem thenS_grew {s : CSt} {r : Option (List Out)} {k : Out → Option (List Out)} {outs : List Out} (h : thenS r k = some outs) (h1 : ∀ l, r = some l → GrewN s l) (h2 : ∀ l, r = some l → ∀ o ∈ l, ∀ a, k o = some a → GrewN o.s a) : GrewN s outs := by
  unfold thenS at h
  split at h
  · rename_i o
    obtain ⟨_, g⟩ := h1 _ rfl
    obtain ⟨t, e⟩ := g o (List.mem_singleton.2 rfl)
    obtain ⟨g1, g2⟩ := h2 _ rfl o (List.mem_singleton.2 rfl) outs h
    refine ⟨g1, fun o' ho' => ?_⟩
    obtain ⟨t', e'⟩ := g2 o' ho'
    exact ⟨t' ++ t, by rw [e', e, List.append_assoc]⟩
  · obtain ⟨a, b⟩ := bindS_grew h (h1 _ rfl).2 (h2 _ rfl)
    exact ⟨a (by simp), b⟩
  · cases h
theorem bindA_grew {α : Type} {s : CSt} {k : α → Option (List Out)} : ∀ {l : List α} {outs : List Out}, bindS k l = some outs → (∀ o ∈ l, ∀ a, k o = some a → GrewN s a) → (l ≠ [] → outs ≠ []) ∧ ∀ o ∈ outs, ∃ t, o.s.asm = t ++ s.asm := by
  intro l
  induction l with
  | nil => intro outs h _; simp only [bindS, Option.some.injEq] at h; subst h; exact ⟨fun h => absurd rfl h, fun o ho => by cases ho⟩
  | cons y l ih =>
    intro outs h h2
    simp only [bindS] at h
    split at h
    · rename_i a ha
      split at h
      · rename_i b hb
        cases h
        obtain ⟨g1, g2⟩ := h2 y (List.mem_cons_self ..) a ha
        obtain ⟨i1, i2⟩ := ih hb (fun o ho => h2 o (List.mem_cons_of_mem _ ho))
        refine ⟨fun _ => by simp [g1], fun o ho => ?_⟩
        rcases List.mem_append.1 ho with ho | ho
        · exact g2 o ho
        · exact i2 o ho
      · cases h
    · cases h
theorem closeX_asm {ops : Array Oper} {es : List Nat} : ∀ (l : List Oper) (i : Nat) (x y : XSt), closeX P ops es i l x = some y → y.s.asm = x.s.asm := by
  intro l
  induction l with
  | nil => intro i x y h; simp only [closeX, Option.some.injEq] at h; rw [h]
  | cons o l ih =>
    intro i x y h
    simp only [closeX] at h
    split at h
    · exact ih _ _ _ h
    · split at h
      case isFalse => cases h
      split at h
      · split at h
        · have q := ih _ _ _ h; exact q
        · cases h
      · have q := ih _ _ _ h; exact q
theorem nextX_grew {ops : Array Oper} {es : List Nat} {y : XSt} {k : XSt → Option (List Out)} {outs : List Out} (h : nextX P ops es y k = some outs) (hk : ∀ z, k z = some outs → GrewN z.s outs) : GrewN y.s outs := by
  unfold nextX at h
  split at h
  · rename_i z hz
    obtain ⟨a, b⟩ := hk z h
    exact ⟨a, fun o ho => by obtain ⟨t, e⟩ := b o ho; exact ⟨t, by rw [e, closeX_asm _ _ _ _ hz]⟩⟩
  · cases h
theorem resL_spec {rs : Array ResultVar} : ∀ {l outs : List Out}, resL P rs l = some outs → (l ≠ [] → outs ≠ []) ∧ (∀ o ∈ l, ∃ o' ∈ outs, resS P rs o = some o') ∧ ∀ o' ∈ outs, ∃ o ∈ l, resS P rs o = some o' := by
  intro l
  induction l with
  | nil => intro outs h; simp only [resL, Option.some.injEq] at h; subst h; exact ⟨fun h => absurd rfl h, fun o ho => (by cases ho), fun o ho => (by cases ho)⟩
  | cons y l ih =>
    intro outs h
    simp only [resL] at h
    split at h
    · rename_i a b ha hb
      cases h
      obtain ⟨i1, i2, i3⟩ := ih hb
      refine ⟨fun _ => by simp, fun o ho => ?_, fun o' ho' => ?_⟩
      · rcases List.mem_cons.1 ho with rfl | ho
        · exact ⟨a, List.mem_cons_self .., ha⟩
        · obtain ⟨o', m, e⟩ := i2 o ho; exact ⟨o', List.mem_cons_of_mem _ m, e⟩
      · rcases List.mem_cons.1 ho' with rfl | ho'
        · exact ⟨y, List.mem_cons_self .., ha⟩
        · obtain ⟨o, m, e⟩ := i3 o' ho'; exact ⟨o, List.mem_cons_of_mem _ m, e⟩
    · cases h
theorem resS_spec {rs : Array ResultVar} {o o' : Out} (h : resS P rs o = some o') : (o.x = .normal ∨ o.x = .ret) ∧ aResults P o.s.st rs = some o'.v ∧ o'.s = o.s := by
  unfold resS at h
  split at h
  · rename_i hx
    rw [Option.map_eq_some_iff] at h
    obtain ⟨v, hv, rfl⟩ := h
    exact ⟨.inl hx, hv, rfl⟩
  · rename_i hx
    rw [Option.map_eq_some_iff] at h
    obtain ⟨v, hv, rfl⟩ := h
    exact ⟨.inr hx, hv, rfl⟩
  · cases h
def LessOr (s : CSt) (o o' : Out) : Prop :=
  (o'.v = o.v ∧ o.s.nx ≤ o'.s.nx ∧ ∀ m x, o'.s.ht.get m = some x → o.s.ht.get m = some x) ∨
  (∃ τ : Nat → Nat, s.nx ≤ o'.s.nx ∧ eqVn o.s.ht.get o'.s.ht.get τ o'.s.nx 8 o.v o'.v = true ∧ (∀ j p, o'.s.ht.get j = some p → j < o'.s.nx ∧ ∃ x, o.s.ht.get (τ j) = some x ∧ eqOn o.s.ht.get o'.s.ht.get τ o'.s.nx x p = true) ∧
    (∀ i j pi pj, o'.s.ht.get i = some pi → o'.s.ht.get j = some pj → τ i = τ j → i = j) ∧ (∀ j, j < s.nx → τ j = j) ∧
    (∀ j p x, j < s.nx → o'.s.ht.get j = some p → o.s.ht.get j = some x → p.tag = x.tag ∨ ∃ t, p.tag = some t ∧ s.nx ≤ t))
theorem mergeC_spec {s : CSt} {l : List Out} : (∀ o ∈ mergeC s l, o.s.asm = s.asm) ∧ ∀ o ∈ l, ∃ o' ∈ mergeC s l, LessOr s o o' := by
  refine ⟨fun o ho => ?_, fun o ho => ?_⟩
  · obtain ⟨x, _, rfl⟩ := List.mem_map.1 ho
    rfl
  · refine ⟨_, List.mem_map.2 ⟨cleanS s.nx o, dedup_mem _ _ (List.mem_map.2 ⟨o, ho, rfl⟩), rfl⟩, .inl ⟨rfl, ?_, fun m x hx => ?_⟩⟩
    · show o.s.nx ≤ l.foldl (fun n o => max n o.s.nx) 0
      have key : ∀ (l : List Out) (n : Nat), n ≤ l.foldl (fun n o => max n o.s.nx) n ∧ ∀ o ∈ l, o.s.nx ≤ l.foldl (fun n o => max n o.s.nx) n := by
        intro l
        induction l with
        | nil => intro n; exact ⟨Nat.le_refl _, fun o ho => by cases ho⟩
        | cons y l ih =>
          intro n
          obtain ⟨a, b⟩ := ih (max n y.s.nx)
          simp only [List.foldl_cons]
          refine ⟨by omega, fun o ho => ?_⟩
          rcases List.mem_cons.1 ho with rfl | ho
          · omega
          · exact b o ho
      exact (key l 0).2 o ho
    · exact keepG_mem _ _ _ _ _ (rebuild_get _ _ _ hx)
theorem renL_spec {nx0 K : Nat} : ∀ {l : List (Out × (Tree Nat × List Nat × Nat))} {rs : List (Value × List (Nat × AObj))}, renL nx0 K l = some rs → ∀ x ∈ l, ∃ y ∈ rs, renG x.1.s.ht x.1.v nx0 K rebuild x.2 = some y := by
  intro l
  induction l with
  | nil => intro rs h x hx; cases hx
  | cons a l ih =>
    intro rs h x hx
    unfold renL at h
    split at h
    case h_2 => cases h
    rename_i c d hc hd
    cases h
    rcases List.mem_cons.1 hx with rfl | hx
    · exact ⟨c, List.mem_cons_self .., hc⟩
    · obtain ⟨y, hy, e⟩ := ih hd x hx
      exact ⟨y, List.mem_cons_of_mem _ hy, e⟩
theorem mergeR_spec {s : CSt} {l outs : List Out} (h : mergeR s l = some outs) : (∀ o ∈ outs, o.s.asm = s.asm) ∧ ∀ o ∈ l, ∃ o' ∈ outs, LessOr s o o' := by
  unfold mergeR at h
  split at h
  case h_2 => cases h
  rename_i rs hrs
  cases h
  refine ⟨fun o ho => ?_, fun o ho => ?_⟩
  · obtain ⟨x, _, rfl⟩ := List.mem_map.1 ho
    rfl
  · obtain ⟨y, hy, e⟩ := renL_spec hrs (numS s.nx o) (List.mem_map.2 ⟨o, ho, rfl⟩)
    obtain ⟨τ, q1, q2, q3, q4, q5⟩ := renG_spec rebuild_get e
    exact ⟨_, List.mem_map.2 ⟨y, dedup_mem _ _ hy, rfl⟩, .inr ⟨τ, (by show s.nx ≤ s.nx + _ + 1; omega), q1, q2, q3, q4, q5⟩⟩
theorem mergeS_spec {s : CSt} {l outs : List Out} (h : mergeS s l = some outs) :
    (∀ o ∈ l, o.s.asm.length = s.asm.length) ∧ (∀ o ∈ outs, o.s.asm = s.asm) ∧ (∀ o ∈ l, ∃ o' ∈ outs, LessOr s o o') ∧ ∀ o ∈ l, ∀ m, m < s.nx → isLoop (o.s.ht.get m) = false := by
  unfold mergeS at h
  split at h
  case isFalse => cases h
  rename_i hl
  have hl2 : ∀ o ∈ l, o.s.asm.length = s.asm.length ∧ noLoops o.s.ht s.nx = true := fun o ho => by simpa using List.all_eq_true.1 hl o ho
  have hC := mergeC_spec (s := s) (l := l)
  have key : (∀ o ∈ outs, o.s.asm = s.asm) ∧ (∀ o ∈ l, ∃ o' ∈ outs, LessOr s o o') := by
    split at h
    · rename_i e; cases h; rw [e] at hC; exact hC
    · rename_i e; cases h; rw [e] at hC; exact hC
    · split at h
      · rename_i r hr
        cases h
        exact mergeR_spec hr
      · cases h
        exact hC
  exact ⟨fun o ho => (hl2 o ho).1, key.1, key.2, fun o ho => noLoops_spec _ (hl2 o ho).2⟩
theorem rangeS_grew {rc : RecS} {g : Operand} {ps : Array Tmp} {asg body : Code} {s : CSt} {outs : List Out} (hrc : ∀ job s outs, rc job s = some outs → GrewN s outs) (h : rangeS rc g ps asg body s = some outs) : GrewN s outs := by
  unfold rangeS at h
  split at h
  case h_2 => cases h
  rw [Bool.cond_eq_ite] at h
  split at h
  case isFalse => cases h
  refine thenS_grew h (fun l hl => by have q := hrc _ _ _ hl; exact q) (fun l hl o ho a ha => ?_)
  split at ha
  case h_2 => cases ha
  split at ha
  · cases ha
  · split at ha
    · cases ha; exact .one (t := []) rfl
    · have q := hrc _ _ _ ha; exact q
theorem roundS_grew {rc : RecS} {k : Nat} {args : List Value} {s : CSt} {outs : List Out} (hrc : ∀ job s outs, rc job s = some outs → GrewN s outs) (h : roundS rc k args s = some outs) : GrewN s outs := by
  unfold roundS at h
  split at h
  case h_2 => cases h
  split at h
  case h_2 => cases h
  refine thenS_grew h (fun l hl => by have q := hrc _ _ _ hl; exact q) (fun l hl o ho a ha => ?_)
  split at ha
  case h_2 => cases ha
  split at ha
  case h_2 => cases ha
  refine thenS_grew ha (fun l hl => by have q := hrc _ _ _ hl; exact q) (fun l hl q hq b hb => ?_)
  split at hb
  case h_2 => cases hb
  cases hb
  exact .one (t := []) rfl
theorem execS_grew : ∀ (n : Nat) (job : SJob) (s : CSt) (outs : List Out), execS P xs ov n job s = some outs → GrewN s outs := by
  intro n
  induction n with
  | zero => intro job s outs h; simp [execS, codeS] at h
  | succ n ih =>
    intro job s outs h
    cases job with
    | code c =>
      cases c with
      | skip => simp only [execS, codeS, loopS, scopeS, opsS, dopsS, xbrS, callS, Option.some.injEq] at h; subst h; exact .one (t := []) rfl
      | label l => simp only [execS, codeS, loopS, scopeS, opsS, dopsS, xbrS, callS, Option.some.injEq] at h; subst h; exact .one (t := []) rfl
      | exit id => simp only [execS, codeS, loopS, scopeS, opsS, dopsS, xbrS, callS, Option.some.injEq] at h; subst h; exact .one (t := []) rfl
      | goto l => simp only [execS, codeS, loopS, scopeS, opsS, dopsS, xbrS, callS, Option.some.injEq] at h; subst h; exact .one (t := []) rfl
      | ret => simp only [execS, codeS, loopS, scopeS, opsS, dopsS, xbrS, callS, Option.some.injEq] at h; subst h; exact .one (t := []) rfl
      | seq a b =>
        simp only [execS, codeS, loopS, scopeS, opsS, dopsS, xbrS, callS] at h
        refine thenS_grew h (fun l hl => ih _ _ _ hl) (fun l hl o ho a ha => ?_)
        split at ha
        · exact ih _ _ _ ha
        · cases ha; exact .one (t := []) rfl
      | cond c a b =>
        simp only [execS, codeS, loopS, scopeS, opsS, dopsS, xbrS, callS] at h
        split at h
        · exact ih _ _ _ h
        · exact ih _ _ _ h
        · cases h
      | block id c =>
        simp only [execS, codeS, loopS, scopeS, opsS, dopsS, xbrS, callS] at h
        refine thenS_grew h (fun l hl => ih _ _ _ hl) (fun l hl o ho a ha => ?_)
        split at ha
        · split at ha
          · cases ha; exact .one (t := []) rfl
          · cases ha; exact .one (t := []) rfl
        · cases ha; exact .one (t := []) rfl
      | loop c => simp only [execS, codeS, loopS, scopeS, opsS, dopsS, xbrS, callS] at h; exact ih _ _ _ h
      | scope b => simp only [execS, codeS, loopS, scopeS, opsS, dopsS, xbrS, callS] at h; exact ih _ _ _ h
      | region id ops draw =>
        simp only [execS, codeS, loopS, scopeS, opsS, dopsS, xbrS, callS] at h
        split at h
        · split at h
          · split at h
            · have q := nextX_grew h (fun z hz => ih _ _ _ hz); exact q
            · cases h
          · split at h
            · split at h
              · split at h
                · rename_i o hd
                  cases h
                  obtain ⟨_, g⟩ := ih _ _ _ hd
                  obtain ⟨t, e⟩ := g o (List.mem_singleton.2 rfl)
                  exact .one (t := t) e
                · cases h
              · split at h
                · rename_i o hd
                  split at h
                  · cases h
                    obtain ⟨_, g⟩ := ih _ _ _ hd
                    obtain ⟨t, e⟩ := g o (List.mem_singleton.2 rfl)
                    exact .one (t := t) e
                  · have q := nextX_grew h (fun z hz => ih _ _ _ hz); exact q
                · cases h
            · cases h
        · exact ih _ _ _ h
      | rangeFunc g ps asg body =>
        simp only [execS, codeS] at h
        exact rangeS_grew ih h
      | _ => simp [execS, codeS] at h
    | loop c =>
      simp only [execS, codeS, loopS, scopeS, opsS, dopsS, xbrS, callS] at h
      refine thenS_grew h (fun l hl => ih _ _ _ hl) (fun l hl o ho a ha => ?_)
      split at ha
      · exact ih _ _ _ ha
      · cases ha; exact .one (t := []) rfl
    | scope b c =>
      simp only [execS, codeS, loopS, scopeS, opsS, dopsS, xbrS, callS] at h
      refine thenS_grew h (fun l hl => ih _ _ _ hl) (fun l hl o ho a ha => ?_)
      split at ha
      · split at ha
        · exact ih _ _ _ ha
        · cases ha; exact .one (t := []) rfl
      · cases ha; exact .one (t := []) rfl
    | ops ops l =>
      cases l with
      | nil => simp only [execS, codeS, loopS, scopeS, opsS, dopsS, xbrS, callS, Option.some.injEq] at h; subst h; exact .one (t := []) rfl
      | cons o l =>
        simp only [execS, codeS, loopS, scopeS, opsS, dopsS, xbrS, callS, Bool.cond_eq_ite] at h
        split at h
        case isFalse => cases h
        split at h
        · split at h
          · split at h
            · split at h
              · have q := ih _ _ _ h; exact q
              · cases h
            · split at h
              · split at h
                · have q := ih _ _ _ h; exact q
                · cases h
              · exact thenS_grew h (fun l hl => ih _ _ _ hl) (fun l hl r hr a ha => by have q := ih _ _ _ ha; exact q)
          · split at h
            · split at h
              · rename_i rs hrs
                obtain ⟨a, b⟩ := bindA_grew (s := s) h (fun r hr a ha => by have q := ih _ _ _ ha; exact q)
                exact ⟨a (aNexts_ne hrs), b⟩
              · cases h
            · split at h
              · have q := ih _ _ _ h; exact q
              · cases h
        · have q := ih _ _ _ h; exact q
    | dops ops l =>
      cases l with
      | nil => simp only [execS, codeS, loopS, scopeS, opsS, dopsS, xbrS, callS, Option.some.injEq] at h; subst h; exact .one (t := []) rfl
      | cons o l =>
        have one : ∀ {s1 : CSt} {q : Out} {x : AExit} {v : Value} {tr : List DTr}, GrewN s1 [q] → (∃ t, s1.asm = t ++ s.asm) → GrewN s [⟨x, v, q.s, tr⟩] := by
          intro s1 q x v tr ⟨_, g⟩ ⟨t, e⟩
          obtain ⟨t', e'⟩ := g q (List.mem_singleton.2 rfl)
          exact .one (t := t' ++ t) (by show q.s.asm = _; rw [e', e, List.append_assoc])
        simp only [execS, codeS, loopS, scopeS, opsS, dopsS, xbrS, callS] at h
        split at h
        case isFalse => cases h
        split at h
        · split at h
          · split at h
            · rename_i r hcall
              split at h
              · rename_i q hrest
                cases h
                exact one (ih _ _ _ hrest) ((ih _ _ _ hcall).2 r (List.mem_singleton.2 rfl))
              · cases h
            · cases h
          · split at h
            · split at h
              · rename_i q hrest
                cases h
                exact one (ih _ _ _ hrest) ⟨[], rfl⟩
              · cases h
            · cases h
        · split at h
          · rename_i q hrest
            cases h
            exact one (ih _ _ _ hrest) ⟨[], rfl⟩
          · cases h
    | xbr ops es r =>
      simp only [execS, codeS, loopS, scopeS, opsS, dopsS, xbrS, callS] at h
      split at h
      case isFalse => cases h
      split at h
      · split at h
        · cases h; exact .one (t := []) rfl
        · cases h
      · rename_i rs hrs
        obtain ⟨a, b⟩ := bindA_grew (s := s) h (fun e he a ha => by
          split at ha
          case h_2 => cases ha
          split at ha
          case isFalse => cases ha
          split at ha
          · split at ha
            · refine thenS_grew ha (fun l hl => ih _ _ _ hl) (fun l hl r hr a ha => ?_)
              have q := nextX_grew ha (fun z hz => ih _ _ _ hz)
              exact q
            · split at ha
              · have q := nextX_grew ha (fun z hz => ih _ _ _ hz)
                exact q
              · cases ha
          · have q := nextX_grew ha (fun z hz => ih _ _ _ hz)
            exact q)
        exact ⟨a (fun q => hrs q), b⟩
    | call f args =>
      simp only [execS, codeS, loopS, scopeS, opsS, dopsS, xbrS, callS] at h
      split at h
      · rename_i v hv
        cases h
        exact .one (t := [(f, args, v)]) rfl
      · rw [Bool.cond_eq_ite] at h
        split at h
        · exact roundS_grew ih h
        split at h
        case h_2 => cases h
        split at h
        case h_2 => cases h
        split at h
        case h_2 => cases h
        rename_i l hl
        obtain ⟨g1, g2⟩ := ih _ _ _ hl
        split at h
        · rename_i o ho
          cases h
          obtain ⟨_, _, r3⟩ := resL_spec ho
          obtain ⟨o1, m1, e1⟩ := r3 o (List.mem_singleton.2 rfl)
          obtain ⟨t, e⟩ := g2 o1 m1
          exact .one (t := t) (by rw [(resS_spec e1).2.2]; exact e)
        · rename_i l2 _ hl2
          obtain ⟨r1, r2, r3⟩ := resL_spec hl2
          split at h
          case h_2 =>
            cases h
            refine ⟨r1 g1, fun o ho => ?_⟩
            obtain ⟨o1, ho1, e1⟩ := r3 o ho
            rw [(resS_spec e1).2.2]
            exact g2 o1 ho1
          rename_i m hm
          cases h
          obtain ⟨m1, m2, m3, m4⟩ := mergeS_spec hm
          refine ⟨?_, fun o ho => ⟨[], m2 o ho⟩⟩
          intro e
          subst e
          have : l2 = [] := by
            cases l2 with
            | nil => rfl
            | cons x l2 => obtain ⟨_, q, _⟩ := m3 x (List.mem_cons_self ..); cases q
          exact r1 g1 this
        · cases h
theorem Rnd.more {c : Code} {Q Q' : AExit → ASt → Prop} (hq : ∀ x s, Q x s → Q' x s) : ∀ (n m : Nat) (st : ASt), n ≤ m → Rnd P W0 c Q n st → Rnd P W0 c Q' m st := by
  intro n
  induction n with
  | zero => intro m st _ h; exact h.elim
  | succ n ih =>
    intro m st hm h
    obtain ⟨m, rfl⟩ : ∃ k, m = k + 1 := ⟨m - 1, by omega⟩
    refine Trip.mono h ?_
    intro e s hs
    cases e with
    | normal => exact ih m s (by omega) hs
    | exit id => exact hq _ _ hs
    | goto l => exact hq _ _ hs
    | ret => exact hq _ _ hs
theorem Scp.more {b : Code} {Q Q' : AExit → ASt → Prop} (hq : ∀ x s, Q x s → Q' x s) : ∀ (n m : Nat) (c : Code) (st : ASt), n ≤ m → Scp P W0 b Q n c st → Scp P W0 b Q' m c st := by
  intro n
  induction n with
  | zero => intro m c st _ h; exact h.elim
  | succ n ih =>
    intro m c st hm h
    obtain ⟨m, rfl⟩ : ∃ k, m = k + 1 := ⟨m - 1, by omega⟩
    refine Trip.mono h ?_
    intro e s hs
    cases e with
    | normal => exact hq _ _ hs
    | exit id => exact hq _ _ hs
    | ret => exact hq _ _ hs
    | goto l =>
      simp only at hs ⊢
      split
      · rename_i rest hf; rw [hf] at hs; exact ih m _ s (by omega) hs
      · rename_i hf; rw [hf] at hs; exact hq _ _ hs
theorem exMax {α : Type} {R : α → Nat → Prop} (hm : ∀ a n m, n ≤ m → R a n → R a m) : ∀ (l : List α), (∀ a ∈ l, ∃ k, R a k) → ∃ K, ∀ a ∈ l, R a K := by
  intro l
  induction l with
  | nil => intro _; exact ⟨0, fun a h => by cases h⟩
  | cons x l ih =>
    intro h
    obtain ⟨k, hk⟩ := h x (List.mem_cons_self ..)
    obtain ⟨K, hK⟩ := ih (fun a ha => h a (List.mem_cons_of_mem _ ha))
    refine ⟨max k K, fun a ha => ?_⟩
    rcases List.mem_cons.1 ha with rfl | ha
    · exact hm _ _ _ (by omega) hk
    · exact hm _ _ _ (by omega) (hK a ha)
theorem Ops.mono {ops : Array Oper} {l : List Nat} {st : ASt} {Q Q' : ASt → Prop} (h : Ops P W0 ops l st Q) (hq : ∀ s, Q s → Q' s) : Ops P W0 ops l st Q' := fun ρ C a w hr hs =>
  wpOpsIn_mono' (fun _ _ _ ⟨x, s, C', h1, ⟨h2, h3⟩, h4⟩ => ⟨x, s, C', h1, ⟨h2, hq _ h3⟩, h4⟩) _ _ _ _ (h ρ C a w hr hs)
theorem Ops.nexts {ops : Array Oper} {i : Nat} {l : List Nat} {o : Oper} {st : ASt} {it : Value} {rs : List (Value × Eff)} {Q : ASt → Prop} (ho : ops[i]? = some o) (hw : wants ops st o = true) (hd : dstOk st o = true)
    (hop : nextOf st o = some it) (hn : aNexts st.H it = some rs) (h : ∀ r ∈ rs, Ops P W0 ops l (st.put o.dst r.1 r.2) Q) : Ops P W0 ops (i :: l) st Q := by
  intro ρ C a w hr hs
  simp only [wpOpsIn, ho, wants_sound hs ops o, hw, if_true]
  refine ⟨fun _ _ => trivial, ?_⟩
  unfold nextOf at hop
  split at hop
  case h_2 => cases hop
  rename_i x hx
  obtain ⟨⟨v, e⟩, hrr, hsnd⟩ := aNexts_sound (P := P) (ty := o.type) hs.rel hn (hs.ev x it hop)
  obtain ⟨n, v', w', C', hrun, hnn, hR, hS, hv⟩ := hsnd.toN
  have hs' := hs.put (dst := o.dst) (dstOk_spec hd) hR hS hv
  have hnext : wpOpsIn (rf ρ) 0 P ops (Post W0 C st a.defers fun e s => e = .normal ∧ Q s) l (a.put o.dst v') w' :=
    Post.ops (st1 := st.put o.dst v e) (df := a.defers) hS rfl (.of_eq (put_defers a o.dst v')) l ops _ w' (h (v, e) hrr ρ C' _ w' (hr.next hS) hs')
  have hrun' : (o.semAt (rf ρ).round a.eval).run P w = .ok n w' := by
    rw [Oper.semAt_eq _ a.eval o (fun d hd => by rw [hx] at hd; cases hd)]
    simp only [execOp, hx]
    exact hrun
  rw [hrun']
  rcases hnn with rfl | ⟨rfl, rfl⟩
  · exact hnext
  · exact hnext
theorem Ops.callG {ops : Array Oper} {i : Nat} {l : List Nat} {o : Oper} {st : ASt} {f : FuncId} {args : List Value} {R : Value → Nat → Heap → Prop} {Q : ASt → Prop} (ho : ops[i]? = some o) (hw : wants ops st o = true) (hd : dstOk st o = true)
    (hc : calleeG st.ev o = some (f, args)) (hcall : GCalls P W0 f args st.nx st.H R)
    (h : ∀ v nx' H', R v nx' H' → Ops P W0 ops l ⟨tmPut st.tm o.dst v, st.n, H', nx'⟩ Q) : Ops P W0 ops (i :: l) st Q := by
  intro ρ C a w hr hs
  simp only [wpOpsIn, ho, wants_sound hs ops o, hw, if_true]
  refine hcall.wp hs (fun _ _ h => h) (dstOk_spec hd) hc ?_
  intro v v' C' nx' H' w'' hq hs' hS
  exact Post.ops (st1 := ⟨tmPut st.tm o.dst v, st.n, H', nx'⟩) hS rfl (.of_eq (put_defers a o.dst v')) l ops _ w'' (h v nx' H' hq ρ C' _ w'' (hr.next hS) hs')
theorem less_core {C C' : Corr} {nx nx1 nx2 : Nat} {H H1 H2 : Heap} {w' : World} {v v' : Value} (hR1 : Rel W0 C' nx1 H1 w') (hvr : VR nx1 H1 C' v v') (hS : Stp nx H C nx1 H1 C') (hle : nx1 ≤ nx2) (hsub : ∀ m x, H2 m = some x → H1 m = some x)
    (hlp : ∀ m, m < nx → isLoop (H1 m) = true → isLoop (H2 m) = true) : Rel W0 C' nx2 H2 w' ∧ VR nx2 H2 C' v v' ∧ Stp nx H C nx2 H2 C' := by
  have hst : Stp0 nx1 H1 C' nx2 H2 C' := ⟨hle, fun id o' _ ho' _ => ⟨o', hsub id o' ho', rfl, rfl, rfl, rfl⟩⟩
  refine ⟨⟨hR1.below, fun id o ho => ?_, fun id o ho => (hR1.obj id o (hsub id o ho)).mono0 hst rfl rfl rfl, fun id o ho => hR1.own id o (hsub id o ho),
    fun i j oi oj hi hj => hR1.sep i j oi oj (hsub i oi hi) (hsub j oj hj), hR1.pin, Nat.le_trans hR1.base hle, fun g o hg ho => hR1.glob g o hg (hsub g o ho), fun id o ho => hR1.apin id o (hsub id o ho)⟩, hvr.mono0 hst, ⟨hS.toStp0.trans hst, hS.pin, fun id hid hl => ?_⟩⟩
  · obtain ⟨a, b⟩ := hR1.lt id o (hsub id o ho)
    exact ⟨Nat.lt_of_lt_of_le a hle, fun t ht => Nat.lt_of_lt_of_le (b t ht) hle⟩
  · obtain ⟨a, b⟩ := hS.fix id hid hl
    exact ⟨hlp id hid a, b⟩
theorem ACalls.less {f : FuncId} {args : List Value} {nx : Nat} {H : Heap} {Q Q' : Value → Nat → Heap → Prop} (h : ACalls P W0 f args nx H Q)
    (hq : ∀ v nx1 H1, Q v nx1 H1 → ∃ nx2 H2, nx1 ≤ nx2 ∧ (∀ m x, H2 m = some x → H1 m = some x) ∧ (∀ m, m < nx → isLoop (H1 m) = true → isLoop (H2 m) = true) ∧ Q' v nx2 H2) : ACalls P W0 f args nx H Q' := by
  intro C w args' hR ha
  refine (h C w args' hR ha).mono ?_
  rintro e w' ⟨v, v', C', nx1, H1, he, hv, hR1, hvr, hS⟩
  obtain ⟨nx2, H2, hle, hsub, hlp, hq'⟩ := hq v nx1 H1 hv
  obtain ⟨a, b, c⟩ := less_core hR1 hvr hS hle hsub hlp
  exact ⟨v, v', C', nx2, H2, he, hq', a, b, c⟩
theorem ACalls.lessOr {f : FuncId} {args : List Value} {nx : Nat} {H : Heap} {Q Q' : Value → Nat → Heap → Prop} (h : ACalls P W0 f args nx H Q)
    (hq : ∀ v nx1 H1, Q v nx1 H1 → (∃ nx2 H2, nx1 ≤ nx2 ∧ (∀ m x, H2 m = some x → H1 m = some x) ∧ (∀ m, m < nx → isLoop (H1 m) = true → isLoop (H2 m) = true) ∧ Q' v nx2 H2) ∨
      ∃ v2 n2 G2 τ, nx ≤ n2 ∧ eqVn H1 G2 τ n2 8 v v2 = true ∧ (∀ j p, G2 j = some p → j < n2 ∧ ∃ o, H1 (τ j) = some o ∧ eqOn H1 G2 τ n2 o p = true) ∧
        (∀ i j pi pj, G2 i = some pi → G2 j = some pj → τ i = τ j → i = j) ∧ (∀ j, j < nx → τ j = j) ∧ (∀ j p o, j < nx → G2 j = some p → H1 j = some o → p.tag = o.tag ∨ ∃ t, p.tag = some t ∧ nx ≤ t) ∧
        (∀ m, m < nx → isLoop (H1 m) = false) ∧ Q' v2 n2 G2) : ACalls P W0 f args nx H Q' := by
  refine ACalls.less (Q := fun v n1 H1 => (∃ nx2 H2, n1 ≤ nx2 ∧ (∀ m x, H2 m = some x → H1 m = some x) ∧ (∀ m, m < nx → isLoop (H1 m) = true → isLoop (H2 m) = true) ∧ Q' v nx2 H2) ∨ Q' v n1 H1) (h.renum fun v n1 G1 hv => ?_) (fun v n1 H1 hv => ?_)
  · rcases hq v n1 G1 hv with q | ⟨v2, n2, G2, τ, q1, q2, q3, q4, q5, q6, q7, q8⟩
    · exact .inl (.inl q)
    · exact .inr ⟨v2, n2, G2, τ, q1, q2, q3, q4, q5, q6, q7, .inr q8⟩
  · rcases hv with q | q
    · exact q
    · exact ⟨n1, H1, Nat.le_refl _, fun _ _ h => h, fun _ _ h => h, q⟩
theorem AYields.mono {l : Nat} {args : List Value} {nx : Nat} {H : Heap} {Q Q' : Value → Nat → Heap → Prop} (h : AYields P W0 l args nx H Q) (hq : ∀ v n h, Q v n h → Q' v n h) : AYields P W0 l args nx H Q' := by
  intro C w args' hR ha
  obtain ⟨fn, tmps, asg, body, h1, h2⟩ := h C w args' hR ha
  exact ⟨fn, tmps, asg, body, h1, h2.mono fun e w' ⟨v, v', C', nx1, H1, he, hv, r⟩ => ⟨v, v', C', nx1, H1, he, hq _ _ _ hv, r⟩⟩
theorem ACalls.mono {f : FuncId} {args : List Value} {nx : Nat} {H : Heap} {Q Q' : Value → Nat → Heap → Prop} (h : ACalls P W0 f args nx H Q) (hq : ∀ v n h, Q v n h → Q' v n h) : ACalls P W0 f args nx H Q' := by
  intro C w args' hR ha
  exact (h C w args' hR ha).mono fun e w' ⟨v, v', C', nx1, H1, he, hv, r⟩ => ⟨v, v', C', nx1, H1, he, hq _ _ _ hv, r⟩
theorem GCalls.mono {f : FuncId} {args : List Value} {nx : Nat} {H : Heap} {Q Q' : Value → Nat → Heap → Prop} (h : GCalls P W0 f args nx H Q) (hq : ∀ v n h, Q v n h → Q' v n h) : GCalls P W0 f args nx H Q' := by
  rcases h with ⟨a, b, c⟩ | ⟨l, a, b, c⟩
  · exact .inl ⟨a, b, c.mono hq⟩
  · exact .inr ⟨l, a, b, c.mono hq⟩
theorem Enters.lt {f : FuncId} (h : Enters P f) (hsm : P.funcs.size ≤ YB) : f < YB := by
  obtain ⟨fn, h, _⟩ := h
  exact Nat.lt_of_lt_of_le (Array.getElem?_eq_some_iff.1 h).1 hsm
theorem told_of_grew {s : CSt} {a outs : List Out} (hg : GrewN s a) (hm : ∀ x ∈ a, x ∈ outs) (hA : ∀ o ∈ outs, ∀ x ∈ o.s.asm, AsTold P W0 x) : ∀ x ∈ s.asm, AsTold P W0 x := by
  obtain ⟨g1, g2⟩ := hg
  obtain ⟨o, ho⟩ : ∃ o, o ∈ a := by
    cases a with
    | nil => exact absurd rfl g1
    | cons o a => exact ⟨o, List.mem_cons_self ..⟩
  obtain ⟨t, e⟩ := g2 o ho
  exact fun x hx => hA o (hm o ho) x (by rw [e]; exact List.mem_append.2 (.inr hx))
theorem nextX_spec {ops : Array Oper} {es : List Nat} {y : XSt} {k : XSt → Option (List Out)} {outs : List Out} (h : nextX P ops es y k = some outs) : ∃ z, closeX P ops es 0 ops.toList y = some z ∧ k z = some outs := by
  unfold nextX at h
  split at h
  · rename_i z hz; exact ⟨z, hz, h⟩
  · cases h
theorem stableX_spec {ops : Array Oper} {es : List Nat} {x : XSt} (h : stableX P ops es x = true) {i : Nat} {o : Oper} {rc : XRec} (ho : ops[i]? = some o) (hr : x.r[i]? = some (some rc)) (hes : es.contains i = false) (hw : wantsT ops rc.s.tm o = true)
    (hno : ∀ (e : Nat) (oe : Oper), es.contains e = true → x.has e = true → ops[e]? = some oe → ¬ dep oe i) : aop P x.s.ht.get x.s.nx (evR (opTs o) rc.s.tm) o = some (rc.v, .none) := by
  have := allIdx_spec _ 0 h i o (by simpa using ho)
  simp only [Nat.zero_add, hes, Bool.false_or, hr, hw, Bool.not_true, Bool.or_eq_true] at this
  rcases this with this | this
  · exfalso
    rw [List.any_eq_true] at this
    obtain ⟨e, he, hh⟩ := this
    simp only [Bool.and_eq_true] at hh
    obtain ⟨h1, h2⟩ := hh
    cases hoe : ops[e]? with
    | none => simp [hoe] at h2
    | some oe =>
      simp only [hoe] at h2
      exact hno e oe (List.contains_iff_mem.2 he) h1 hoe (depB_iff.1 h2)
  · exact sameAns_spec this
section
variable {ops : Array Oper} {es : List Nat} {st0 : ASt} {x : XSt}
theorem count_set {listed : Array Bool} {n i fuel : Nat} (hlt : i < n) (hlts : i < listed.size) (hun : listed.getD i false = false) (hf : ((List.range n).filter fun i => !listed.getD i false).length = fuel + 1) :
    ((List.range n).filter fun j => !(listed.setIfInBounds i true).getD j false).length = fuel := by
  have key : ∀ (l : List Nat), l.Nodup → i ∈ l → ((l.filter fun j => !(listed.setIfInBounds i true).getD j false).length + 1 = (l.filter fun j => !listed.getD j false).length) := by
    intro l
    induction l with
    | nil => intro _ hm; cases hm
    | cons x l ihl =>
      intro hnd hm
      rw [List.nodup_cons] at hnd
      by_cases e : x = i
      · subst e
        have hsame : (l.filter fun j => !(listed.setIfInBounds x true).getD j false) = (l.filter fun j => !listed.getD j false) := by
          apply List.filter_congr
          intro y hy
          rw [getD_set_ne false (fun z : x = y => hnd.1 (by rw [z]; exact hy))]
        rw [List.filter_cons, List.filter_cons]
        simp only [getD_set_self hlts, hun, Bool.not_true, Bool.not_false, Bool.false_eq_true, if_false, if_true, List.length_cons, hsame]
      · have hm' : i ∈ l := by
          cases hm with
          | head => exact absurd rfl e
          | tail _ hm => exact hm
        have := ihl hnd.2 hm'
        rw [List.filter_cons, List.filter_cons, getD_set_ne false (Ne.symm e)]
        split
        · simp only [List.length_cons]; omega
        · exact this
  have := key (List.range n) List.nodup_range (List.mem_range.2 hlt)
  omega
theorem XInv.down_set {listed : Array Bool} {tm : Nat → Value} (h : XInv ops es st0 x listed tm) {i : Nat} {o : Oper} (ho : ops[i]? = some o) (hall : ∀ j, dep o j → listed.getD j false = true) :
    ∀ (k : Nat) (ok : Oper), ops[k]? = some ok → (listed.setIfInBounds i true).getD k false = true → ∀ j, dep ok j → (listed.setIfInBounds i true).getD j false = true := by
  intro k ok hok hk j hj
  apply getD_set_true
  by_cases e : i = k
  · subst e
    rw [ho] at hok
    cases hok
    exact hall j hj
  · rw [getD_set_ne false e] at hk
    exact h.down k ok hok hk j hj
theorem XInv.reads (hst : statOk ops = true) (hp : XPre ops es st0 x) {listed : Array Bool} {tm : Nat → Value} (h : XInv ops es st0 x listed tm) {i : Nat} {o : Oper} (ho : ops[i]? = some o) (hun : listed.getD i false = false)
    (hall : ∀ j, dep o j → listed.getD j false = true) {t : Tmp} (ht : t ∈ opTs o ∨ gdst ops o = some t) :
    (∀ rc, x.r[i]? = some (some rc) → rc.s.tm t = tm t) ∧ (x.has i = false → x.s.tm t = tm t) := by
  obtain ⟨hlex, hone, hread⟩ := statOk_spec hst
  by_cases hw : ∃ (j : Nat) (oj : Oper), ops[j]? = some oj ∧ oj.dst = some t ∧ dep o j
  · obtain ⟨j, oj, hj, hd, hdep⟩ := hw
    have hl := hall j hdep
    obtain ⟨rj, hrj⟩ := has_iff.1 (h.sub j hl)
    have e1 := h.put j oj t rj hj hd hl hrj
    refine ⟨fun rc hr => ?_, fun _ => ?_⟩
    · rw [(hp.snap i o rc t ho hr ht).1 j oj rj hj hd hdep hrj, e1]
    · rw [hp.val j oj t rj hj hrj hd, e1]
  · have hnd : ∀ (j : Nat) (oj : Oper), ops[j]? = some oj → oj.dst = some t → ¬ dep o j := fun j oj hj hd hdep => hw ⟨j, oj, hj, hd, hdep⟩
    have e0 : tm t = st0.tm t := h.old t fun j oj hj hd => by
      cases hl : listed.getD j false with
      | false => rfl
      | true =>
        exfalso
        obtain ⟨r1, r2⟩ := hread i j o oj t ho hj ht hd
        have h1 : ¬ j < i := fun q => hnd j oj hj hd (r1 q)
        by_cases e : i = j
        · subst e; rw [hun] at hl; cases hl
        · have := h.down j oj hj hl i (r2 (by omega))
          rw [hun] at this
          cases this
    refine ⟨fun rc hr => ?_, fun hn => ?_⟩
    · rw [(hp.snap i o rc t ho hr ht).2 hnd, e0]
    · rw [hp.fresh hread ho hn ht hnd, e0]
theorem xpure (hst : statOk ops = true) (hstab : stableX P ops es x = true) (hp : XPre ops es st0 x) (hcl : XClosed ops es x) {ρ : Option Nat} {df : List Deferred} {C0 C : Corr} {Q : Exit → Act → World → Prop} {fuel : Nat} {listed : Array Bool} {tm : Nat → Value} {a : Act} {w : World}
    (hi : XInv ops es st0 x listed tm) (hf : ((List.range ops.size).filter fun i => !listed.getD i false).length = fuel + 1) (hs : SRel W0 C ⟨tm, st0.n, x.s.ht.get, x.s.nx⟩ a w) (hS : Stp st0.nx st0.H C0 x.s.nx x.s.ht.get C) (hdf : a.defers = df) {i : Nat} {o : Oper}
    (ho : ops[i]? = some o) (hun : listed.getD i false = false) (hall : ∀ j, dep o j → listed.getD j false = true) (hes : es.contains i = false)
    (hk : ∀ (tm' : Nat → Value) (C' : Corr) (a' : Act) (w' : World), XInv ops es st0 x (listed.setIfInBounds i true) tm' → ((List.range ops.size).filter fun j => !(listed.setIfInBounds i true).getD j false).length = fuel →
      SRel W0 C' ⟨tm', st0.n, x.s.ht.get, x.s.nx⟩ a' w' → Stp st0.nx st0.H C0 x.s.nx x.s.ht.get C' → a'.defers = df → wpAnyIn (rf ρ) 0 P .any ops Q fuel (listed.setIfInBounds i true) a' w') : wpOpIn (rf ρ) 0 P ops Q i (wpAnyIn (rf ρ) 0 P .any ops Q fuel (listed.setIfInBounds i true)) a w := by
  obtain ⟨hlex, hone, hread⟩ := statOk_spec hst
  have hlt : i < ops.size := (Array.getElem?_eq_some_iff.1 ho).1
  have hlts : i < listed.size := by rw [hi.size]; exact hlt
  have hhas : x.has i = true := hcl i o ho hes (fun k hk => hi.sub k (hall k hk))
  obtain ⟨rc, hr⟩ := has_iff.1 hhas
  have hrd := fun t ht => (hi.reads hst hp ho hun hall (t := t) ht).1 rc hr
  have hds : DStep P W0 ops tm st0.n x.s.ht.get x.s.nx o rc.v x.s.ht.get x.s.nx := by
    have hw : wantsT ops rc.s.tm o = wantsT ops tm o := wantsT_congr (fun d hd => hrd d (.inr hd))
    refine ⟨hp.fits i o ho hhas, ?_⟩
    cases hwt : wantsT ops tm o with
    | false => exact .inl ⟨rfl, hp.pure i o rc ho hr hes (by rw [hw, hwt]), rfl, rfl⟩
    | true =>
      refine .inr ⟨rfl, .inl ⟨.none, ?_, rfl, rfl⟩⟩
      rw [← evR_congr (fun t ht => hrd t (.inl ht))]
      refine stableX_spec hstab ho hr hes (by rw [hw, hwt]) ?_
      intro e oe he hhe hoe hd
      have := hi.down e oe hoe (hi.eff e he hhe) i hd
      rw [hun] at this
      cases this
  refine hds.wp hs ho ?_
  intro C' v' w' hs' hS'
  refine hk (tmPut tm o.dst rc.v) C' _ w' ⟨by simp [hi.size], hi.down_set ho hall, ?_, ?_, ?_, ?_⟩ (count_set hlt hlts hun hf) hs' (hS.trans hS') ((put_defers _ _ _).trans hdf)
  · intro k hk
    by_cases e : i = k
    · subst e; exact hhas
    · rw [getD_set_ne false e] at hk; exact hi.sub k hk
  · intro e he hhe
    exact getD_set_true (hi.eff e he hhe)
  · intro k ok d rk hok hd hk hrk
    by_cases e : i = k
    · subst e
      rw [ho] at hok
      cases hok
      rw [hr] at hrk
      cases hrk
      simp [tmPut, hd]
    · rw [getD_set_ne false e] at hk
      have := hi.put k ok d rk hok hd hk hrk
      cases hdo : o.dst with
      | none => simpa [tmPut] using this
      | some d' =>
        have hne : d ≠ d' := fun q => e (hone i k o ok d ho hok (by rw [hdo, q]) hd)
        simp only [tmPut, hne, if_false]
        exact this
  · intro t ht
    have hne : o.dst ≠ some t := fun q => by
      have := ht i o ho q
      rw [getD_set_self hlts] at this
      cases this
    have := hi.old t (fun k ok hok hd => by
      have := ht k ok hok hd
      by_cases e : i = k
      · subst e; exact hun
      · rwa [getD_set_ne false e] at this)
    cases hdo : o.dst with
    | none => simpa [tmPut] using this
    | some d' =>
      have hx : t ≠ d' := fun q => hne (by rw [hdo, q])
      simp only [tmPut, hx, if_false]
      exact this
theorem some_ready (hlex : ∀ (i : Nat) (o : Oper), ops[i]? = some o → ∀ j, dep o j → j < i) {listed : Array Bool} {fuel : Nat} (hsz : listed.size = ops.size) (hf : ((List.range ops.size).filter fun i => !listed.getD i false).length = fuel + 1) :
    ∃ i, i ∈ Region.ready .any ops listed := by
  have hex : ∃ i, i < ops.size ∧ listed.getD i false = false ∧ ∀ j, j < i → listed.getD j false = true := by
    have : ∃ i, i < ops.size ∧ listed.getD i false = false := by
      cases hl : (List.range ops.size).filter fun i => !listed.getD i false with
      | nil => rw [hl] at hf; simp at hf
      | cons i r =>
        have : i ∈ (List.range ops.size).filter fun i => !listed.getD i false := by rw [hl]; exact List.mem_cons_self ..
        obtain ⟨h1, h2⟩ := List.mem_filter.1 this
        exact ⟨i, List.mem_range.1 h1, by simpa using h2⟩
    obtain ⟨i, h1, h2⟩ := this
    induction i using Nat.strongRecOn with
    | _ i ihh =>
      by_cases hm : ∃ j, j < i ∧ listed.getD j false = false
      · obtain ⟨j, hj1, hj2⟩ := hm
        exact ihh j hj1 (by omega) hj2
      · refine ⟨i, h1, h2, fun j hj => ?_⟩
        cases hl : listed.getD j false with
        | true => rfl
        | false => exact absurd ⟨j, hj, hl⟩ hm
  obtain ⟨i, hlt, hun, hmin⟩ := hex
  have ho : ops[i]? = some ops[i] := by simp
  exact ⟨i, mem_ready.2 ⟨by rw [getD_lt (by rw [hsz]; exact hlt) true false]; exact hun, _, ho, fun e he hb => hmin _ (hlex i _ ho e.on ⟨e, he, hb, rfl⟩)⟩⟩
theorem xdone {s : CSt} {r : List (Option XRec)} (hst : statOk ops = true) (hrs : readyX ops es ⟨s, r⟩ = []) (hall : allIdx (fun i _ => XSt.has ⟨s, r⟩ i) 0 ops.toList = true) (hstab : stableX P ops es ⟨s, r⟩ = true) :
    XJob P W0 ops es ⟨s, r⟩ [⟨.normal, undef, s, []⟩] := by
  obtain ⟨hlex, hone, hread⟩ := statOk_spec hst
  intro st0 hp hcl ρ df C0 Q hq fuel
  have hhas : ∀ (i : Nat) (o : Oper), ops[i]? = some o → XSt.has ⟨s, r⟩ i = true := fun i o ho => by
    have := allIdx_spec _ 0 hall i o (by simpa using ho)
    simpa using this
  induction fuel with
  | zero =>
    intro listed tm C a w hi hf hs hS hdf
    have hl : ∀ i, i < ops.size → listed.getD i false = true := by
      intro i hlt
      cases hl : listed.getD i false with
      | true => rfl
      | false =>
        have : i ∈ (List.range ops.size).filter fun i => !listed.getD i false := List.mem_filter.2 ⟨List.mem_range.2 hlt, by rw [hl]; rfl⟩
        rw [List.length_eq_zero_iff.1 hf] at this
        cases this
    refine ⟨?_, ?_⟩
    · cases hr : Region.ready .any ops listed with
      | nil => rfl
      | cons j q =>
        have hj : j ∈ Region.ready .any ops listed := by rw [hr]; exact List.mem_cons_self ..
        obtain ⟨h0, o, ho, _⟩ := mem_ready.1 hj
        have hlt : j < ops.size := (Array.getElem?_eq_some_iff.1 ho).1
        have := hl j hlt
        rw [getD_lt (by rw [hi.size]; exact hlt) false true, h0] at this
        cases this
    · refine hq _ (List.mem_singleton.2 rfl) C a w ?_ hp.n hS hdf
      have htm : tm = s.tm := by
        funext t
        by_cases hw : ∃ (j : Nat) (oj : Oper), ops[j]? = some oj ∧ oj.dst = some t
        · obtain ⟨j, oj, hj, hd⟩ := hw
          have hlt : j < ops.size := (Array.getElem?_eq_some_iff.1 hj).1
          obtain ⟨rj, hrj⟩ := has_iff.1 (hhas j oj hj)
          rw [hi.put j oj t rj hj hd (hl j hlt) hrj]
          exact (hp.val j oj t rj hj hrj hd).symm
        · rw [hi.old t (fun j oj hj hd => absurd ⟨j, oj, hj, hd⟩ hw)]
          exact (hp.old t (fun j oj hj hd => absurd ⟨j, oj, hj, hd⟩ hw)).symm
      have hn : s.n = st0.n := hp.n
      subst htm
      show SRel W0 C ⟨s.tm, s.n, s.ht.get, s.nx⟩ a w
      rw [hn]
      exact hs
  | succ fuel ih =>
    intro listed tm C a w hi hf hs hS hdf
    refine ⟨fun hr => ?_, fun i hir => ?_⟩
    · exfalso
      obtain ⟨i, hir⟩ := some_ready hlex hi.size hf
      rw [hr] at hir
      cases hir
    · obtain ⟨h0, o, ho, hall0⟩ := mem_ready.1 hir
      have hlt : i < ops.size := (Array.getElem?_eq_some_iff.1 ho).1
      have hlts : i < listed.size := by rw [hi.size]; exact hlt
      have hun : listed.getD i false = false := by rw [getD_lt hlts false true]; exact h0
      have hall1 : ∀ j, dep o j → listed.getD j false = true := fun j ⟨e, he, hb, hj⟩ => hj ▸ hall0 e he hb
      cases hes : es.contains i with
      | true =>
        have := hi.eff i hes (hhas i o ho)
        rw [hun] at this
        cases this
      | false => exact xpure hst hstab hp hcl hi hf hs hS hdf ho hun hall1 hes (fun tm' C' a' w' hi' hf' hs' hS' hdf' => ih _ tm' C' a' w' hi' hf' hs' hS' hdf')
def XAct (P : Program) (W0 : World) (ops : Array Oper) (es : List Nat) (x : XSt) (outs : List Out) (e : Nat) (o : Oper) : Prop :=
  dstOk x.s.st o = true ∧
  ((wantsT ops x.s.tm o = false ∧ ∃ z a, closeX P ops es 0 ops.toList (x.did e o undef x.s.ht x.s.nx x.s.asm) = some z ∧ (∀ o ∈ a, o ∈ outs) ∧ XJob P W0 ops es z a) ∨
   (wantsT ops x.s.tm o = true ∧
    ((∃ v ef z a, aop P x.s.ht.get x.s.nx (evR (opTs o) x.s.tm) o = some (v, ef) ∧ closeX P ops es 0 ops.toList (x.did e o v (ef.tree x.s.nx x.s.ht) (ef.nx x.s.nx) x.s.asm) = some z ∧ (∀ o ∈ a, o ∈ outs) ∧ XJob P W0 ops es z a) ∨
     (∃ f args R, calleeG (evR (opTs o) x.s.tm) o = some (f, args) ∧ GCalls P W0 f args x.s.nx x.s.ht.get R ∧
       ∀ v nx1 H1, R v nx1 H1 → ∃ ht asm z a, H1 = ht.get ∧ closeX P ops es 0 ops.toList (x.did e o v ht nx1 asm) = some z ∧ (∀ o ∈ a, o ∈ outs) ∧ XJob P W0 ops es z a))))
theorem wpOp_calls {ρ : Option Nat} {C : Corr} {tm : Nat → Value} {n : Nat} {H : Heap} {nx : Nat} {o : Oper} {f : FuncId} {args : List Value} {R : Value → Nat → Heap → Prop} {a : Act} {w : World} {i : Nat} {K : Act → World → Prop} {Q : Exit → Act → World → Prop}
    (hs : SRel W0 C ⟨tm, n, H, nx⟩ a w) (hd : ∀ d, o.dst = some d → d < n) (hw : wantsT ops tm o = true) (hc : calleeG (evR (opTs o) tm) o = some (f, args)) (hcall : GCalls P W0 f args nx H R) (ho : ops[i]? = some o)
    (hk : ∀ v n1 H1, R v n1 H1 → ∀ C' v' w', SRel W0 C' ⟨tmPut tm o.dst v, n, H1, n1⟩ (a.put o.dst v') w' → Stp nx H C n1 H1 C' → K (a.put o.dst v') w') : wpOpIn (rf ρ) 0 P ops Q i K a w := by
  have hww := wants_sound hs ops o
  rw [← wantsT_wants] at hww
  unfold wpOpIn
  rw [ho]
  simp only [hww, hw, if_true]
  exact hcall.wp hs (evR_ev _ _) hd hc (fun v v' C' nx' H' w' hr hs' hS => hk v nx' H' hr C' v' w' hs' hS)
theorem xinv_next (hst : statOk ops = true) (hp : XPre ops es st0 x) {listed : Array Bool} {tm : Nat → Value} (hi : XInv ops es st0 x listed tm) {i : Nat} {o : Oper} {v : Value} {ht : Tree AObj} {nx : Nat} {asm : Asm} {z : XSt}
    (ho : ops[i]? = some o) (hun : listed.getD i false = false) (hall : ∀ j, dep o j → listed.getD j false = true) (hes : es.contains i = true) (hd : dstOk x.s.st o = true)
    (hz : closeX P ops es 0 ops.toList (x.did i o v ht nx asm) = some z) :
    XPre ops es st0 z ∧ XClosed ops es z ∧ XInv ops es st0 z (listed.setIfInBounds i true) (tmPut tm o.dst v) ∧ z.s.ht = ht ∧ z.s.nx = nx := by
  obtain ⟨hlex, hone, hread⟩ := statOk_spec hst
  have hlt : i < ops.size := (Array.getElem?_eq_some_iff.1 ho).1
  have hlts : i < listed.size := by rw [hi.size]; exact hlt
  have hltr : i < x.r.length := by rw [hp.len]; exact hlt
  have hn : x.has i = false := by
    cases hh : x.has i with
    | false => rfl
    | true => have := hi.eff i hes hh; rw [hun] at this; cases this
  have hpre := hp.did (v := v) (ht := ht) (nx := nx) (asm := asm) hlex hone hread ho hn (fun j hj => hi.sub j (hall j hj)) (fun d hdd => by have := dstOk_spec hd d hdd; rw [← hp.n]; exact this) (fun q => by rw [hes] at q; cases q)
  obtain ⟨a1, a2, a3, a4, a5, a6, a7, a8⟩ := closeX_spec hlex hone hread ops.toList 0 _ z hz (by simp) hpre
  have hkeep : ∀ k rc, k ≠ i → x.r[k]? = some (some rc) → z.r[k]? = some (some rc) := fun k rc hk hr => a2 k rc (by rw [did_r hltr, if_neg hk]; exact hr)
  have hself : z.r[i]? = some (some ⟨x.s, v⟩) := a2 i _ (by rw [did_r hltr, if_pos rfl])
  refine ⟨a1, fun j oj hoj hej hdj => a8 j oj (Nat.zero_le _) hoj hej hdj, ⟨by simp [hi.size], hi.down_set ho hall, ?_, ?_, ?_, ?_⟩, a5, a6⟩
  · intro k hk
    by_cases e : i = k
    · subst e; exact has_iff.2 ⟨_, hself⟩
    · rw [getD_set_ne false e] at hk
      obtain ⟨rc, hr⟩ := has_iff.1 (hi.sub k hk)
      exact has_iff.2 ⟨rc, hkeep k rc (Ne.symm e) hr⟩
  · intro e he hhe
    rw [a3 e he, did_has hltr] at hhe
    by_cases q : e = i
    · subst q; exact getD_set_self hlts false
    · simp only [q, decide_false, Bool.false_or] at hhe
      exact getD_set_true (hi.eff e he hhe)
  · intro k ok d rk hok hdk hk hrk
    by_cases e : i = k
    · subst e
      rw [ho] at hok
      cases hok
      rw [hself] at hrk
      cases hrk
      simp [tmPut, hdk]
    · rw [getD_set_ne false e] at hk
      obtain ⟨rc, hr⟩ := has_iff.1 (hi.sub k hk)
      rw [hkeep k rc (Ne.symm e) hr] at hrk
      cases hrk
      have := hi.put k ok d _ hok hdk hk hr
      cases hdo : o.dst with
      | none => simpa [tmPut] using this
      | some d' =>
        have hne : d ≠ d' := fun q => e (hone i k o ok d ho hok (by rw [hdo, q]) hdk)
        simp only [tmPut, hne, if_false]
        exact this
  · intro t ht0
    have hne : o.dst ≠ some t := fun q => by
      have := ht0 i o ho q
      rw [getD_set_self hlts] at this
      cases this
    have := hi.old t (fun k ok hok hdk => by
      have := ht0 k ok hok hdk
      by_cases e : i = k
      · subst e; exact hun
      · rwa [getD_set_ne false e] at this)
    cases hdo : o.dst with
    | none => simpa [tmPut] using this
    | some d' =>
      have hx : t ≠ d' := fun q => hne (by rw [hdo, q])
      simp only [tmPut, hx, if_false]
      exact this
theorem xstep {outs : List Out} (hst : statOk ops = true) (hstab : stableX P ops es x = true) (hne : readyX ops es x ≠ [])
    (hact : ∀ (e : Nat) (o : Oper), e ∈ readyX ops es x → ops[e]? = some o → XAct P W0 ops es x outs e o) : XJob P W0 ops es x outs := by
  obtain ⟨hlex, hone, hread⟩ := statOk_spec hst
  intro st0 hp hcl ρ df C0 Q hq fuel
  induction fuel with
  | zero =>
    intro listed tm C a w hi hf hs hS hdf
    exfalso
    apply hne
    unfold readyX
    rw [List.filter_eq_nil_iff]
    intro e he hh
    simp only [Bool.and_eq_true, Bool.not_eq_true'] at hh
    obtain ⟨h1, h2⟩ := hh
    cases hoe : ops[e]? with
    | none => simp [hoe] at h2
    | some oe =>
      have hlt : e < ops.size := (Array.getElem?_eq_some_iff.1 hoe).1
      have hl : listed.getD e false = true := by
        cases hl : listed.getD e false with
        | true => rfl
        | false =>
          have : e ∈ (List.range ops.size).filter fun i => !listed.getD i false := List.mem_filter.2 ⟨List.mem_range.2 hlt, by rw [hl]; rfl⟩
          rw [List.length_eq_zero_iff.1 hf] at this
          cases this
      rw [hi.sub e hl] at h1
      cases h1
  | succ fuel ih =>
    intro listed tm C a w hi hf hs hS hdf
    refine ⟨fun hr => ?_, fun i hir => ?_⟩
    · exfalso
      obtain ⟨i, hir⟩ := some_ready hlex hi.size hf
      rw [hr] at hir
      cases hir
    · obtain ⟨h0, o, ho, hall0⟩ := mem_ready.1 hir
      have hlt : i < ops.size := (Array.getElem?_eq_some_iff.1 ho).1
      have hlts : i < listed.size := by rw [hi.size]; exact hlt
      have hun : listed.getD i false = false := by rw [getD_lt hlts false true]; exact h0
      have hall1 : ∀ j, dep o j → listed.getD j false = true := fun j ⟨e, he, hb, hj⟩ => hj ▸ hall0 e he hb
      cases hes : es.contains i with
      | false => exact xpure hst hstab hp hcl hi hf hs hS hdf ho hun hall1 hes (fun tm' C' a' w' hi' hf' hs' hS' hdf' => ih _ tm' C' a' w' hi' hf' hs' hS' hdf')
      | true =>
        have hn : x.has i = false := by
          cases hh : x.has i with
          | false => rfl
          | true => have := hi.eff i hes hh; rw [hun] at this; cases this
        have hdeps : depsIn o x = true := depsIn_iff.2 fun j hj => hi.sub j (hall1 j hj)
        have hmem : i ∈ readyX ops es x := List.mem_filter.2 ⟨List.contains_iff_mem.1 hes, by simp [hn, ho, hdeps]⟩
        have hrd := fun t ht => (hi.reads hst hp ho hun hall1 (t := t) ht).2 hn
        have hw : wantsT ops x.s.tm o = wantsT ops tm o := wantsT_congr (fun d hd => hrd d (.inr hd))
        have hev : evR (opTs o) x.s.tm = evR (opTs o) tm := evR_congr (fun t ht => hrd t (.inl ht))
        obtain ⟨hdo, hact⟩ := hact i o hmem ho
        have hdn : ∀ d, o.dst = some d → d < st0.n := fun d hdd => by have := dstOk_spec hdo d hdd; rw [← hp.n]; exact this
        have hcount := count_set hlt hlts hun hf
        rcases hact with ⟨hw0, z, a', hz, hsub, hj⟩ | ⟨hw1, hact⟩
        · have hds : DStep P W0 ops tm st0.n x.s.ht.get x.s.nx o undef x.s.ht.get x.s.nx := ⟨hdn, .inl ⟨by rw [← hw]; exact hw0, rfl, rfl, rfl⟩⟩
          refine hds.wp hs ho ?_
          intro C' v' w' hs' hS'
          obtain ⟨b1, b2, b3, b4, b5⟩ := xinv_next hst hp hi ho hun hall1 hes hdo hz
          refine hj st0 b1 b2 ρ df C0 Q (fun o ho => hq o (hsub o ho)) fuel _ _ C' _ w' b3 hcount ?_ ?_ ((put_defers _ _ _).trans hdf)
          · rw [b4, b5]; exact hs'
          · rw [b4, b5]; exact hS.trans hS'
        · rcases hact with ⟨v, ef, z, a', hop, hz, hsub, hj⟩ | ⟨f, args, R, hc, hcall, hR⟩
          · have hds : DStep P W0 ops tm st0.n x.s.ht.get x.s.nx o v (ef.tree x.s.nx x.s.ht).get (ef.nx x.s.nx) := ⟨hdn, .inr ⟨by rw [← hw]; exact hw1, .inl ⟨ef, by rw [← hev]; exact hop, Eff.tree_get ef x.s.nx x.s.ht, rfl⟩⟩⟩
            refine hds.wp hs ho ?_
            intro C' v' w' hs' hS'
            obtain ⟨b1, b2, b3, b4, b5⟩ := xinv_next hst hp hi ho hun hall1 hes hdo hz
            refine hj st0 b1 b2 ρ df C0 Q (fun o ho => hq o (hsub o ho)) fuel _ _ C' _ w' b3 hcount ?_ ?_ ((put_defers _ _ _).trans hdf)
            · rw [b4, b5]; exact hs'
            · rw [b4, b5]; exact hS.trans hS'
          · refine wpOp_calls hs hdn (by rw [← hw]; exact hw1) (by rw [← hev]; exact hc) hcall ho ?_
            intro v n1 H1 hr C' v' w' hs' hS'
            obtain ⟨ht, asm, z, a', rfl, hz, hsub, hj⟩ := hR v n1 H1 hr
            obtain ⟨b1, b2, b3, b4, b5⟩ := xinv_next hst hp hi ho hun hall1 hes hdo hz
            refine hj st0 b1 b2 ρ df C0 Q (fun o ho => hq o (hsub o ho)) fuel _ _ C' _ w' b3 hcount ?_ ?_ ((put_defers _ _ _).trans hdf)
            · rw [b4, b5]; exact hs'
            · rw [b4, b5]; exact hS.trans hS'
theorem xstart {id : Nat} {s : CSt} {outs : List Out} {k : XSt → Option (List Out)} (hm : P.follows .mixedOrders = true) (hst : statOk ops = true) (h : nextX P ops es ⟨s, List.replicate ops.size none⟩ k = some outs)
    (hk : ∀ z, k z = some outs → (∀ o ∈ outs, o.x = .normal) ∧ XJob P W0 ops es z outs) : Trip P W0 (.region id ops true) s.st fun x st' => ∃ o ∈ outs, x = o.x ∧ st' = o.s.st := by
  obtain ⟨hlex, hone, hread⟩ := statOk_spec hst
  obtain ⟨z, hz, hkz⟩ := nextX_spec h
  obtain ⟨hn, hj⟩ := hk z hkz
  have hno : ∀ i, XSt.has ⟨s, List.replicate ops.size none⟩ i = false := fun i => by
    cases hh : XSt.has ⟨s, List.replicate ops.size none⟩ i with
    | false => rfl
    | true =>
      obtain ⟨d, hd⟩ := has_iff.1 hh
      simp [List.getElem?_replicate] at hd
  have hnr : ∀ (i : Nat) (rc : XRec), (List.replicate ops.size (none : Option XRec))[i]? = some (some rc) → False := fun i rc hr => by
    have := has_iff (x := ⟨s, List.replicate ops.size none⟩).2 ⟨rc, hr⟩
    rw [hno] at this
    cases this
  have hp0 : XPre ops es s.st ⟨s, List.replicate ops.size none⟩ := ⟨by simp, rfl, fun i o _ hh => (by rw [hno] at hh; cases hh), fun i o d rc _ hr _ => (hnr i rc hr).elim, fun t _ => rfl, fun i o rc t _ hr _ => (hnr i rc hr).elim,
    fun i o _ hh => (by rw [hno] at hh; cases hh), fun i o rc _ hr _ _ => (hnr i rc hr).elim⟩
  obtain ⟨a1, a2, a3, a4, a5, a6, a7, a8⟩ := closeX_spec hlex hone hread ops.toList 0 _ z hz (by simp) hp0
  intro ρ C a w hr hs
  have hs' : SRel W0 C s.st a w.drew := ⟨hs.tm, hs.sz, hs.rel.drew⟩
  have hfalse : ∀ i, (Array.replicate ops.size false).getD i false = false := fun i => by
    rw [Array.getD_eq_getD_getElem?, Array.getElem?_replicate]; split <;> rfl
  refine wpIn_region_any hm (hj s.st a1 (fun j oj hoj hej hdj => a8 j oj (Nat.zero_le _) hoj hej hdj) ρ a.defers C _ (fun o ho C' a' w' hs' hn' hS hdf => ⟨.normal, o.s.st, C', rfl, ⟨o, ho, (hn o ho).symm, rfl⟩, hs', hS, hn', .of_eq hdf⟩) ops.size (Array.replicate ops.size false) s.tm C a _ ?_ ?_ ?_ ?_ rfl)
  · exact ⟨by simp, fun i o _ hl => (by rw [hfalse] at hl; cases hl), fun i hl => (by rw [hfalse] at hl; cases hl), fun e he hh => (by rw [a3 e he, hno] at hh; cases hh), fun i o d rc _ _ hl _ => (by rw [hfalse] at hl; cases hl), fun t _ => rfl⟩
  · have : ((List.range ops.size).filter fun i => !(Array.replicate ops.size false).getD i false) = List.range ops.size := by
      rw [List.filter_eq_self]
      intro i _
      rw [hfalse]; rfl
    rw [this, List.length_range]
  · rw [a5, a6]; exact hs'
  · rw [a5, a6]; exact Stp.refl _ _ _
end
structure RegP (kk : Oper → Nat) (ops : Array Oper) : Prop where
  edge : ∀ (i : Nat) (o : Oper), ops[i]? = some o → edgeOk i o = true
  pair : ∀ (i j : Nat) (oi oj : Oper), ops[i]? = some oi → ops[j]? = some oj → i ≠ j →
    (∀ t, oj.dst = some t → oi.dst ≠ some t ∧ ((t ∈ opTs oi ∨ gdst ops oi = some t) → if j < i then depB oi j = true else depB oj i = true)) ∧
    (i < j → 2 ≤ kk oi * kindOp oj.op → depB oj i = true ∨ (kk oi * kindOp oj.op = 4 ∧ ∃ k o, ops[k]? = some o ∧ i < k ∧ k < j ∧ kindOp o.op = 2))
theorem regG_spec {kk : Oper → Nat} {ops : Array Oper} (h : regG kk ops = true) : RegP kk ops := by
  have toL : ∀ (i : Nat) (o : Oper), ops[i]? = some o → ops.toList[i]? = some o := fun i o ho => by simpa using ho
  have h0 : ∀ (i : Nat) (o : Oper), ops[i]? = some o → edgeOk i o = true ∧ allP (pairOk ops i o (opTs o) (gdst ops o) (kk o)) 0 ops.toList = true := fun i o ho => by
    have := allP_spec _ _ h i o (toL i o ho)
    rw [Nat.zero_add, Bool.and_eq_true] at this
    exact this
  refine ⟨fun i o ho => (h0 i o ho).1, fun i j oi oj hi hj hij => ?_⟩
  have h1 := allP_spec _ _ (h0 i oi hi).2 j oj (toL j oj hj)
  rw [Nat.zero_add] at h1
  unfold pairOk at h1
  have e0 : Nat.beq i j = false := by
    cases hb : Nat.beq i j with
    | false => rfl
    | true => exact absurd (Nat.eq_of_beq_eq_true hb) hij
  rw [e0] at h1
  have split2 : ∀ {a b : Bool}, Bool.rec (motive := fun _ => Bool) false b a = true → a = true ∧ b = true := fun {a b} hh => by
    cases a
    · cases hh
    · exact ⟨rfl, hh⟩
  obtain ⟨q1, q2⟩ := split2 h1
  constructor
  · intro t ht
    rw [ht] at q1
    obtain ⟨r1, r2⟩ := split2 q1
    refine ⟨fun hd => ?_, fun hm => ?_⟩
    · rw [hd] at r1
      have : isT (some t) t = true := Nat.beq_refl t
      rw [this] at r1
      cases r1
    · have hc : (memT t (opTs oi) || isT (gdst ops oi) t) = true := by
        rw [Bool.or_eq_true]
        rcases hm with hm | hm
        · exact .inl (memT_iff _ _ hm)
        · right; rw [hm]; exact Nat.beq_refl t
      rw [hc] at r2
      rw [blt_lt] at r2
      by_cases c : j < i
      · rw [if_pos c]; rw [decide_eq_true c] at r2; exact r2
      · rw [if_neg c]; rw [decide_eq_false c] at r2; exact r2
  · intro hlt hk
    rw [blt_lt, decide_eq_true hlt] at q2
    have hb : Nat.ble 2 (Nat.mul (kk oi) (kindOp oj.op)) = true := Nat.ble_eq_true_of_le hk
    simp only [hb] at q2
    rw [Bool.or_eq_true, Bool.and_eq_true] at q2
    rcases q2 with q2 | ⟨q2, q3⟩
    · exact .inl q2
    · right
      refine ⟨Nat.eq_of_beq_eq_true q2, ?_⟩
      refine Classical.byContradiction fun hno => ?_
      unfold between at q3
      rw [Bool.not_eq_true'] at q3
      have : allP (fun k o => Bool.rec (motive := fun _ => Bool) true (Bool.rec (motive := fun _ => Bool) true (!Nat.beq (kindOp o.op) 2) (Nat.blt k j)) (Nat.blt i k)) 0 ops.toList = true := by
        have key : ∀ (l : List Oper) (s : Nat), l = ops.toList.drop s → allP (fun k o => Bool.rec (motive := fun _ => Bool) true (Bool.rec (motive := fun _ => Bool) true (!Nat.beq (kindOp o.op) 2) (Nat.blt k j)) (Nat.blt i k)) s l = true := by
          intro l
          induction l with
          | nil => intro s _; rfl
          | cons o l ih =>
            intro s hl
            obtain ⟨ho, hl'⟩ := drop_head hl
            show Bool.rec (motive := fun _ => Bool) false (allP _ (Nat.succ s) l) (Bool.rec (motive := fun _ => Bool) true (Bool.rec (motive := fun _ => Bool) true (!Nat.beq (kindOp o.op) 2) (Nat.blt s j)) (Nat.blt i s)) = true
            have hv : (Bool.rec (motive := fun _ => Bool) true (Bool.rec (motive := fun _ => Bool) true (!Nat.beq (kindOp o.op) 2) (Nat.blt s j)) (Nat.blt i s)) = true := by
              rw [blt_lt, blt_lt]
              by_cases c1 : i < s
              · rw [decide_eq_true c1]
                by_cases c2 : s < j
                · rw [decide_eq_true c2]
                  cases hkk : Nat.beq (kindOp o.op) 2 with
                  | false => rfl
                  | true => exact absurd ⟨s, o, ho, c1, c2, Nat.eq_of_beq_eq_true hkk⟩ hno
                · rw [decide_eq_false c2]
              · rw [decide_eq_false c1]
            rw [hv]
            exact ih _ hl'
        exact key _ 0 rfl
      rw [this] at q3
      cases q3
theorem RegP.stat {kk : Oper → Nat} {ops : Array Oper} (h : RegP kk ops) :
    (∀ (i : Nat) (o : Oper), ops[i]? = some o → ∀ j, dep o j → j < i) ∧
    (∀ (i j : Nat) (oi oj : Oper) (d : Tmp), ops[i]? = some oi → ops[j]? = some oj → oi.dst = some d → oj.dst = some d → i = j) := by
  refine ⟨?_, ?_⟩
  · rintro i o ho j ⟨e, he, hb, rfl⟩
    have := h.edge i o ho
    unfold edgeOk at this
    rw [List.all_eq_true] at this
    have := this e (by simpa using he)
    rw [hb, blt_lt] at this
    simpa using this
  · intro i j oi oj d hi hj hdi hdj
    refine Classical.byContradiction fun hne => ?_
    exact ((h.pair i j oi oj hi hj hne).1 d hdj).1 hdi
theorem aop_still {H : Heap} {nx : Nat} {ev : Operand → Option Value} {o : Oper} {v : Value} {e : Eff} (hk : kindOp o.op ≠ 2) (h : aop P H nx ev o = some (v, e)) : e = .none := by
  unfold aop at h
  cases ho : o.op <;> simp only [ho, kindOp, ne_eq, not_true_eq_false] at h hk <;> try (cases h; done)
  case nilCheck x => split at h <;> cases h <;> rfl
  case pick c a b => split at h <;> first | (cases h; done) | (simp only [Option.map_eq_some_iff, Prod.mk.injEq] at h; obtain ⟨_, _, _, rfl⟩ := h; rfl)
  case call c =>
    split at h
    · rename_i b hb
      simp only [hb] at hk
      simp only [Option.bind_eq_some_iff] at h
      obtain ⟨l, _, h⟩ := h
      cases b <;> simp only [ne_eq, not_true_eq_false] at hk
      all_goals
        unfold aBuiltin at h
        split at h <;> first | (rename_i hq _; cases hq; done) | (rename_i hq; cases hq; done) | (cases h; done) | (simp only [Option.map_eq_some_iff, Prod.mk.injEq] at h; obtain ⟨_, _, _, rfl⟩ := h; rfl) | skip
    · cases h
  all_goals
    simp only [Option.map_eq_some_iff, Option.bind_eq_some_iff, Prod.mk.injEq] at h
    first
      | (obtain ⟨_, _, _, rfl⟩ := h; rfl)
      | (obtain ⟨_, _, _, _, _, rfl⟩ := h; rfl)
      | (obtain ⟨_, _, _, _, _, _, _, rfl⟩ := h; rfl)
      | (obtain ⟨_, _, _, _, _, _, _, _, _, _, _, rfl⟩ := h; rfl)
theorem calleeE_acts {ev : Operand → Option Value} {o : Oper} {r : FuncId × List Value} (h : calleeE ev o = some r) : kindOp o.op = 2 := by
  unfold calleeE at h
  split at h
  · rename_i c hc
    split at h
    · rename_i x hx
      rw [hc]
      simp only [kindOp, hx]
    · cases h
  · cases h
theorem calleeG_acts {ev : Operand → Option Value} {o : Oper} {r : FuncId × List Value} (h : calleeG ev o = some r) : kindOp o.op = 2 := by
  unfold calleeG at h
  split at h
  · rename_i c hc
    split at h
    · rename_i x hx
      rw [hc]
      simp only [kindOp, hx]
    · cases h
  · cases h
theorem aop_free {H H' : Heap} {nx nx' : Nat} {ev : Operand → Option Value} {o : Oper} (hk : kindOp o.op = 0) : aop P H nx ev o = aop P H' nx' ev o := by
  unfold aop
  cases ho : o.op <;> simp only [ho, kindOp] at hk ⊢ <;> try (cases hk; done)
  case binOp op t x y yt =>
    have : ∀ a b, aBin P H op t x y a b = aBin P H' op t x y a b := fun a b => by
      cases op <;> simp only at hk <;> first | (cases hk; done) | (unfold aBin; rfl)
    simp only [this]
  case call c =>
    split at hk
    · split at hk <;> cases hk
    · cases hk
theorem drawn_reg {ops : Array Oper} (tr : List DTr) (s s' : CSt) (hstat : statOk ops = true) (hreg : RegP (fun o => kindOp o.op) ops) (htr : TrOk P W0 ops ops.toList s tr s') :
    Drawn P W0 ops s.st (fun i => (trAt tr s' i).tm) (fun i => ((tr[i]?).map (·.v)).getD undef) (fun i => (trAt tr s' i).ht.get) (fun i => (trAt tr s' i).nx) (actI ops) := by
  obtain ⟨a1, a2, a3, a4⟩ := htr.at
  obtain ⟨b1, b2, b3⟩ := statOk_spec hstat
  have hlen := htr.len
  have toL : ∀ (i : Nat) (o : Oper), ops[i]? = some o → ops.toList[i]? = some o := fun i o ho => by simpa using ho
  have hE : ∀ i, actI ops i = true → ∃ o, ops[i]? = some o ∧ kindOp o.op = 2 := fun i h => by
    unfold actI at h
    cases ho : ops[i]? with
    | none => rw [ho] at h; cases h
    | some o => rw [ho] at h; exact ⟨o, rfl, Nat.eq_of_beq_eq_true h⟩
  have hnE : ∀ (i : Nat) (o : Oper), ops[i]? = some o → actI ops i = false → kindOp o.op ≠ 2 := fun i o ho h e => by
    unfold actI at h
    rw [ho] at h
    simp only [e] at h
    cases h
  have hEi : ∀ (i : Nat) (o : Oper), ops[i]? = some o → kindOp o.op = 2 → actI ops i = true := fun i o ho e => by
    unfold actI; rw [ho]; simp only [e]; rfl
  have hstill : ∀ i, actI ops i = false → (trAt tr s' (i + 1)).ht.get = (trAt tr s' i).ht.get ∧ (trAt tr s' (i + 1)).nx = (trAt tr s' i).nx := by
    intro i hi
    by_cases hlt : i < ops.size
    · have ho : ops[i]? = some ops[i] := by simp
      obtain ⟨d, g1, g2, g3, g4, ⟨_, g5⟩, g6⟩ := a4 i ops[i] (toL i _ ho)
      have hk := hnE i _ ho hi
      rcases g5 with ⟨_, _, e1, e2⟩ | ⟨_, ⟨e, e1, e2, e3⟩ | ⟨f, args, e1, _⟩ | ⟨f, args, e1, _⟩⟩
      · exact ⟨e1, e2⟩
      · have := aop_still hk e1
        subst this
        exact ⟨e2, e3⟩
      · exact absurd (calleeE_acts e1) hk
      · exact absurd (calleeG_acts e1) hk
    · have e1 : tr[i]? = none := List.getElem?_eq_none (by rw [hlen]; simp; omega)
      have e2 : tr[i + 1]? = none := List.getElem?_eq_none (by rw [hlen]; simp; omega)
      simp [trAt, e1, e2]
  refine ⟨by rw [a1]; rfl, by rw [a1]; rfl, by rw [a1]; rfl, ?_, ?_, hstill, b1, b2, b3, ?_, ?_, ?_⟩
  · intro i o ho
    obtain ⟨d, g1, g2, g3, g4, g5, g6⟩ := a4 i o (toL i o ho)
    simp only [g1, Option.map_some, Option.getD_some]
    exact g3
  · intro i o ho
    obtain ⟨d, g1, g2, g3, g4, g5, g6⟩ := a4 i o (toL i o ho)
    simp only [g1, Option.map_some, Option.getD_some]
    exact g5
  · intro i j oj hi hj hoj hij hno
    obtain ⟨oi, hoi, ki⟩ := hE i hi
    obtain ⟨oj', hoj', kj⟩ := hE j hj
    rw [hoj] at hoj'
    cases hoj'
    rcases (hreg.pair i j oi oj hoi hoj (by omega)).2 hij (by rw [ki, kj]; decide) with h | ⟨_, k, ok, hk, h1, h2, h3⟩
    · exact ⟨0, depB_iff.1 h⟩
    · have := hno k h1 h2
      rw [hEi k ok hk h3] at this
      cases this
  · intro i oi p hoi hi hw hp hple hlo hhi
    obtain ⟨d, g1, g2, g3, g4, ⟨_, g5⟩, g6⟩ := a4 i oi (toL i oi hoi)
    have hk := hnE i oi hoi hi
    simp only [g1, Option.map_some, Option.getD_some] at hw ⊢
    have hown : aop P (trAt tr s' i).ht.get (trAt tr s' i).nx (evR (opTs oi) (trAt tr s' i).tm) oi = some (d.v, .none) := by
      rcases g5 with ⟨e0, _⟩ | ⟨_, ⟨e, e1, _⟩ | ⟨f, args, e1, _⟩ | ⟨f, args, e1, _⟩⟩
      · rw [hw] at e0; cases e0
      · have := aop_still hk e1
        subst this
        exact e1
      · exact absurd (calleeE_acts e1) hk
      · exact absurd (calleeG_acts e1) hk
    have k01 : kindOp oi.op = 0 ∨ kindOp oi.op = 1 := by
      have : kindOp oi.op ≤ 2 := by
        unfold kindOp
        split <;> first | omega | (split <;> first | omega | (split <;> omega))
      omega
    rcases k01 with k0 | k1
    · rw [← hown]; exact aop_free k0
    · have hpair : ∀ e oe, ops[e]? = some oe → kindOp oe.op = 2 → (e < i → dep oi e) ∧ (i < e → dep oe i) := by
        intro e oe hoe ke
        constructor
        · intro hlt
          rcases (hreg.pair e i oe oi hoe hoi (by omega)).2 hlt (by rw [ke, k1]; decide) with h | ⟨h, _⟩
          · exact depB_iff.1 h
          · rw [ke, k1] at h; omega
        · intro hlt
          rcases (hreg.pair i e oi oe hoi hoe (by omega)).2 hlt (by rw [ke, k1]; decide) with h | ⟨h, _⟩
          · exact depB_iff.1 h
          · rw [ke, k1] at h; omega
      have hpi : p ≤ i := by
        rcases hp with rfl | ⟨e, rfl, he⟩
        · omega
        · obtain ⟨oe, hoe, ke⟩ := hE e he
          have : e ≠ i := fun q => by subst q; rw [hoi] at hoe; cases hoe; omega
          rcases Nat.lt_trichotomy e i with c | c | c
          · omega
          · exact absurd c this
          · exact absurd ((hpair e oe hoe ke).2 c) (hhi e oe he (by omega) hoe)
      have hran : ∀ (k : Nat), p + k ≤ i → (trAt tr s' (p + k)).ht.get = (trAt tr s' p).ht.get ∧ (trAt tr s' (p + k)).nx = (trAt tr s' p).nx := by
        intro k
        induction k with
        | zero => intro _; exact ⟨rfl, rfl⟩
        | succ k ih =>
          intro hle
          obtain ⟨e1, e2⟩ := ih (by omega)
          have hs := hstill (p + k) (by
            cases hb : actI ops (p + k) with
            | false => rfl
            | true =>
              exfalso
              obtain ⟨oe, hoe, ke⟩ := hE _ hb
              have := hlo (p + k) hb ((hpair _ oe hoe ke).1 (by omega))
              omega)
          exact ⟨by rw [← Nat.add_assoc, hs.1, e1], by rw [← Nat.add_assoc, hs.2, e2]⟩
      obtain ⟨e1, e2⟩ := hran (i - p) (by omega)
      rw [show p + (i - p) = i by omega] at e1 e2
      rw [← e1, ← e2]
      exact hown
  · intro i hi
    obtain ⟨o, ho, _⟩ := hE i hi
    exact (Array.getElem?_eq_some_iff.1 ho).1
theorem esG_mem : ∀ (tr : List DTr) (k i : Nat), i ∈ esG tr k ↔ k ≤ i ∧ ∃ d, tr[i - k]? = some d ∧ d.e = true := by
  intro tr
  induction tr with
  | nil => intro k i; simp [esG]
  | cons d tr ih =>
    intro k i
    have hrest : (i ∈ esG tr (k + 1)) ↔ (k + 1 ≤ i ∧ ∃ d', (d :: tr)[i - k]? = some d' ∧ d'.e = true) := by
      rw [ih]
      constructor
      · rintro ⟨h1, d', h2, h3⟩
        refine ⟨h1, d', ?_, h3⟩
        rw [show i - k = (i - (k + 1)) + 1 by omega]
        simpa using h2
      · rintro ⟨h1, d', h2, h3⟩
        refine ⟨h1, d', ?_, h3⟩
        rw [show i - k = (i - (k + 1)) + 1 by omega] at h2
        simpa using h2
    simp only [esG]
    cases he : d.e with
    | true =>
      simp only [cond_true, List.mem_cons, hrest]
      constructor
      · rintro (rfl | ⟨h1, h2⟩)
        · exact ⟨Nat.le_refl _, d, by simp, he⟩
        · exact ⟨by omega, h2⟩
      · rintro ⟨h1, d', h2, h3⟩
        rcases Nat.lt_or_ge k i with c | c
        · exact .inr ⟨c, d', h2, h3⟩
        · exact .inl (by omega)
    | false =>
      simp only [cond_false, hrest]
      constructor
      · rintro ⟨h1, h2⟩; exact ⟨by omega, h2⟩
      · rintro ⟨h1, d', h2, h3⟩
        rcases Nat.lt_or_ge k i with c | c
        · exact ⟨c, d', h2, h3⟩
        · exfalso
          have : i - k = 0 := by omega
          rw [this] at h2
          simp only [List.getElem?_cons_zero, Option.some.injEq] at h2
          subst h2
          rw [he] at h3; cases h3
theorem headS_at (tr : List DTr) (s' : CSt) : headS tr s' = trAt tr s' 0 := by cases tr <;> rfl
theorem ptsG_mem : ∀ (tr : List DTr) (s' : CSt) (k i : Nat) (d : DTr), tr[i]? = some d → d.e = true → (k + i + 1, trAt tr s' (i + 1)) ∈ ptsG s' tr k := by
  intro tr
  induction tr with
  | nil => intro s' k i d h _; simp at h
  | cons d0 tr ih =>
    intro s' k i d h he
    cases i with
    | zero =>
      simp only [List.getElem?_cons_zero, Option.some.injEq] at h
      subst h
      simp only [ptsG, he, cond_true, headS_at]
      have : trAt (d0 :: tr) s' (0 + 1) = trAt tr s' 0 := by simp [trAt]
      rw [this]
      exact List.mem_cons_self ..
    | succ i =>
      have := ih s' (k + 1) i d (by simpa using h) he
      have e1 : trAt (d0 :: tr) s' (i + 1 + 1) = trAt tr s' (i + 1) := by simp [trAt]
      rw [e1, show k + (i + 1) + 1 = k + 1 + i + 1 by omega]
      simp only [ptsG]
      cases d0.e with
      | true => exact List.mem_cons_of_mem _ this
      | false => exact this
theorem actsGo_spec {ops : Array Oper} (tr0 : List DTr) : ∀ (l : List Oper) (tr : List DTr) (j : Nat) (prev : Option Nat) (fl : List Nat) (acs : List (Nat × Option Nat)) (ls ss : List Nat) (r : List Nat × List Nat), actsGo ops l tr j prev fl acs ls ss = some r → l = ops.toList.drop j → tr = tr0.drop j →
    (∀ (i : Nat) (d : DTr), i < j → tr0[i]? = some d → d.e = true → ∃ oi, ops[i]? = some oi ∧ (i, floId ops oi d) ∈ acs) →
    (∀ (i : Nat) (d : DTr), i < j → tr0[i]? = some d → d.e = true → i ∈ fl ∨ ∃ p op, prev = some p ∧ ops[p]? = some op ∧ (i = p ∨ ∃ n, depN ops n op i)) →
    (∀ k ∈ r.1, k ∈ ls ∨ ∃ o d, ops[k]? = some o ∧ tr0[k]? = some d ∧ d.e = true ∧ (floId ops o d).isSome = true ∧ layOp o.op = true) ∧
    (∀ k ∈ r.2, k ∈ ss ∨ ∃ o d, ops[k]? = some o ∧ tr0[k]? = some d ∧ d.e = true ∧ (floId ops o d).isSome = true ∧ layOp o.op = false) ∧
    (∀ (k i : Nat) (o oi : Oper) (d di : DTr), j ≤ k → ops[k]? = some o → tr0[k]? = some d → d.e = true → i < k → ops[i]? = some oi → tr0[i]? = some di → di.e = true →
      (∃ n, depN ops n o i) ∨ ((k ∈ r.1 ∨ k ∈ r.2) ∧ turnOk ops o k (floId ops o d) (i, floId ops oi di) = true)) ∧ (∀ k ∈ ls, k ∈ r.1) ∧ (∀ k ∈ ss, k ∈ r.2) := by
  intro l
  induction l with
  | nil =>
    intro tr j prev fl acs ls ss r h hl htr hA hB
    cases tr with
    | cons d tr => cases h
    | nil =>
      simp only [actsGo, Option.some.injEq] at h
      subst h
      refine ⟨fun k hk => .inl hk, fun k hk => .inl hk, fun k i o oi d di hjk ho => ?_, fun k hk => hk, fun k hk => hk⟩
      exfalso
      have h1 : ops.toList.length ≤ j := by
        have := congrArg List.length hl
        simp only [List.length_nil, List.length_drop] at this
        omega
      have h2 := (Array.getElem?_eq_some_iff.1 ho).1
      rw [Array.length_toList] at h1
      omega
  | cons o l ih =>
    intro tr j prev fl acs ls ss r h hl htr hA hB
    cases tr with
    | nil => cases h
    | cons d tr =>
      obtain ⟨ho, hl'⟩ := drop_head hl
      have hd : tr0[j]? = some d := by
        have := congrArg (fun l => l[0]?) htr
        simpa using this.symm
      have htr' : tr = tr0.drop (j + 1) := by
        have := congrArg List.tail htr
        simpa [List.tail_drop] using this
      simp only [actsGo] at h
      -- the pairs whose later one stands here
      have here : ∀ (P : Prop), (∀ (i : Nat) (oi : Oper) (di : DTr), i < j → ops[i]? = some oi → tr0[i]? = some di → di.e = true → (i, floId ops oi di) ∈ acs) := fun _ i oi di hij hoi hdi hei => by
        obtain ⟨oi', h1, h2⟩ := hA i di hij hdi hei
        rw [hoi] at h1
        cases h1
        exact h2
      cases he : d.e with
      | false =>
        rw [he] at h
        simp only [cond_false] at h
        have up : ∀ {i : Nat} {di : DTr}, i < j + 1 → tr0[i]? = some di → di.e = true → i < j := fun {i di} hi hdi hei => by
          by_cases c : i = j
          · subst c; rw [hd] at hdi; cases hdi; rw [he] at hei; cases hei
          · omega
        obtain ⟨r1, r2, r3, r4, r5⟩ := ih tr (j + 1) prev fl acs ls ss r h hl' htr' (fun i di hi hdi hei => hA i di (up hi hdi hei) hdi hei) (fun i di hi hdi hei => hB i di (up hi hdi hei) hdi hei)
        refine ⟨r1, r2, fun k i ok oi dk di hjk hok hdk hek => ?_, r4, r5⟩
        by_cases c : k = j
        · subst c; rw [hd] at hdk; cases hdk; rw [he] at hek; cases hek
        · exact r3 k i ok oi dk di (by omega) hok hdk hek
      | true =>
        rw [he] at h
        simp only [cond_true] at h
        have hA' : ∀ (i : Nat) (di : DTr), i < j + 1 → tr0[i]? = some di → di.e = true → ∃ oi, ops[i]? = some oi ∧ (i, floId ops oi di) ∈ (j, floId ops o d) :: acs := fun i di hi hdi hei => by
          by_cases c : i = j
          · subst c; rw [hd] at hdi; cases hdi; exact ⟨o, ho, List.mem_cons_self ..⟩
          · obtain ⟨oi, h1, h2⟩ := hA i di (by omega) hdi hei
            exact ⟨oi, h1, List.mem_cons_of_mem _ h2⟩
        cases hsol : (prevOk ops o j prev && fl.all fun k => waitO ops o j k) with
        | true =>
          rw [hsol] at h
          simp only [cond_true] at h
          rw [Bool.and_eq_true, List.all_eq_true] at hsol
          obtain ⟨s1, s2⟩ := hsol
          have all : ∀ (i : Nat) (di : DTr), i < j → tr0[i]? = some di → di.e = true → ∃ n, depN ops n o i := fun i di hij hdi hei => by
            rcases hB i di hij hdi hei with hm | ⟨p, op, hp, hop, hq⟩
            · exact waitO_spec ho (s2 i hm)
            · rw [hp] at s1
              obtain ⟨n1, hdp⟩ := waitO_spec ho s1
              rcases hq with rfl | ⟨n, hn⟩
              · exact ⟨n1, hdp⟩
              · exact depN_trans hop hn n1 o hdp
          obtain ⟨r1, r2, r3, r4, r5⟩ := ih tr (j + 1) (some j) [] _ ls ss r h hl' htr' hA' (fun i di hi hdi hei => by
            right
            refine ⟨j, o, rfl, ho, ?_⟩
            by_cases c : i = j
            · exact .inl c
            · exact .inr (all i di (by omega) hdi hei))
          refine ⟨r1, r2, fun k i ok oi dk di hjk hok hdk hek hik hoi hdi hei => ?_, r4, r5⟩
          by_cases c : k = j
          · subst c
            rw [ho] at hok
            cases hok
            exact .inl (all i di hik hdi hei)
          · exact r3 k i ok oi dk di (by omega) hok hdk hek hik hoi hdi hei
        | false =>
          rw [hsol] at h
          simp only [cond_false] at h
          cases hfl : ((floId ops o d).isSome && acs.all (turnOk ops o j (floId ops o d))) with
          | false => rw [hfl] at h; cases h
          | true =>
            rw [hfl] at h
            simp only [cond_true] at h
            rw [Bool.and_eq_true, List.all_eq_true] at hfl
            obtain ⟨f1, f2⟩ := hfl
            have hB' : ∀ (i : Nat) (di : DTr), i < j + 1 → tr0[i]? = some di → di.e = true → i ∈ j :: fl ∨ ∃ p op, prev = some p ∧ ops[p]? = some op ∧ (i = p ∨ ∃ n, depN ops n op i) := fun i di hi hdi hei => by
              by_cases c : i = j
              · subst c; exact .inl (List.mem_cons_self ..)
              · rcases hB i di (by omega) hdi hei with hm | hm
                · exact .inl (List.mem_cons_of_mem _ hm)
                · exact .inr hm
            have pairs : ∀ (i : Nat) (oi : Oper) (di : DTr), i < j → ops[i]? = some oi → tr0[i]? = some di → di.e = true → turnOk ops o j (floId ops o d) (i, floId ops oi di) = true := fun i oi di hij hoi hdi hei => f2 _ (here True i oi di hij hoi hdi hei)
            cases hlay : layOp o.op with
            | true =>
              rw [hlay] at h
              obtain ⟨r1, r2, r3, r4, r5⟩ := ih tr (j + 1) prev (j :: fl) _ (j :: ls) ss r h hl' htr' hA' hB'
              refine ⟨fun k hk => ?_, r2, fun k i ok oi dk di hjk hok hdk hek hik hoi hdi hei => ?_, fun k hk => r4 k (List.mem_cons_of_mem _ hk), r5⟩
              · rcases r1 k hk with hm | hm
                · rcases List.mem_cons.1 hm with rfl | hm
                  · exact .inr ⟨o, d, ho, hd, he, f1, hlay⟩
                  · exact .inl hm
                · exact .inr hm
              · by_cases c : k = j
                · subst c
                  rw [ho] at hok
                  rw [hd] at hdk
                  cases hok; cases hdk
                  exact .inr ⟨.inl (r4 k (List.mem_cons_self ..)), pairs i oi di hik hoi hdi hei⟩
                · exact r3 k i ok oi dk di (by omega) hok hdk hek hik hoi hdi hei
            | false =>
              rw [hlay] at h
              obtain ⟨r1, r2, r3, r4, r5⟩ := ih tr (j + 1) prev (j :: fl) _ ls (j :: ss) r h hl' htr' hA' hB'
              refine ⟨r1, fun k hk => ?_, fun k i ok oi dk di hjk hok hdk hek hik hoi hdi hei => ?_, r4, fun k hk => r5 k (List.mem_cons_of_mem _ hk)⟩
              · rcases r2 k hk with hm | hm
                · rcases List.mem_cons.1 hm with rfl | hm
                  · exact .inr ⟨o, d, ho, hd, he, f1, hlay⟩
                  · exact .inl hm
                · exact .inr hm
              · by_cases c : k = j
                · subst c
                  rw [ho] at hok
                  rw [hd] at hdk
                  cases hok; cases hdk
                  exact .inr ⟨.inr (r5 k (List.mem_cons_self ..)), pairs i oi di hik hoi hdi hei⟩
                · exact r3 k i ok oi dk di (by omega) hok hdk hek hik hoi hdi hei
theorem readsGo_spec {P : Program} {ops : Array Oper} {pts : List (Nat × CSt)} {es ss : List Nat} : ∀ (l : List Oper) (tr : List DTr) (k : Nat), readsGo P ops pts es ss l tr k = true →
    ∀ (i : Nat) (oi : Oper) (di : DTr), l[i]? = some oi → tr[i]? = some di → di.e = false → kindOp oi.op = 0 ∨ wantsT ops di.s.tm oi = false ∨
      (pts.all (readG P ops es (k + i) oi di) = true ∧ ∀ e ∈ ss, depB oi e = true ∨ ∃ oe, ops[e]? = some oe ∧ depB oe (k + i) = true) := by
  intro l
  induction l with
  | nil => intro tr k h i oi di hi; simp at hi
  | cons o l ih =>
    intro tr k h i oi di hi hdi hei
    cases tr with
    | nil => simp [readsGo] at h
    | cons d tr =>
      simp only [readsGo, Bool.and_eq_true] at h
      obtain ⟨h1, h2⟩ := h
      cases i with
      | zero =>
        simp only [List.getElem?_cons_zero, Option.some.injEq] at hi hdi
        subst hi hdi
        rw [hei] at h1
        simp only [Bool.false_or, Bool.or_eq_true, Bool.not_eq_true', Bool.and_eq_true] at h1
        rcases h1 with (h1 | h1) | ⟨h1, h3⟩
        · exact .inl (Nat.eq_of_beq_eq_true h1)
        · exact .inr (.inl h1)
        · refine .inr (.inr ⟨h1, fun e he => ?_⟩)
          have := List.all_eq_true.1 h3 e he
          rw [Bool.or_eq_true] at this
          rcases this with q | q
          · exact .inl q
          · right
            cases hoe : ops[e]? with
            | none => simp [hoe] at q
            | some oe => rw [hoe] at q; exact ⟨oe, rfl, q⟩
      | succ i =>
        have := ih tr (k + 1) h2 i oi di (by simpa using hi) (by simpa using hdi) hei
        rwa [show k + 1 + i = k + (i + 1) by omega] at this
def sLay (ops : Array Oper) (tr : List DTr) (i : Nat) : Bool := match ops[i]?, tr[i]? with | some o, some d => d.e && (layOp o.op && wantsT ops d.s.tm o) | _, _ => false
def sSto (ops : Array Oper) (tr : List DTr) (i : Nat) : Bool := match ops[i]?, tr[i]? with | some o, some d => d.e && (!layOp o.op && (floId ops o d).isSome) | _, _ => false
def sId (ops : Array Oper) (tr : List DTr) (i : Nat) : Nat := match ops[i]?, tr[i]? with | some o, some d => (floId ops o d).getD 0 | _, _ => 0
theorem sLay_iff {ops : Array Oper} {tr : List DTr} {i : Nat} : sLay ops tr i = true ↔ ∃ o d, ops[i]? = some o ∧ tr[i]? = some d ∧ d.e = true ∧ layOp o.op = true ∧ wantsT ops d.s.tm o = true := by
  unfold sLay
  constructor
  · intro h
    split at h
    · rename_i o d h1 h2; simp only [Bool.and_eq_true] at h; exact ⟨o, d, h1, h2, h.1, h.2.1, h.2.2⟩
    · cases h
  · rintro ⟨o, d, h1, h2, h3, h4, h5⟩; simp [h1, h2, h3, h4, h5]
theorem sSto_iff {ops : Array Oper} {tr : List DTr} {i : Nat} : sSto ops tr i = true ↔ ∃ o d, ops[i]? = some o ∧ tr[i]? = some d ∧ d.e = true ∧ layOp o.op = false ∧ (floId ops o d).isSome = true := by
  unfold sSto
  constructor
  · intro h
    split at h
    · rename_i o d h1 h2; simp only [Bool.and_eq_true, Bool.not_eq_true'] at h; exact ⟨o, d, h1, h2, h.1, h.2.1, h.2.2⟩
    · cases h
  · rintro ⟨o, d, h1, h2, h3, h4, h5⟩; simp [h1, h2, h3, h4, h5]
theorem drawn_dyn {ops : Array Oper} (tr : List DTr) (s s' : CSt) (hstat : statOk ops = true) (htr : TrOk P W0 ops ops.toList s tr s') (hdyn : dynG P ops tr s' = true) : ∃ ss : List Nat,
    DrawnF P W0 ops s.st (fun i => (trAt tr s' i).tm) (fun i => ((tr[i]?).map (·.v)).getD undef) (fun i => (trAt tr s' i).ht.get) (fun i => (trAt tr s' i).nx) (fun i => ((tr[i]?).map (·.e)).getD false) (sLay ops tr) (fun i => ss.contains i && sSto ops tr i) (sSto ops tr) (sId ops tr) := by
  obtain ⟨a1, a2, a3, a4⟩ := htr.at
  obtain ⟨b1, b2, b3⟩ := statOk_spec hstat
  have hlen := htr.len
  have toL : ∀ (i : Nat) (o : Oper), ops[i]? = some o → ops.toList[i]? = some o := fun i o ho => by simpa using ho
  have hE : ∀ i : Nat, ((tr[i]?).map (·.e)).getD false = true → ∃ d, tr[i]? = some d ∧ d.e = true := fun i h => by
    cases hd : tr[i]? with
    | none => simp [hd] at h
    | some d => simp [hd] at h; exact ⟨d, rfl, h⟩
  have hnE : ∀ (i : Nat) (d : DTr), tr[i]? = some d → ((tr[i]?).map (·.e)).getD false = false → d.e = false := fun i d hd h => by simpa [hd] using h
  have hEi : ∀ (i : Nat) (d : DTr), tr[i]? = some d → d.e = true → ((tr[i]?).map (·.e)).getD false = true := fun i d hd h => by simp [hd, h]
  unfold dynG at hdyn
  split at hdyn
  case h_2 => cases hdyn
  rename_i r hr
  obtain ⟨c1, c2, c3, _, _⟩ := actsGo_spec tr ops.toList tr 0 none [] [] [] [] r hr (by simp) (by simp) (fun i d hi => by omega) (fun i d hi => by omega)
  have c4 := readsGo_spec ops.toList tr 0 hdyn
  -- what a wanted one is that is told
  have wantF : ∀ {o : Oper} {d : DTr}, (floId ops o d).isSome = true → wantsT ops d.s.tm o = true := fun {o d} h => by
    unfold floId at h
    cases hw : wantsT ops d.s.tm o with
    | true => rfl
    | false => rw [hw] at h; cases h
  have stoF : ∀ {o : Oper} {d : DTr}, (floId ops o d).isSome = true → layOp o.op = false → ∃ t x y ad, o.op = .store t x y ∧ evR (opTs o) d.s.tm x = some (.pointer (some ad)) ∧ floId ops o d = some ad.block := fun {o d} h hl => by
    have hw := wantF h
    unfold floId at h ⊢
    rw [hw, hl] at h ⊢
    simp only [cond_true, cond_false] at h ⊢
    unfold storeId at h ⊢
    cases hop : o.op <;> simp only [hop] at h ⊢ <;> try (cases h; done)
    rename_i t x y
    split at h
    · rename_i ad hx; exact ⟨t, x, y, ad, rfl, hx, by simp [hx]⟩
    · cases h
  refine ⟨r.2, by rw [a1]; rfl, by rw [a1]; rfl, by rw [a1]; rfl, ?_, ?_, ?_, b1, b2, b3, ?_, ?_, ?_, ?_, ?_, ?_, ?_, ?_, ?_, ?_⟩
  · intro i o ho
    obtain ⟨d, g1, g2, g3, g4, g5, g6⟩ := a4 i o (toL i o ho)
    simp only [g1, Option.map_some, Option.getD_some]
    exact g3
  · intro i o ho
    obtain ⟨d, g1, g2, g3, g4, g5, g6⟩ := a4 i o (toL i o ho)
    simp only [g1, Option.map_some, Option.getD_some]
    exact g5
  · intro i hi
    by_cases hlt : i < ops.size
    · obtain ⟨d, g1, g2, g3, g4, g5, g6⟩ := a4 i ops[i] (toL i _ (by simp))
      simp only [g1, Option.map_some, Option.getD_some] at hi
      exact g6 hi
    · have e1 : tr[i]? = none := List.getElem?_eq_none (by rw [hlen]; simp; omega)
      have e2 : tr[i + 1]? = none := List.getElem?_eq_none (by rw [hlen]; simp; omega)
      simp [trAt, e1, e2]
  · -- who waits for whom
    intro i j oj hi hj hoj hij
    obtain ⟨di, hdi, hei⟩ := hE i hi
    obtain ⟨dj, hdj, hej⟩ := hE j hj
    obtain ⟨oi, hoi⟩ : ∃ oi, ops[i]? = some oi := ⟨_, Array.getElem?_eq_getElem (by have := (Array.getElem?_eq_some_iff.1 hoj).1; omega)⟩
    rcases c3 j i oj oi dj di (Nat.zero_le _) hoj hdj hej hij hoi hdi hei with hd | ⟨hm, ht⟩
    · exact .inl hd
    · unfold turnOk at ht
      rw [Bool.or_eq_true, Bool.and_eq_true] at ht
      rcases ht with ht | ⟨ht, ht2⟩
      · exact .inl ⟨0, depB_iff.1 ht⟩
      · right
        refine ⟨?_, fun p op hop hd => ?_, fun hS => ?_⟩
        · rcases hm with hm | hm
          · rcases c1 j hm with hx | ⟨o, d, k1, k2, k3, k4, k5⟩
            · cases hx
            · exact .inl (sLay_iff.2 ⟨o, d, k1, k2, k3, k5, wantF k4⟩)
          · rcases c2 j hm with hx | ⟨o, d, k1, k2, k3, k4, k5⟩
            · cases hx
            · right
              simp only [Bool.and_eq_true]
              exact ⟨List.contains_iff_mem.2 hm, sSto_iff.2 ⟨o, d, k1, k2, k3, k5, k4⟩⟩
        · unfold waitG at ht
          rw [List.all_eq_true] at ht
          have := ht (op, p) (List.mem_zipIdx_iff_getElem?.2 (by rw [Array.getElem?_toList]; exact hop))
          rw [depB_iff.2 hd] at this
          exact waitO_spec hop (by simpa using this)
        · simp only [Bool.and_eq_true] at hS
          obtain ⟨o, d, k1, k2, k3, k4, k5⟩ := sSto_iff.1 hS.2
          rw [hoj] at k1
          rw [hdj] at k2
          cases k1; cases k2
          rw [k4, Bool.false_or] at ht2
          unfold otherId at ht2
          split at ht2
          case h_2 => cases ht2
          rename_i x y hx hy
          replace hx : floId ops oi di = some x := hx
          have hIs : (floId ops oi di).isSome = true := by rw [hx]; rfl
          refine ⟨?_, ?_⟩
          · cases hlay : layOp oi.op with
            | true => exact .inl (sLay_iff.2 ⟨oi, di, hoi, hdi, hei, hlay, wantF hIs⟩)
            | false => exact .inr (sSto_iff.2 ⟨oi, di, hoi, hdi, hei, hlay, hIs⟩)
          · simp only [sId, hoi, hdi, hoj, hdj, hx, hy, Option.getD_some]
            intro e
            subst e
            simp at ht2
  · -- rows laid
    intro j oj hL hoj
    obtain ⟨o, d, k1, k2, k3, k4, k5⟩ := sLay_iff.1 hL
    rw [hoj] at k1
    cases k1
    obtain ⟨d', g1, g2, g3, g4, ⟨_, g5⟩, g6⟩ := a4 j oj (toL j oj hoj)
    rw [k2] at g1
    cases g1
    have hw : wantsT ops (trAt tr s' j).tm oj = true := by rw [← g2]; exact k5
    refine ⟨k4, hw, ?_, ?_⟩
    · simp only [sId, hoj, k2, floId, k5, k4, cond_true, Option.getD_some]
      rw [g2]
    · simp only [k2, Option.map_some, Option.getD_some]
      have nocall : ∀ {r}, calleeE (evR (opTs oj) (trAt tr s' j).tm) oj = some r → False := fun {r} hc => by
        unfold calleeE at hc
        cases hop : oj.op <;> simp only [hop] at hc <;> try (cases hc; done)
        rw [hop] at k4; cases k4
      have nocallG : ∀ {r}, calleeG (evR (opTs oj) (trAt tr s' j).tm) oj = some r → False := fun {r} hc => by
        unfold calleeG at hc
        cases hop : oj.op <;> simp only [hop] at hc <;> try (cases hc; done)
        rw [hop] at k4; cases k4
      rcases g5 with ⟨e0, _⟩ | ⟨_, ⟨e, e1, _⟩ | ⟨f, args, e1, _⟩ | ⟨f, args, e1, _⟩⟩
      · rw [hw] at e0; cases e0
      · exact ⟨e, e1⟩
      · exact (nocall e1).elim
      · exact (nocallG e1).elim
  · -- stores
    intro j oj hS hoj
    obtain ⟨o, d, k1, k2, k3, k4, k5⟩ := sSto_iff.1 hS
    rw [hoj] at k1
    cases k1
    obtain ⟨d', g1, g2, g3, g4, ⟨_, g5⟩, g6⟩ := a4 j oj (toL j oj hoj)
    rw [k2] at g1
    cases g1
    have hw : wantsT ops (trAt tr s' j).tm oj = true := by rw [← g2]; exact wantF k5
    obtain ⟨t, x, y, ad, hop, hx, hid⟩ := stoF k5 k4
    rw [g2] at hx
    have hidd : sId ops tr j = ad.block := by simp only [sId, hoj, k2, hid, Option.getD_some]
    refine ⟨hw, ?_⟩
    simp only [k2, Option.map_some, Option.getD_some, hidd]
    rcases g5 with ⟨e0, _⟩ | ⟨_, ⟨e, e1, e2, e3⟩ | ⟨f, args, e1, _⟩ | ⟨f, args, e1, _⟩⟩
    · rw [hw] at e0; cases e0
    · obtain ⟨obj, rfl, hsame⟩ := sto_same hop hx e1
      exact ⟨obj, e2, e3, hsame⟩
    · unfold calleeE at e1; rw [hop] at e1; cases e1
    · unfold calleeG at e1; rw [hop] at e1; cases e1
  · -- reads
    intro i oi p hoi hi hw hp hple hlo hhi
    obtain ⟨d, g1, g2, g3, g4, ⟨_, g5⟩, g6⟩ := a4 i oi (toL i oi hoi)
    have hei := hnE i d g1 hi
    simp only [g1, Option.map_some, Option.getD_some] at hw ⊢
    rcases c4 i oi d (toL i oi hoi) g1 hei with h | h | ⟨h, _⟩
    · have hk : kindOp oi.op ≠ 2 := by omega
      have hown : aop P (trAt tr s' i).ht.get (trAt tr s' i).nx (evR (opTs oi) (trAt tr s' i).tm) oi = some (d.v, .none) := by
        rcases g5 with ⟨e0, _⟩ | ⟨_, ⟨e, e1, _⟩ | ⟨f, args, e1, _⟩ | ⟨f, args, e1, _⟩⟩
        · rw [hw] at e0; cases e0
        · have := aop_still hk e1
          subst this
          exact e1
        · exact absurd (calleeE_acts e1) hk
        · exact absurd (calleeG_acts e1) hk
      rw [← hown]; exact aop_free h
    · rw [g2, hw] at h; cases h
    · rw [Nat.zero_add, List.all_eq_true] at h
      have hpt : (p, trAt tr s' p) ∈ (0, headS tr s') :: ptsG s' tr 0 := by
        rcases hp with rfl | ⟨e, rfl, he⟩
        · rw [headS_at]; exact List.mem_cons_self ..
        · obtain ⟨de, hde, hee⟩ := hE e he
          have := ptsG_mem tr s' 0 e de hde hee
          rw [Nat.zero_add] at this
          exact List.mem_cons_of_mem _ this
      have := h _ hpt
      unfold readG at this
      simp only at this
      have hes : ∀ k : Nat, k ∈ esG tr 0 ↔ ((tr[k]?).map (·.e)).getD false = true := fun k => by
        rw [esG_mem]
        constructor
        · rintro ⟨_, d, h1, h2⟩; rw [Nat.sub_zero] at h1; simp [h1, h2]
        · intro hk; obtain ⟨d, h1, h2⟩ := hE k hk; exact ⟨Nat.zero_le _, d, by rw [Nat.sub_zero]; exact h1, h2⟩
      rw [Bool.or_eq_true, Bool.or_eq_true, Bool.or_eq_true] at this
      rcases this with ((h | h) | h) | h
      · exfalso
        rw [List.any_eq_true] at h
        obtain ⟨j, hj, h⟩ := h
        simp only [Bool.and_eq_true, decide_eq_true_eq] at h
        have := hlo j ((hes j).1 hj) (depB_iff.1 h.1)
        omega
      · exfalso
        rw [List.any_eq_true] at h
        obtain ⟨e, he, h⟩ := h
        simp only [Bool.and_eq_true, decide_eq_true_eq] at h
        obtain ⟨h1, h2⟩ := h
        cases hoe : ops[e]? with
        | none => simp [hoe] at h2
        | some oe =>
          simp only [hoe] at h2
          exact hhi e oe ((hes e).1 he) h1 hoe 0 (depB_iff.1 h2)
      · rw [← g2]; exact sameAns_spec h
      · exfalso
        rw [List.any_eq_true] at h
        obtain ⟨e, he, h⟩ := h
        simp only [Bool.and_eq_true, decide_eq_true_eq] at h
        obtain ⟨h1, h2⟩ := h
        cases hoe : ops[e]? with
        | none => unfold waitsB at h2; rw [hoe] at h2; cases h2
        | some oe =>
          obtain ⟨m, hm⟩ := waitsB_spec 6 e _ oe hoe h2
          exact hhi e oe ((hes e).1 he) h1 hoe m (by simpa using hm)
  · -- what waits for stores, or is waited for
    intro i oi hoi hi hw
    obtain ⟨d, g1, g2, g3, g4, ⟨_, g5⟩, g6⟩ := a4 i oi (toL i oi hoi)
    have hei := hnE i d g1 hi
    simp only [g1, Option.map_some, Option.getD_some] at hw ⊢
    rcases c4 i oi d (toL i oi hoi) g1 hei with h | h | ⟨_, h⟩
    · left
      have hk : kindOp oi.op ≠ 2 := by omega
      have hown : aop P (trAt tr s' i).ht.get (trAt tr s' i).nx (evR (opTs oi) (trAt tr s' i).tm) oi = some (d.v, .none) := by
        rcases g5 with ⟨e0, _⟩ | ⟨_, ⟨e, e1, _⟩ | ⟨f, args, e1, _⟩ | ⟨f, args, e1, _⟩⟩
        · rw [hw] at e0; cases e0
        · have := aop_still hk e1
          subst this
          exact e1
        · exact absurd (calleeE_acts e1) hk
        · exact absurd (calleeG_acts e1) hk
      intro H nx
      rw [← hown]; exact aop_free h
    · rw [g2, hw] at h; cases h
    · right
      intro e oe hS hoe
      simp only [Bool.and_eq_true] at hS
      rcases h e (List.contains_iff_mem.1 hS.1) with q | ⟨oe', h1, q⟩
      · exact .inr (depB_iff.1 q)
      · rw [hoe] at h1
        cases h1
        rw [Nat.zero_add] at q
        exact .inl (depB_iff.1 q)
  · intro i hi
    obtain ⟨d, hd, _⟩ := hE i hi
    have := (List.getElem?_eq_some_iff.1 hd).1
    rw [hlen] at this
    simpa using this
  · intro i hi
    obtain ⟨o, d, k1, k2, k3, _⟩ := sLay_iff.1 hi
    exact hEi i d k2 k3
  · intro i hi
    simp only [Bool.and_eq_true] at hi
    obtain ⟨o, d, k1, k2, k3, _⟩ := sSto_iff.1 hi.2
    exact hEi i d k2 k3
  · intro i hi
    obtain ⟨o, d, k1, k2, k3, k4, _⟩ := sLay_iff.1 hi
    simp [sSto, k1, k2, k4]
  · intro i hi
    simp only [Bool.and_eq_true] at hi
    exact hi.2
theorem Ops.extG {ops : Array Oper} {i : Nat} {l : List Nat} {o : Oper} {st : ASt} {f : FuncId} {x : Value} {Q : ASt → Prop} (ho : ops[i]? = some o) (hw : wants ops st o = true) (hd : dstOk st o = true)
    (hc : calleeG st.ev o = some (f, [x])) (hf : f < XB → IdExt P f) (hlt : f < YB) (h : Ops P W0 ops l (st.put o.dst x .none) Q) : Ops P W0 ops (i :: l) st Q := by
  rcases calleeG_cases hc with ⟨hl, hE⟩ | ⟨k, rfl, _⟩
  · exact Ops.ext ho hw hd hE (hf hl) h
  · exact absurd hlt (Nat.not_lt.2 (Nat.le_add_right YB k))
theorem Ops.idxG {ops : Array Oper} {i : Nat} {l : List Nat} {o : Oper} {st : ASt} {f : FuncId} {args : List Value} {x : Value} {Q : ASt → Prop} (ho : ops[i]? = some o) (hw : wants ops st o = true) (hd : dstOk st o = true)
    (hc : calleeG st.ev o = some (f, args)) (hx : idxV args = some x) (hf : f < XB → IdxExt P f) (hlt : f < YB) (h : Ops P W0 ops l (st.put o.dst x .none) Q) : Ops P W0 ops (i :: l) st Q := by
  rcases calleeG_cases hc with ⟨hl, hE⟩ | ⟨k, rfl, _⟩
  · exact Ops.idx ho hw hd hE hx (hf hl) h
  · exact absurd hlt (Nat.not_lt.2 (Nat.le_add_right YB k))
theorem rangeS_sound (hE : ∀ (f : FuncId) (fn : Func), P.funcs[f]? = some fn → (fn.name == "runtime.NumGoroutine") = false) (hsm : P.funcs.size ≤ YB) {rc : RecS} {g : Operand} {ps : Array Tmp} {asg body : Code} {s : CSt} {outs : List Out}
    (ih : ∀ job s outs, rc job s = some outs → (∀ o ∈ outs, ∀ x ∈ o.s.asm, AsTold P W0 x) → JobS P W0 job s outs) (hgr : ∀ job s outs, rc job s = some outs → GrewN s outs)
    (h : rangeS rc g ps asg body s = some outs) (hA : ∀ o ∈ outs, ∀ x ∈ o.s.asm, AsTold P W0 x) : Trip P W0 (.rangeFunc g ps asg body) s.st fun x st' => ∃ o ∈ outs, x = o.x ∧ st' = o.s.st := by
  unfold rangeS at h
  split at h
  case h_2 => cases h
  rename_i f first cap hg
  rw [Bool.cond_eq_ite] at h
  split at h
  case isFalse => cases h
  rename_i hblt
  have hflt : f < YB := by rw [Nat.blt_eq] at hblt; exact hblt
  obtain ⟨l, hl, hk⟩ := thenS_spec h
  have hall : ∀ o ∈ l, ∀ x ∈ o.s.asm, AsTold P W0 x := fun o ho => by
    obtain ⟨a', ha', hm'⟩ := hk o ho
    refine told_of_grew (s := o.s) (outs := outs) ?_ hm' hA
    split at ha'
    case h_2 => cases ha'
    split at ha'
    · cases ha'
    · split at ha'
      · cases ha'; exact .one (t := []) rfl
      · have q := hgr _ _ _ ha'; exact q
  have hjob := ih _ _ _ hl hall
  simp only [JobS] at hjob
  rcases hjob with ⟨_, hent, hcall⟩ | ⟨k, e, _⟩
  case inr => exact absurd hflt (by rw [e]; exact Nat.not_lt.2 (Nat.le_add_right YB k))
  have hget : (s.ht.set s.nx (.loop .ready none s.tt s.n ps.toList asg body)).get = s.st.H.put s.st.nx (.loop .ready none s.tt s.st.n ps.toList asg body) := by
    funext m; rw [Tree.get_set]; rfl
  rw [hget] at hcall
  refine Trip.rangeFunc (tt := s.tt) (fun t => rfl) hg hent hcall ?_
  rintro v nx' H' ⟨o, ho, rfl, rfl, rfl⟩
  obtain ⟨a', ha', hm'⟩ := hk o ho
  split at ha'
  case h_2 => cases ha'
  rename_i stt pend tt n ps2 asg2 body2 hlp
  have hput : (o.s.ht.del s.nx).get = Heap.del o.s.ht.get s.st.nx := by
    funext m; rw [Tree.get_del]; rfl
  have hb : stt ≠ .busy := by
    intro e
    subst e
    cases ha'
  refine ⟨stt, pend, tt, n, ps2, asg2, body2, hlp, hb, ?_⟩
  split at ha'
  · exact absurd rfl hb
  · split at ha'
    · cases ha'
      left
      refine ⟨rfl, _, hm' _ (List.mem_singleton.2 rfl), rfl, ?_⟩
      rw [← hput]; rfl
    · rename_i c
      right
      refine ⟨c, rfl, ?_⟩
      have i2 := ih _ _ _ ha' (fun o ho => hA o (hm' o ho))
      simp only [JobS, CSt.st] at i2
      rw [hput] at i2
      exact Trip.mono i2 (fun x st' ⟨o, ho, h1, h2⟩ => ⟨o, hm' o ho, h1, h2⟩)
theorem roundS_sound {f : Nat} (hle : YB ≤ f) {rc : RecS} {args : List Value} {s : CSt} {outs : List Out}
    (ih : ∀ job s outs, rc job s = some outs → (∀ o ∈ outs, ∀ x ∈ o.s.asm, AsTold P W0 x) → JobS P W0 job s outs) (hgr : ∀ job s outs, rc job s = some outs → GrewN s outs)
    (h : roundS rc (f - YB) args s = some outs) (hA : ∀ o ∈ outs, ∀ x ∈ o.s.asm, AsTold P W0 x) : GCalls P W0 f args s.nx s.ht.get fun v nx H => ∃ o ∈ outs, v = o.v ∧ nx = o.s.nx ∧ H = o.s.ht.get := by
  obtain ⟨l, rfl⟩ : ∃ l, f = YB + l := ⟨f - YB, by omega⟩
  rw [Nat.add_sub_cancel_left] at h
  unfold roundS at h
  split at h
  case h_2 => cases h
  rename_i pend tt n ps asg body hl
  split at h
  case h_2 => cases h
  rename_i t1 hput
  refine .inr ⟨l, rfl, by rw [hl]; rfl, ?_⟩
  obtain ⟨l1, hl1, hk⟩ := thenS_spec h
  have second : ∀ (o : Out) (a' : List Out), (match o.x with
        | .normal =>
          match o.s.ht.get l with
          | some (.loop .ready pend2 tt2 n2 ps2 asg2 body2) =>
            thenS (rc (.code body) ⟨o.s.tt, o.s.n, o.s.ht.set l (.loop .busy pend2 tt2 n2 ps2 asg2 body2), o.s.nx, o.s.asm⟩) fun q =>
              match q.s.ht.get l with
              | some (.loop _ _ tt3 n3 ps3 asg3 body3) =>
                some [⟨.ret, .bool (jumpOf q.x).isNone, ⟨q.s.tt, q.s.n, q.s.ht.set l (.loop (endSt q.x) (jumpOf q.x) tt3 n3 ps3 asg3 body3), q.s.nx, q.s.asm⟩, []⟩]
              | _ => none
          | _ => none
        | _ => none) = some a' → GrewN o.s a' := by
    intro o a' ha
    split at ha
    case h_2 => cases ha
    split at ha
    case h_2 => cases ha
    refine thenS_grew ha (fun l hl => (by have q := hgr _ _ _ hl; exact q)) (fun l hl q hq b hb => ?_)
    split at hb
    case h_2 => cases hb
    cases hb
    exact .one (t := []) rfl
  have hall : ∀ o ∈ l1, ∀ x ∈ o.s.asm, AsTold P W0 x := fun o ho => by
    obtain ⟨a', ha', hm'⟩ := hk o ho
    exact told_of_grew (second o a' ha') hm' hA
  have i1 := ih _ _ _ hl1 hall
  simp only [JobS] at i1
  refine AYields.of_trip hl hput (Trip.mono i1 ?_)
  rintro x st' ⟨o, ho, rfl, rfl⟩
  obtain ⟨a', ha', hm'⟩ := hk o ho
  split at ha'
  case h_2 => cases ha'
  rename_i hx
  split at ha'
  case h_2 => cases ha'
  rename_i pend2 tt2 n2 ps2 asg2 body2 hl2
  refine ⟨hx, pend2, tt2, n2, ps2, asg2, body2, hl2, ?_⟩
  obtain ⟨l2, hl2', hk2⟩ := thenS_spec ha'
  have hall2 : ∀ o ∈ l2, ∀ x ∈ o.s.asm, AsTold P W0 x := fun q hq => by
    obtain ⟨b, hb, hmb⟩ := hk2 q hq
    split at hb
    case h_2 => cases hb
    cases hb
    exact fun x hx => hA _ (hm' _ (hmb _ (List.mem_singleton.2 rfl))) x hx
  have i2 := ih _ _ _ hl2' hall2
  simp only [JobS, CSt.st] at i2
  have hput2 : (o.s.ht.set l (.loop .busy pend2 tt2 n2 ps2 asg2 body2)).get = Heap.put o.s.ht.get l (.loop .busy pend2 tt2 n2 ps2 asg2 body2) := by
    funext m; rw [Tree.get_set]; rfl
  rw [hput2] at i2
  refine Trip.mono i2 ?_
  rintro x st' ⟨q, hq, rfl, rfl⟩
  obtain ⟨b, hb, hmb⟩ := hk2 q hq
  split at hb
  case h_2 => cases hb
  rename_i st3 pend3 tt3 n3 ps3 asg3 body3 hl3
  cases hb
  refine ⟨st3, pend3, tt3, n3, ps3, asg3, body3, hl3, _, hm' _ (hmb _ (List.mem_singleton.2 rfl)), rfl, rfl, ?_⟩
  funext m; rw [Tree.get_set]; rfl
theorem execS_sound (hE : ∀ (f : FuncId) (fn : Func), P.funcs[f]? = some fn → (fn.name == "runtime.NumGoroutine") = false) (hX : ∀ f, f < XB → xs.contains f = true → IdExt P f) (hI : ∀ f, f < XB → xs.contains (XB + f) = true → IdxExt P f) (hm : P.follows .mixedOrders = true) (hsm : P.funcs.size ≤ YB) (hXb : ∀ f, xs.contains f = true → f < YB) :
    ∀ (n : Nat) (job : SJob) (s : CSt) (outs : List Out), execS P xs ov n job s = some outs → (∀ o ∈ outs, ∀ x ∈ o.s.asm, AsTold P W0 x) → JobS P W0 job s outs := by
  intro n
  induction n with
  | zero => intro job s outs h; simp [execS, codeS] at h
  | succ n ih =>
    intro job s outs h hA
    have one : ∀ {x : AExit} {v : Value} {s' : CSt} {tr : List DTr}, outs = [⟨x, v, s', tr⟩] → ∀ {x' : AExit} {st' : ASt}, x' = x → st' = s'.st → ∃ o ∈ outs, x' = o.x ∧ st' = o.s.st := by
      intro x v s' tr e x' st' e1 e2
      subst e
      exact ⟨_, List.mem_singleton.2 rfl, e1, e2⟩
    cases job with
    | code c =>
      simp only [JobS]
      cases c with
      | skip => simp only [execS, codeS, loopS, scopeS, opsS, dopsS, xbrS, callS, Option.some.injEq] at h; exact Trip.skip (one h.symm rfl rfl)
      | label l => simp only [execS, codeS, loopS, scopeS, opsS, dopsS, xbrS, callS, Option.some.injEq] at h; exact Trip.label (one h.symm rfl rfl)
      | exit id => simp only [execS, codeS, loopS, scopeS, opsS, dopsS, xbrS, callS, Option.some.injEq] at h; exact Trip.exit (one h.symm rfl rfl)
      | goto l => simp only [execS, codeS, loopS, scopeS, opsS, dopsS, xbrS, callS, Option.some.injEq] at h; exact Trip.goto (one h.symm rfl rfl)
      | ret => simp only [execS, codeS, loopS, scopeS, opsS, dopsS, xbrS, callS, Option.some.injEq] at h; exact Trip.ret (one h.symm rfl rfl)
      | seq a b =>
        simp only [execS, codeS, loopS, scopeS, opsS, dopsS, xbrS, callS] at h
        obtain ⟨l, hl, hk⟩ := thenS_spec h
        have hall : ∀ o ∈ l, ∀ x ∈ o.s.asm, AsTold P W0 x := fun o ho => by
          obtain ⟨a', ha', hm'⟩ := hk o ho
          split at ha'
          · exact told_of_grew (execS_grew _ _ _ _ ha') hm' hA
          · cases ha'; exact hA o (hm' o (List.mem_singleton.2 rfl))
        have i1 := ih _ _ _ hl hall
        simp only [JobS] at i1
        refine Trip.seq (Trip.mono i1 ?_)
        rintro x st' ⟨o, ho, rfl, rfl⟩
        obtain ⟨a', ha', hm'⟩ := hk o ho
        cases hx : o.x with
        | normal =>
          simp only [hx] at ha'
          have i2 := ih _ _ _ ha' (fun o ho => hA o (hm' o ho))
          simp only [JobS] at i2
          exact Trip.mono i2 (fun x st' ⟨o, ho, h1, h2⟩ => ⟨o, hm' o ho, h1, h2⟩)
        | exit id => simp only [hx] at ha'; cases ha'; exact ⟨o, hm' o (List.mem_singleton.2 rfl), hx.symm, rfl⟩
        | goto l => simp only [hx] at ha'; cases ha'; exact ⟨o, hm' o (List.mem_singleton.2 rfl), hx.symm, rfl⟩
        | ret => simp only [hx] at ha'; cases ha'; exact ⟨o, hm' o (List.mem_singleton.2 rfl), hx.symm, rfl⟩
      | cond c a b =>
        simp only [execS, codeS, loopS, scopeS, opsS, dopsS, xbrS, callS] at h
        split at h
        · rename_i hc; exact Trip.cond hc (ih _ _ _ h hA)
        · rename_i hc; exact Trip.cond hc (ih _ _ _ h hA)
        · cases h
      | block id c =>
        simp only [execS, codeS, loopS, scopeS, opsS, dopsS, xbrS, callS] at h
        obtain ⟨l, hl, hk⟩ := thenS_spec h
        have hall : ∀ o ∈ l, ∀ x ∈ o.s.asm, AsTold P W0 x := fun o ho => by
          obtain ⟨a', ha', hm'⟩ := hk o ho
          split at ha'
          · split at ha'
            · cases ha'; have q := hA _ (hm' _ (List.mem_singleton.2 rfl)); exact q
            · cases ha'; exact hA o (hm' o (List.mem_singleton.2 rfl))
          · cases ha'; exact hA o (hm' o (List.mem_singleton.2 rfl))
        have i1 := ih _ _ _ hl hall
        simp only [JobS] at i1
        refine Trip.block (Trip.mono i1 ?_)
        rintro x st' ⟨o, ho, rfl, rfl⟩
        obtain ⟨a', ha', hm'⟩ := hk o ho
        cases hx : o.x with
        | normal => simp only [hx] at ha'; cases ha'; exact ⟨o, hm' o (List.mem_singleton.2 rfl), hx.symm, rfl⟩
        | exit id' =>
          simp only [hx] at ha'
          simp only [blockExit]
          split at ha'
          · rename_i hid; cases ha'; rw [if_pos hid]; exact ⟨_, hm' _ (List.mem_singleton.2 rfl), rfl, rfl⟩
          · rename_i hid; cases ha'; rw [if_neg hid]; exact ⟨o, hm' o (List.mem_singleton.2 rfl), hx.symm, rfl⟩
        | goto l => simp only [hx] at ha'; cases ha'; exact ⟨o, hm' o (List.mem_singleton.2 rfl), hx.symm, rfl⟩
        | ret => simp only [hx] at ha'; cases ha'; exact ⟨o, hm' o (List.mem_singleton.2 rfl), hx.symm, rfl⟩
      | loop c =>
        simp only [execS, codeS, loopS, scopeS, opsS, dopsS, xbrS, callS] at h
        obtain ⟨k, hk⟩ := ih _ _ _ h hA
        exact Trip.loop k hk
      | scope b =>
        simp only [execS, codeS, loopS, scopeS, opsS, dopsS, xbrS, callS] at h
        obtain ⟨k, hk⟩ := ih _ _ _ h hA
        exact Trip.scope k hk
      | region id ops draw =>
        simp only [execS, codeS, loopS, scopeS, opsS, dopsS, xbrS, callS] at h
        cases draw with
        | false =>
          simp only [Bool.false_eq_true, if_false] at h
          obtain ⟨e1, e2⟩ := ih _ _ _ h hA
          have := e2 0 (by simp)
          rw [← List.range_eq_range'] at this
          refine Trip.region ?_
          rw [show ops.size = ops.toList.length by simp]
          exact Ops.mono this (fun s ⟨o, ho, e⟩ => ⟨o, ho, (e1 o ho).symm, e⟩)
        | true =>
          simp only [if_true] at h
          split at h
          · split at h
            · rename_i hst
              exact xstart hm hst h (fun z hz => by
                obtain ⟨q1, q2⟩ := ih _ _ _ hz hA
                exact ⟨q1, q2 hst⟩)
            · cases h
          split at h
          · rename_i hst
            split at h
            · rename_i hdy
              split at h
              · rename_i o hd
                cases h
                have htr := ih _ _ _ hd (fun o' ho' => by rw [List.mem_singleton.1 ho']; have q := hA _ (List.mem_singleton.2 rfl); exact q) o (List.mem_singleton.2 rfl)
                obtain ⟨a1, a2, a3, a4⟩ := htr.at
                have hsz : ops.size = ops.toList.length := by simp
                have hn : o.s.n = s.st.n := by have := a3; rw [a2] at this; exact this
                have hdr := drawn_reg o.tr s o.s hst (regG_spec hdy) htr
                refine Trip.drawn hm hdr ⟨_, List.mem_singleton.2 rfl, rfl, ?_⟩
                rw [hsz, a2, ← hn]
                rfl
              · cases h
            · split at h
              · rename_i o hd
                split at h
                case isFalse =>
                  exact xstart hm hst h (fun z hz => by
                    obtain ⟨q1, q2⟩ := ih _ _ _ hz hA
                    exact ⟨q1, q2 hst⟩)
                · rename_i hdy
                  cases h
                  have htr := ih _ _ _ hd (fun o' ho' => by rw [List.mem_singleton.1 ho']; have q := hA _ (List.mem_singleton.2 rfl); exact q) o (List.mem_singleton.2 rfl)
                  obtain ⟨a1, a2, a3, a4⟩ := htr.at
                  have hsz : ops.size = ops.toList.length := by simp
                  have hn : o.s.n = s.st.n := by have := a3; rw [a2] at this; exact this
                  obtain ⟨ss, hdr⟩ := drawn_dyn o.tr s.bump o.s hst htr hdy
                  have hdr' : DrawnF P W0 ops ⟨s.st.tm, s.st.n, s.st.H, s.st.nx + 1⟩ _ _ _ _ _ _ _ _ _ := hdr
                  refine Trip.drawnB hm hdr' ⟨_, List.mem_singleton.2 rfl, rfl, ?_⟩
                  rw [hsz, a2]
                  show (⟨o.s.tm, s.st.n, o.s.ht.get, o.s.nx⟩ : ASt) = o.s.st
                  rw [← hn]
                  rfl
              · cases h
          · cases h
      | rangeFunc g ps asg body =>
        simp only [execS, codeS] at h
        exact rangeS_sound hE hsm (fun job s outs h hA => ih job s outs h hA) (fun job s outs h => execS_grew _ _ _ _ h) h hA
      | _ => simp [execS, codeS] at h
    | loop c =>
      simp only [execS, codeS, loopS, scopeS, opsS, dopsS, xbrS, callS] at h
      obtain ⟨l, hl, hk⟩ := thenS_spec h
      have hall : ∀ o ∈ l, ∀ x ∈ o.s.asm, AsTold P W0 x := fun o ho => by
        obtain ⟨a', ha', hm'⟩ := hk o ho
        split at ha'
        · exact told_of_grew (execS_grew _ _ _ _ ha') hm' hA
        · cases ha'; exact hA o (hm' o (List.mem_singleton.2 rfl))
      have i1 := ih _ _ _ hl hall
      simp only [JobS] at i1 ⊢
      have hex : ∀ o ∈ l, ∃ k, (match o.x with | .normal => Rnd P W0 c (fun x st' => ∃ o ∈ outs, x = o.x ∧ st' = o.s.st) k o.s.st | _ => o ∈ outs) := fun o ho => by
        obtain ⟨a', ha', hm'⟩ := hk o ho
        cases hx : o.x with
        | normal =>
          simp only [hx] at ha'
          obtain ⟨k, hk⟩ := ih _ _ _ ha' (fun o ho => hA o (hm' o ho))
          exact ⟨k, Rnd.more (fun x st' ⟨o, ho, h1, h2⟩ => ⟨o, hm' o ho, h1, h2⟩) _ _ _ (Nat.le_refl _) hk⟩
        | exit id => simp only [hx] at ha'; cases ha'; exact ⟨0, hm' o (List.mem_singleton.2 rfl)⟩
        | goto l => simp only [hx] at ha'; cases ha'; exact ⟨0, hm' o (List.mem_singleton.2 rfl)⟩
        | ret => simp only [hx] at ha'; cases ha'; exact ⟨0, hm' o (List.mem_singleton.2 rfl)⟩
      obtain ⟨K, hK⟩ := exMax (fun o n m hnm h => by
        split
        · rename_i hx; simp only [hx] at h; exact Rnd.more (fun _ _ h => h) _ _ _ hnm h
        · rename_i hx
          cases hx' : o.x with
          | normal => exact absurd hx' hx
          | exit id => simpa only [hx'] using h
          | goto id => simpa only [hx'] using h
          | ret => simpa only [hx'] using h) l hex
      refine ⟨K + 1, Trip.mono i1 ?_⟩
      rintro x st' ⟨o, ho, rfl, rfl⟩
      have := hK o ho
      cases hx : o.x with
      | normal => simpa only [hx] using this
      | exit id => simp only [hx] at this; exact ⟨o, this, hx.symm, rfl⟩
      | goto id => simp only [hx] at this; exact ⟨o, this, hx.symm, rfl⟩
      | ret => simp only [hx] at this; exact ⟨o, this, hx.symm, rfl⟩
    | scope b c =>
      simp only [execS, codeS, loopS, scopeS, opsS, dopsS, xbrS, callS] at h
      obtain ⟨l, hl, hk⟩ := thenS_spec h
      have hall : ∀ o ∈ l, ∀ x ∈ o.s.asm, AsTold P W0 x := fun o ho => by
        obtain ⟨a', ha', hm'⟩ := hk o ho
        split at ha'
        · split at ha'
          · exact told_of_grew (execS_grew _ _ _ _ ha') hm' hA
          · cases ha'; exact hA o (hm' o (List.mem_singleton.2 rfl))
        · cases ha'; exact hA o (hm' o (List.mem_singleton.2 rfl))
      have i1 := ih _ _ _ hl hall
      simp only [JobS] at i1 ⊢
      have hex : ∀ o ∈ l, ∃ k, (match o.x with | .goto l => (match findLabel b l with | some rest => Scp P W0 b (fun x st' => ∃ o ∈ outs, x = o.x ∧ st' = o.s.st) k rest o.s.st | none => o ∈ outs) | _ => o ∈ outs) := fun o ho => by
        obtain ⟨a', ha', hm'⟩ := hk o ho
        cases hx : o.x with
        | goto lb =>
          simp only [hx] at ha'
          cases hf : findLabel b lb with
          | none => simp only [hf] at ha'; cases ha'; exact ⟨0, by simp only [hf]; exact hm' o (List.mem_singleton.2 rfl)⟩
          | some rest =>
            simp only [hf] at ha'
            obtain ⟨k, hk⟩ := ih _ _ _ ha' (fun o ho => hA o (hm' o ho))
            exact ⟨k, by simp only [hf]; exact Scp.more (fun x st' ⟨o, ho, h1, h2⟩ => ⟨o, hm' o ho, h1, h2⟩) _ _ _ _ (Nat.le_refl _) hk⟩
        | normal => simp only [hx] at ha'; cases ha'; exact ⟨0, hm' o (List.mem_singleton.2 rfl)⟩
        | exit id => simp only [hx] at ha'; cases ha'; exact ⟨0, hm' o (List.mem_singleton.2 rfl)⟩
        | ret => simp only [hx] at ha'; cases ha'; exact ⟨0, hm' o (List.mem_singleton.2 rfl)⟩
      obtain ⟨K, hK⟩ := exMax (fun o n m hnm h => by
        cases hx : o.x with
        | goto lb =>
          simp only [hx] at h ⊢
          cases hf : findLabel b lb with
          | none => simpa only [hf] using h
          | some rest => simp only [hf] at h ⊢; exact Scp.more (fun _ _ h => h) _ _ _ _ hnm h
        | normal => simpa only [hx] using h
        | exit id => simpa only [hx] using h
        | ret => simpa only [hx] using h) l hex
      refine ⟨K + 1, Trip.mono i1 ?_⟩
      rintro x st' ⟨o, ho, rfl, rfl⟩
      have := hK o ho
      cases hx : o.x with
      | goto lb =>
        simp only [hx] at this ⊢
        cases hf : findLabel b lb with
        | none => simp only [hf] at this ⊢; exact ⟨o, this, hx.symm, rfl⟩
        | some rest => simpa only [hf] using this
      | normal => simp only [hx] at this; exact ⟨o, this, hx.symm, rfl⟩
      | exit id => simp only [hx] at this; exact ⟨o, this, hx.symm, rfl⟩
      | ret => simp only [hx] at this; exact ⟨o, this, hx.symm, rfl⟩
    | ops ops l =>
      cases l with
      | nil =>
        simp only [execS, codeS, loopS, scopeS, opsS, dopsS, xbrS, callS, Option.some.injEq] at h
        subst h
        exact ⟨fun o ho => by rw [List.mem_singleton.1 ho], fun i _ => Ops.nil ⟨_, List.mem_singleton.2 rfl, rfl⟩⟩
      | cons o l =>
        simp only [execS, codeS, loopS, scopeS, opsS, dopsS, xbrS, callS, Bool.cond_eq_ite] at h
        split at h
        case isFalse => cases h
        rename_i hd
        split at h
        · rename_i hw
          split at h
          · rename_i f args hc
            split at h
            · rename_i hx
              split at h
              · rename_i x
                obtain ⟨e1, e2⟩ := ih _ _ _ h hA
                refine ⟨e1, fun i hi => ?_⟩
                obtain ⟨hoi, hl⟩ := drop_head hi
                rw [List.length_cons, List.range'_succ]
                refine Ops.extG hoi hw hd hc (fun hl => hX f hl hx) (hXb f hx) ?_
                have := e2 (i + 1) hl
                rw [CSt.put_st] at this
                exact this
              · cases h
            split at h
            · rename_i hx2
              split at h
              · rename_i x hxv
                obtain ⟨e1, e2⟩ := ih _ _ _ h hA
                refine ⟨e1, fun i hi => ?_⟩
                obtain ⟨hoi, hl⟩ := drop_head hi
                rw [List.length_cons, List.range'_succ]
                refine Ops.idxG hoi hw hd hc hxv (fun hl => hI f hl hx2) (Nat.lt_of_le_of_lt (Nat.le_add_left f XB) (hXb _ hx2)) ?_
                have := e2 (i + 1) hl
                rw [CSt.put_st] at this
                exact this
              · cases h
            · obtain ⟨l1, hl1, hk, hback⟩ := thenS_back h
              have hall : ∀ r ∈ l1, ∀ x ∈ r.s.asm, AsTold P W0 x := fun r hr => by
                obtain ⟨a', ha', hm'⟩ := hk r hr
                exact told_of_grew (s := s.put o.dst r.v r.s.ht r.s.nx r.s.asm) (execS_grew _ _ _ _ ha') hm' hA
              have c1 := ih _ _ _ hl1 hall
              refine ⟨fun o' ho' => ?_, fun i hi => ?_⟩
              · obtain ⟨r, hr, a', ha', hoa⟩ := hback o' ho'
                obtain ⟨a'', ha'', hm'⟩ := hk r hr
                rw [ha'] at ha''
                cases ha''
                exact (ih _ _ _ ha' (fun o ho => hA o (hm' o ho))).1 o' hoa
              · obtain ⟨hoi, hl⟩ := drop_head hi
                rw [List.length_cons, List.range'_succ]
                refine Ops.callG hoi hw hd hc c1 ?_
                rintro v' nx' H' ⟨r, hr, rfl, rfl, rfl⟩
                obtain ⟨a', ha', hm'⟩ := hk r hr
                obtain ⟨e1, e2⟩ := ih _ _ _ ha' (fun o ho => hA o (hm' o ho))
                have := e2 (i + 1) hl
                rw [CSt.put_st] at this
                exact Ops.mono this (fun s ⟨o, ho, e⟩ => ⟨o, hm' o ho, e⟩)
          · rename_i hc
            split at h
            · rename_i it hnx
              split at h
              · rename_i rs hrs
                have hk := bindS_spec h
                refine ⟨fun o' ho' => ?_, fun i hi => ?_⟩
                · obtain ⟨r, hr, a', ha', hoa⟩ := bindS_back h o' ho'
                  obtain ⟨a'', ha'', hm'⟩ := hk r hr
                  rw [ha'] at ha''
                  cases ha''
                  exact (ih _ _ _ ha' (fun o ho => hA o (hm' o ho))).1 o' hoa
                · obtain ⟨hoi, hl⟩ := drop_head hi
                  rw [List.length_cons, List.range'_succ]
                  refine Ops.nexts hoi hw hd hnx hrs ?_
                  intro r hr
                  obtain ⟨a', ha', hm'⟩ := hk r hr
                  obtain ⟨e1, e2⟩ := ih _ _ _ ha' (fun o ho => hA o (hm' o ho))
                  have := e2 (i + 1) hl
                  rw [st_put] at this
                  exact Ops.mono this (fun s ⟨o, ho, e⟩ => ⟨o, hm' o ho, e⟩)
              · cases h
            · split at h
              · rename_i v e hop
                obtain ⟨e1, e2⟩ := ih _ _ _ h hA
                refine ⟨e1, fun i hi => ?_⟩
                obtain ⟨hoi, hl⟩ := drop_head hi
                rw [List.length_cons, List.range'_succ]
                refine Ops.step hoi hw hd hop ?_
                have := e2 (i + 1) hl
                rw [st_put] at this
                exact this
              · cases h
        · rename_i hw
          obtain ⟨e1, e2⟩ := ih _ _ _ h hA
          refine ⟨e1, fun i hi => ?_⟩
          obtain ⟨hoi, hl⟩ := drop_head hi
          rw [List.length_cons, List.range'_succ]
          refine Ops.skip hoi (by simpa using hw) hd ?_
          have := e2 (i + 1) hl
          rw [CSt.put_st] at this
          exact this
    | dops ops l =>
      cases l with
      | nil =>
        simp only [execS, codeS, loopS, scopeS, opsS, dopsS, xbrS, callS, Option.some.injEq] at h
        subst h
        intro o ho
        rw [List.mem_singleton.1 ho]
        exact rfl
      | cons o l =>
        simp only [execS, codeS, loopS, scopeS, opsS, dopsS, xbrS, callS] at h
        split at h
        case isFalse => cases h
        rename_i hd
        split at h
        · rename_i hw
          split at h
          · rename_i f args hc
            split at h
            · rename_i r hcall
              split at h
              · rename_i q hrest
                cases h
                intro o' ho'
                rw [List.mem_singleton.1 ho']
                have hAq : ∀ o ∈ [q], ∀ x ∈ o.s.asm, AsTold P W0 x := fun o ho => by rw [List.mem_singleton.1 ho]; have q := hA _ (List.mem_singleton.2 rfl); exact q
                have hAr : ∀ o ∈ [r], ∀ x ∈ o.s.asm, AsTold P W0 x := fun o' ho => by
                  rw [List.mem_singleton.1 ho]
                  exact told_of_grew (s := s.put o.dst r.v r.s.ht r.s.nx r.s.asm) (execS_grew _ _ _ _ hrest) (fun x hx => hx) hAq
                have c1 := ih _ _ _ hcall hAr
                have i2 := ih _ _ _ hrest hAq q (List.mem_singleton.2 rfl)
                refine ⟨rfl, s.put o.dst r.v r.s.ht r.s.nx r.s.asm, rfl, ⟨dstOk_spec hd, .inr ⟨hw, .inr (.inr ⟨f, args, hc, ?_⟩)⟩⟩, fun x => (by cases x), i2⟩
                exact c1.mono (fun v nx1 H1 ⟨o, ho, e1, e2, e3⟩ => by
                  rw [List.mem_singleton.1 ho] at e1 e2 e3
                  exact ⟨e1, e2, e3⟩)
              · cases h
            · cases h
          · rename_i hc
            split at h
            · rename_i v e hop
              split at h
              · rename_i q hrest
                cases h
                intro o' ho'
                rw [List.mem_singleton.1 ho']
                have i2 := ih _ _ _ hrest (fun o ho => by rw [List.mem_singleton.1 ho]; have q := hA _ (List.mem_singleton.2 rfl); exact q) q (List.mem_singleton.2 rfl)
                refine ⟨rfl, s.put o.dst v (e.tree s.nx s.ht) (e.nx s.nx) s.asm, rfl, ⟨dstOk_spec hd, .inr ⟨hw, .inl ⟨e, hop, Eff.tree_get e s.nx s.ht, rfl⟩⟩⟩, fun x => ?_, i2⟩
                cases e with
                | none => exact ⟨rfl, rfl⟩
                | _ => simp [Eff.isNone] at x
              · cases h
            · cases h
        · rename_i hw
          split at h
          · rename_i q hrest
            cases h
            intro o' ho'
            rw [List.mem_singleton.1 ho']
            have i2 := ih _ _ _ hrest (fun o ho => by rw [List.mem_singleton.1 ho]; have q := hA _ (List.mem_singleton.2 rfl); exact q) q (List.mem_singleton.2 rfl)
            exact ⟨rfl, s.put o.dst undef s.ht s.nx s.asm, rfl, ⟨dstOk_spec hd, .inl ⟨by simpa using hw, rfl, rfl, rfl⟩⟩, fun x => ⟨rfl, rfl⟩, i2⟩
          · cases h
    | xbr ops es r =>
      have hh := h
      simp only [execS, codeS, loopS, scopeS, opsS, dopsS, xbrS, callS] at h
      split at h
      case isFalse => cases h
      rename_i hstab
      split at h
      · rename_i hrs
        split at h
        case isFalse => cases h
        rename_i hall
        cases h
        refine ⟨fun o ho => by rw [List.mem_singleton.1 ho], fun hst => ?_⟩
        exact xdone hst hrs hall hstab
      · rename_i rs hrs
        refine ⟨fun o ho => ?_, fun hst => ?_⟩
        · obtain ⟨e, he, a, ha, hoa⟩ := bindS_back h o ho
          obtain ⟨a2, ha2, hsub⟩ := bindS_spec h e he
          rw [ha] at ha2
          cases ha2
          have hA' : ∀ o ∈ a, ∀ x ∈ o.s.asm, AsTold P W0 x := fun o ho => hA o (hsub o ho)
          split at ha
          case h_2 => cases ha
          split at ha
          case isFalse => cases ha
          split at ha
          · split at ha
            · obtain ⟨l1, hl1, hk, hback⟩ := thenS_back ha
              obtain ⟨q, hq, a', ha', hoa'⟩ := hback o hoa
              obtain ⟨a2, ha2, hsub2⟩ := hk q hq
              rw [ha'] at ha2
              cases ha2
              obtain ⟨z, _, hz⟩ := nextX_spec ha'
              exact (ih _ _ _ hz (fun o ho => hA' o (hsub2 o ho))).1 o hoa'
            · split at ha
              · obtain ⟨z, _, hz⟩ := nextX_spec ha
                exact (ih _ _ _ hz hA').1 o hoa
              · cases ha
          · obtain ⟨z, _, hz⟩ := nextX_spec ha
            exact (ih _ _ _ hz hA').1 o hoa
        · refine xstep hst hstab (fun q => hrs q) ?_
          intro e o he hoe
          obtain ⟨a, ha, hsub⟩ := bindS_spec h e he
          have hA' : ∀ o ∈ a, ∀ x ∈ o.s.asm, AsTold P W0 x := fun o ho => hA o (hsub o ho)
          simp only [hoe] at ha
          split at ha
          case isFalse => cases ha
          rename_i hd
          refine ⟨hd, ?_⟩
          split at ha
          · rename_i hw
            refine .inr ⟨hw, ?_⟩
            split at ha
            · rename_i f args hc
              obtain ⟨l1, hl1, hk, hback⟩ := thenS_back ha
              have hall : ∀ r ∈ l1, ∀ x ∈ r.s.asm, AsTold P W0 x := fun q hq => by
                obtain ⟨a', ha', hm'⟩ := hk q hq
                have g := nextX_grew ha' (fun z hz => execS_grew _ _ _ _ hz)
                exact told_of_grew (s := (XSt.did ⟨s, r⟩ e o q.v q.s.ht q.s.nx q.s.asm).s) g hm' hA'
              have c1 := ih _ _ _ hl1 hall
              refine .inr ⟨f, args, _, hc, c1, ?_⟩
              rintro v nx1 H1 ⟨q, hq, rfl, rfl, rfl⟩
              obtain ⟨a', ha', hm'⟩ := hk q hq
              obtain ⟨z, hz1, hz⟩ := nextX_spec ha'
              exact ⟨q.s.ht, q.s.asm, z, a', rfl, hz1, fun o ho => hsub o (hm' o ho), (ih _ _ _ hz (fun o ho => hA' o (hm' o ho))).2 hst⟩
            · rename_i hc
              split at ha
              · rename_i v ef hop
                obtain ⟨z, hz1, hz⟩ := nextX_spec ha
                exact .inl ⟨v, ef, z, a, hop, hz1, hsub, (ih _ _ _ hz hA').2 hst⟩
              · cases ha
          · rename_i hw
            obtain ⟨z, hz1, hz⟩ := nextX_spec ha
            exact .inl ⟨by simpa using hw, z, a, hz1, hsub, (ih _ _ _ hz hA').2 hst⟩
    | call f args =>
      have hg0 := execS_grew _ _ _ _ h
      simp only [execS, codeS, loopS, scopeS, opsS, dopsS, xbrS, callS] at h
      split at h
      · rename_i v hov
        cases h
        obtain ⟨t1, t2⟩ := hA _ (List.mem_singleton.2 rfl) (f, args, v) (List.mem_cons_self ..)
        exact .inl ⟨t1.lt hsm, t1, (t2 s.nx s.ht.get).mono (fun v nx1 H1 ⟨e1, e2, e3⟩ => ⟨_, List.mem_singleton.2 rfl, e1, e2, e3⟩)⟩
      rw [Bool.cond_eq_ite] at h
      split at h
      · rename_i hle
        exact roundS_sound (Nat.le_of_ble_eq_true hle) (fun job s outs h hA => ih job s outs h hA) (fun job s outs h => execS_grew _ _ _ _ h) h hA
      split at h
      case h_2 => cases h
      rename_i fn hf
      split at h
      case h_2 => cases h
      rename_i c hb
      have hent : Enters P f := ⟨fn, hf, hE f fn hf, by simp [hb]⟩
      have htm : ∀ t, (⟨argTree args 0 .leaf, args.length + (fn.ntmps - args.length), s.ht, s.nx, s.asm⟩ : CSt).tm t = (args[t]?).getD undef := by
        intro t
        simp only [CSt.tm, argTree_get, Nat.zero_add, Nat.zero_le, true_and, Nat.sub_zero, Tree.get_leaf]
        split
        · rfl
        · rename_i hlt; rw [List.getElem?_eq_none (by omega)]
      split at h
      case h_2 => cases h
      rename_i l hl
      have hgl := execS_grew _ _ _ _ hl
      have main : ∀ l2, resL P fn.results l = some l2 → (∀ o ∈ l2, ∀ x ∈ o.s.asm, AsTold P W0 x) → ACalls P W0 f args s.nx s.ht.get fun v nx H => ∃ o ∈ l2, v = o.v ∧ nx = o.s.nx ∧ H = o.s.ht.get := by
        intro l2 hl2 hA2
        obtain ⟨r1, r2, r3⟩ := resL_spec hl2
        have i1 := ih _ _ _ hl (fun o ho => by
          obtain ⟨o', ho', e⟩ := r2 o ho
          rw [← (resS_spec e).2.2]
          exact hA2 o' ho')
        refine ACalls.of_trip hf hb htm (Trip.mono i1 ?_)
        rintro x st' ⟨o, ho, rfl, rfl⟩
        obtain ⟨o', ho', e⟩ := r2 o ho
        obtain ⟨e1, e2, e3⟩ := resS_spec e
        exact ⟨e1, o'.v, e2, o', ho', rfl, by rw [e3]; rfl, by rw [e3]; rfl⟩
      split at h
      · rename_i o ho
        cases h
        exact .inl ⟨hent.lt hsm, hent, main _ ho hA⟩
      · rename_i l2 _ hl2
        split at h
        case h_2 =>
          cases h
          exact .inl ⟨hent.lt hsm, hent, main _ hl2 hA⟩
        rename_i m hmm
        cases h
        obtain ⟨m1, m2, m3, m4⟩ := mergeS_spec hmm
        obtain ⟨r1, r2, r3⟩ := resL_spec hl2
        have hS : ∀ x ∈ s.asm, AsTold P W0 x := told_of_grew hg0 (fun x hx => hx) hA
        refine .inl ⟨hent.lt hsm, hent, (main l2 hl2 (fun o ho => ?_)).lessOr ?_⟩
        · obtain ⟨o1, ho1, e1⟩ := r3 o ho
          obtain ⟨t, e⟩ := hgl.2 o1 ho1
          have hlen := m1 o ho
          rw [(resS_spec e1).2.2] at hlen ⊢
          rw [e] at hlen ⊢
          have : t = [] := by
            rw [← List.length_eq_zero_iff]
            simp only [List.length_append] at hlen
            omega
          subst this
          exact hS
        · rintro v nx1 H1 ⟨o, ho, rfl, rfl, rfl⟩
          obtain ⟨o', ho', e⟩ := m3 o ho
          rcases e with ⟨e1, e2, e3⟩ | ⟨τ, e1, e2, e3, e4, e5, e6⟩
          · exact .inl ⟨o'.s.nx, o'.s.ht.get, e2, e3, fun m hm hl => (by rw [m4 o ho m hm] at hl; cases hl), o', ho', e1.symm, rfl, rfl⟩
          · exact .inr ⟨o'.v, o'.s.nx, o'.s.ht.get, τ, e1, e2, e3, e4, e5, e6, fun m hm => m4 o ho m hm, o', ho', rfl, rfl, rfl⟩
      · cases h
def isTrue (v : Value) : Bool := match v with | .bool b => b | _ => false
def chkS (l : Option (List Out)) : Option (Bool × Asm) :=
  match l with
  | some l => some (l.all fun o => isTrue o.v, l.flatMap fun o => o.s.asm)
  | none => none
theorem Fit.yesS (hP : Fit P xs) {T : Tables} {n : Nat} {f : FuncId} {args : List Value} {L : Asm} (h : chkS (execS P xs ov n (.call f args) ⟨.leaf, 0, tabTree T, NG, []⟩) = some (true, L)) (hL : ∀ x ∈ L, AsTold P W0 x) :
    Enters P f ∧ ACalls P W0 f args NG (tabTree T).get fun v _ _ => v = .bool true := by
  unfold chkS at h
  split at h
  case h_2 => cases h
  rename_i l he
  simp only [Option.some.injEq, Prod.mk.injEq] at h
  obtain ⟨h1, h2⟩ := h
  have hg := execS_sound (W0 := W0) hP.names hP.exts hP.idxs hP.mixed hP.small hP.extsLt n _ _ l he (fun o ho x hx => hL x (by rw [← h2]; exact List.mem_flatMap.2 ⟨o, ho, hx⟩))
  simp only [JobS] at hg
  rcases hg with ⟨_, a, b⟩ | ⟨k, _, e, _⟩
  case inr =>
    obtain ⟨_, _, _, _, _, _, _, e⟩ := isLoop_iff.1 e
    obtain ⟨c, _, h⟩ := tabTree_get e
    cases h
  refine ⟨a, ?_⟩
  have hv : ∀ o ∈ l, o.v = .bool true := fun o ho => by
    have := List.all_eq_true.1 h1 o ho
    unfold isTrue at this
    split at this
    · rename_i b hb; rw [hb, this]
    · cases this
  exact b.mono (fun v nx1 H1 ⟨o, ho, e1, _, _⟩ => by rw [e1]; exact hv o ho)
theorem Fit.toldS (hP : Fit P xs) {T : Tables} {n : Nat} {f : FuncId} {args : List Value} {L : Asm} (ha : args.all plain1 = true) (h : chkS (execS P xs ov n (.call f args) ⟨.leaf, 0, tabTree T, NG, []⟩) = some (true, L)) (hL : ∀ W, Tabs T W → ∀ x ∈ L, AsTold P W x)
    (hT : Tabs T W0) : AsTold P W0 (f, args, .bool true) := by
  refine told_of_callsB (hP.yesS (W0 := W0) h (hL W0 hT)).1 ha rfl (fun w hb => ?_)
  refine (calls_of_told ha w (hT.below hb) (hP.yesS h (hL w (hT.below hb))).2).mono ?_
  rintro e w' ⟨v, v', rfl, rfl, hv, hb⟩
  exact ⟨by rw [hv rfl], hb⟩
end
end
end Go.Am
