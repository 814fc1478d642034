/-
  The abstract machine, walked by hand: a region whose order is drawn, that touches no object.
-/
import Derived.Test.YtgljmhhdjdbhgaaGreatAmT
namespace Go.Am
set_option linter.unusedSimpArgs false
set_option linter.unusedVariables false
open Go.RowKit

section
variable {P : Program} {W0 : World} {ops : Array Oper} {H : Heap} {nx n : Nat}

def PStep (P : Program) (ops : Array Oper) (H : Heap) (nx n : Nat) (o : Oper) (tm : Nat → Value) (v : Value) : Prop :=
  (∀ d, o.dst = some d → d < n) ∧ ((wantsT ops tm o = false ∧ v = undef) ∨ (wantsT ops tm o = true ∧ aop P H nx (evR (opTs o) tm) o = some (v, .none)))

def OpsD (P : Program) (ops : Array Oper) (H : Heap) (nx n : Nat) : List Oper → (Nat → Value) → ((Nat → Value) → Prop) → Prop
  | [], tm, Q => Q tm
  | o :: l, tm, Q => ∃ v, PStep P ops H nx n o tm v ∧ OpsD P ops H nx n l (tmPut tm o.dst v) Q

def tmsAt : List Oper → List Value → (Nat → Value) → Nat → (Nat → Value)
  | o :: l, v :: vs, tm, i + 1 => tmsAt l vs (tmPut tm o.dst v) i
  | _, _, tm, _ => tm

theorem OpsD.vals {Q : (Nat → Value) → Prop} : ∀ (l : List Oper) (tm : Nat → Value), OpsD P ops H nx n l tm Q → ∃ vs : List Value, vs.length = l.length ∧ tmsAt l vs tm 0 = tm ∧ Q (tmsAt l vs tm l.length) ∧
    ∀ (i : Nat) (o : Oper), l[i]? = some o → PStep P ops H nx n o (tmsAt l vs tm i) (vs.getD i undef) ∧ tmsAt l vs tm (i + 1) = tmPut (tmsAt l vs tm i) o.dst (vs.getD i undef) := by
  intro l
  induction l with
  | nil => intro tm h; exact ⟨[], rfl, rfl, h, fun i o ho => by simp at ho⟩
  | cons o l ih =>
    intro tm h
    obtain ⟨v, h1, h2⟩ := h
    obtain ⟨vs, e1, e2, e3, e4⟩ := ih _ h2
    have h0 : ∀ (vs : List Value) (tm : Nat → Value), tmsAt l vs tm 0 = tm := by intro vs tm; cases l <;> cases vs <;> rfl
    refine ⟨v :: vs, by simp [e1], rfl, e3, ?_⟩
    intro i o' ho
    cases i with
    | zero =>
      simp only [List.getElem?_cons_zero, Option.some.injEq] at ho
      subst ho
      exact ⟨h1, by show tmsAt l vs (tmPut tm o.dst v) 0 = _; rw [h0]; rfl⟩
    | succ i =>
      have := e4 i o' (by simpa using ho)
      exact this

theorem OpsD.trip {id : Nat} {tm : Nat → Value} {Q : AExit → ASt → Prop} (hm : P.follows .mixedOrders = true) (hs : statOk ops = true) (h : OpsD P ops H nx n ops.toList tm fun tm' => Q .normal ⟨tm', n, H, nx⟩) : Trip P W0 (.region id ops true) ⟨tm, n, H, nx⟩ Q := by
  obtain ⟨vs, e1, e2, e3, e4⟩ := OpsD.vals _ _ h
  obtain ⟨b1, b2, b3⟩ := statOk_spec hs
  have toL : ∀ (i : Nat) (o : Oper), ops[i]? = some o → ops.toList[i]? = some o := fun i o ho => by simpa using ho
  refine Trip.drawn (tms := tmsAt ops.toList vs tm) (vs := fun i => vs.getD i undef) (Hs := fun _ => H) (ns := fun _ => nx) (isE := fun _ => false) hm ⟨e2, rfl, rfl, ?_, ?_, fun _ _ => ⟨rfl, rfl⟩, b1, b2, b3, ?_, ?_, ?_⟩ ?_
  · intro i o ho
    exact (e4 i o (toL i o ho)).2
  · intro i o ho
    obtain ⟨⟨p1, p2⟩, _⟩ := e4 i o (toL i o ho)
    refine ⟨p1, ?_⟩
    rcases p2 with ⟨a, b⟩ | ⟨a, b⟩
    · exact .inl ⟨a, b, rfl, rfl⟩
    · exact .inr ⟨a, .inl ⟨.none, b, rfl, rfl⟩⟩
  · intro i j oj h; cases h
  · intro i oi p ho _ hw _ _ _ _
    obtain ⟨⟨p1, p2⟩, _⟩ := e4 i oi (toL i oi ho)
    rcases p2 with ⟨a, b⟩ | ⟨a, b⟩
    · rw [hw] at a; cases a
    · exact b
  · intro i h; cases h
  · have : ops.toList.length = ops.size := by simp
    rw [this] at e3
    exact e3

theorem evR_tmp {ts : List Tmp} {tm : Nat → Value} {t : Tmp} {v : Value} (hc : ts.contains t = true) (h : tm t = v) : evR ts tm (.tmp t) = some v := by
  simp only [evR, hc, if_true, h]

variable {d : Tmp} {op : Op} {type : TypeId} {pos : String} {after : Array Edge} {l : List Oper} {tm : Nat → Value} {v : Value} {QQ : (Nat → Value) → Prop}
theorem OpsD.nil (h : QQ tm) : OpsD P ops H nx n [] tm QQ := h
theorem OpsD.p (hd : d < n) (hop : aop P H nx (evR (opTs ⟨some d, op, type, pos, after, none⟩) tm) ⟨some d, op, type, pos, after, none⟩ = some (v, .none)) (h : OpsD P ops H nx n l (tmPut tm (some d) v) QQ) :
    OpsD P ops H nx n (⟨some d, op, type, pos, after, none⟩ :: l) tm QQ :=
  ⟨v, ⟨fun d' h' => (Option.some.inj h') ▸ hd, .inr ⟨rfl, hop⟩⟩, h⟩
theorem OpsD.unguard {j : Nat} {want : Bool} {d' : Tmp} (hj : (ops[j]?).bind (·.dst) = some d') (hb : tm d' = .bool want) (h : OpsD P ops H nx n (⟨some d, op, type, pos, after, none⟩ :: l) tm QQ) :
    OpsD P ops H nx n (⟨some d, op, type, pos, after, some (j, want)⟩ :: l) tm QQ := by
  obtain ⟨v, ⟨h1, h2⟩, h3⟩ := h
  refine ⟨v, ⟨h1, .inr ⟨by simp [wantsT, gdst, hj, hb], ?_⟩⟩, h3⟩
  rcases h2 with ⟨a, _⟩ | ⟨_, b⟩
  · simp [wantsT] at a
  · exact b
theorem OpsD.skipped {j : Nat} {want : Bool} {d' : Tmp} (hj : (ops[j]?).bind (·.dst) = some d') (hb : tm d' = .bool (!want)) (hd : d < n) (h : OpsD P ops H nx n l (tmPut tm (some d) undef) QQ) :
    OpsD P ops H nx n (⟨some d, op, type, pos, after, some (j, want)⟩ :: l) tm QQ := by
  refine ⟨undef, ⟨fun d' h' => (Option.some.inj h') ▸ hd, .inl ⟨?_, rfl⟩⟩, h⟩
  cases want <;> simp [wantsT, gdst, hj, hb]
theorem OpsD.guarded {j : Nat} {want : Bool} {d' : Tmp} {p : Prop} [Decidable p] (hj : (ops[j]?).bind (·.dst) = some d') (hb : tm d' = .bool (decide p)) (hd : d < n)
    (h1 : decide p = want → OpsD P ops H nx n (⟨some d, op, type, pos, after, none⟩ :: l) tm QQ) (h2 : decide p = (!want) → OpsD P ops H nx n l (tmPut tm (some d) undef) QQ) :
    OpsD P ops H nx n (⟨some d, op, type, pos, after, some (j, want)⟩ :: l) tm QQ := by
  by_cases e : decide p = want
  · exact OpsD.unguard hj (by rw [hb, e]) (h1 e)
  · have e' : decide p = !want := by revert e; cases decide p <;> cases want <;> simp
    exact OpsD.skipped hj (by rw [hb, e']) hd (h2 e')

end
end Go.Am
