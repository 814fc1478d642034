/-
  The abstract machine: from an evaluation to a call of the model; calls that are taken as told.
-/
import Derived.Test.YtdeiphgjcmmeoaaAmM
namespace Go.Am
set_option linter.unusedSimpArgs false
set_option linter.unusedVariables false
open Go.RowKit
noncomputable section

def noHeap : Heap := fun _ => none

def chk (o : Option Out) : Option (Bool × List (FuncId × List Value × Value)) :=
  o.map fun o => ((match o.v with | .bool b => b | _ => false), o.s.asm)

section
variable {P : Program} {W0 : World}

/-- No object stands anywhere; no block is pinned. -/
def Corr.nil : Corr := ⟨fun _ => (0, 0), fun _ => 0, fun _ => none⟩

/-- The program's tables, by their variables' numbers. -/
abbrev Tables := List (Nat × List Value)

noncomputable def tabTree (T : Tables) : Tree AObj := T.foldr (fun x t => t.set x.1 (.cells x.2 1 none true none)) .leaf

/-- They lie in the world. -/
def Tabs (T : Tables) (w : World) : Prop := ∀ x ∈ T, x.1 < NG ∧ x.2.all plain1 = true ∧ ∃ Cc el fr, w.heap[x.1]? = some (.cells Cc el fr) ∧ x.2.length ≤ Cc.size ∧ ∀ i, i < x.2.length → Cc[i]? = x.2[i]?

theorem Tabs.nil {w : World} : Tabs [] w := fun _ h => by cases h

theorem Tabs.below {T : Tables} {w w' : World} (h : Tabs T w) (hb : BelD w.heap.size w w') : Tabs T w' := fun x hx => by
  obtain ⟨h1, h2, Cc, el, fr, h3, h4⟩ := h x hx
  exact ⟨h1, h2, Cc, el, fr, (hb.block _ (Array.getElem?_eq_some_iff.1 h3).1).trans h3, h4⟩

theorem tabTree_get {T : Tables} {g : Nat} {o : AObj} (h : (tabTree T).get g = some o) : ∃ c, (g, c) ∈ T ∧ o = .cells c 1 none true none := by
  induction T with
  | nil => simp [tabTree, Tree.get_leaf] at h
  | cons x T ih =>
    simp only [tabTree, List.foldr_cons, Tree.get_set] at h
    split at h
    · rename_i e
      cases h
      subst e
      exact ⟨x.2, List.mem_cons_self .., rfl⟩
    · obtain ⟨c, h1, h2⟩ := ih h
      exact ⟨c, List.mem_cons_of_mem _ h1, h2⟩

theorem tabTree_nil : (tabTree []).get = noHeap := by funext m; exact Tree.get_leaf m

/-- Object g stands for variable g. -/
def Corr.tab (w : World) : Corr := ⟨fun i => (i, 0), fun i => match w.heap[i]? with | some (.cells Cc _ _) => Cc.size | _ => 0, fun _ => none⟩

theorem Rel.tabs {T : Tables} {w : World} (hT : Tabs T w) (hb : BelD W0.heap.size W0 w) : Rel W0 (Corr.tab w) NG (tabTree T).get w := by
  refine ⟨hb, fun g o h => ?_, fun g o h => ?_, fun g o h hro => ?_, fun i j oi oj hi hj _ hro => ?_, fun _ _ h => (by cases h), Nat.le_refl _, fun g o _ h => ?_, fun _ _ _ => rfl⟩
  · obtain ⟨c, hm, rfl⟩ := tabTree_get h
    exact ⟨(hT _ hm).1, fun t ht => by cases ht⟩
  · obtain ⟨c, hm, rfl⟩ := tabTree_get h
    obtain ⟨h1, h2, Cc, el, fr, h3, h4, h5⟩ := hT _ hm
    refine ⟨Cc, el, fr, h3, by simp [Corr.tab, h3], by simpa [Corr.tab] using h4, fun i hi hi' => ?_, fun x => (by cases x), fun t x => (by cases x), fun x => (by cases x), fun x => (by cases x)⟩
    have hq := h5 i hi
    simp only [Corr.tab, Nat.zero_add] at hi' ⊢
    rw [Array.getElem?_eq_getElem hi', List.getElem?_eq_getElem hi, Option.some.injEq] at hq
    rw [hq]
    exact plain1_VR (List.all_eq_true.1 h2 _ (List.getElem_mem hi))
  · obtain ⟨c, _, rfl⟩ := tabTree_get h; cases hro
  · obtain ⟨c, _, rfl⟩ := tabTree_get hi; cases hro
  · obtain ⟨c, _, rfl⟩ := tabTree_get h; exact ⟨rfl, rfl⟩

/-- A run of the model that answers plain data and leaves all that was there. -/
theorem told_of_callsB {f : FuncId} {args : List Value} {r : Value} (hf : Enters P f) (ha : args.all plain1 = true) (hr : plain1 r = true)
    (h : ∀ w, BelD W0.heap.size W0 w → Calls P f args.toArray w fun e w' => e = .returned r ∧ BelD w.heap.size w w') : AsTold P W0 (f, args, r) := by
  refine ⟨hf, fun nx H C w args' hR hargs => ?_⟩
  have hargs' : args' = args := by
    apply List.ext_getElem hargs.1.symm
    intro i p q
    have hv := hargs.2 i q p
    have hp := List.all_eq_true.1 ha args[i] (List.getElem_mem q)
    generalize args[i] = x at hv hp
    generalize args'[i] = y at hv
    cases hv <;> first | rfl | (simp [plain1] at hp)
  subst hargs'
  refine (h w hR.below).mono ?_
  rintro e w' ⟨rfl, hb⟩
  refine ⟨r, r, C, nx, H, rfl, ⟨rfl, rfl, rfl⟩, ?_, plain1_VR hr, Stp.refl _ _ _⟩
  exact hR.world (hR.below.trans (hb.mono hR.below.size)) (fun k hk => hb.block k hk)

theorem told_of_calls {f : FuncId} {args : List Value} {r : Value} (hf : Enters P f) (ha : args.all plain1 = true) (hr : plain1 r = true)
    (h : ∀ w, Calls P f args.toArray w fun e w' => e = .returned r ∧ BelD w.heap.size w w') : AsTold P W0 (f, args, r) := told_of_callsB hf ha hr fun w _ => h w

theorem calls_of_told {T : Tables} {f : FuncId} {args : List Value} {R : Value → Prop} (ha : args.all plain1 = true) (w : World) (hT : Tabs T w) (h : ACalls P w f args NG (tabTree T).get fun v _ _ => R v) :
    Calls P f args.toArray w fun e w' => ∃ v v', e = .returned v' ∧ R v ∧ (plain1 v = true → v' = v) ∧ BelD w.heap.size w w' := by
  refine (h (Corr.tab w) w args (Rel.tabs hT (BelD.refl _ _)) (plain_VRs ha)).mono ?_
  rintro e w' ⟨v, v', C', nx', H', rfl, hr, hR, hv, hS⟩
  refine ⟨v, v', rfl, hr, fun hp => ?_, hR.below⟩
  cases hv <;> first | rfl | (simp [plain1] at hp)

variable {xs : List Nat} {ov : FuncId → List Value → Option Value}

/-- What a program is asked once. -/
structure Fit (P : Program) (xs : List Nat) : Prop where
  names : ∀ (f : FuncId) (fn : Func), P.funcs[f]? = some fn → (fn.name == "runtime.NumGoroutine") = false
  exts : ∀ f, f < XB → xs.contains f = true → IdExt P f
  idxs : ∀ f, f < XB → xs.contains (XB + f) = true → IdxExt P f
  mixed : P.follows .mixedOrders = true
  small : P.funcs.size ≤ YB
  extsLt : ∀ f, xs.contains f = true → f < YB

end
end
end Go.Am
