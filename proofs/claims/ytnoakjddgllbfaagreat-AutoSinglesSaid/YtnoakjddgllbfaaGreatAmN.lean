/-
  The abstract machine: from an evaluation to a call of the model; calls that are taken as told.
-/
import Derived.Test.YtnoakjddgllbfaaGreatAmM
namespace Go.Am
set_option linter.unusedSimpArgs false
set_option linter.unusedVariables false
open Go.RowKit
noncomputable section

def noHeap : Heap := fun _ => none

def chk (o : Option Out) : Option (Bool × List (FuncId × List Value × Value)) :=
  o.map fun o => ((match o.v with | .bool b => b | _ => false), o.s.asm)

section
variable {P : Program} {W0 : World}

theorem Rel.empty {C : Corr} {w : World} (hb : Below W0.heap.size W0 w) : Rel W0 C 0 noHeap w :=
  ⟨hb, fun _ _ h => (by cases h), fun _ _ h => (by cases h), fun _ _ h => (by cases h), fun _ _ _ _ h => (by cases h)⟩

/-- A run of the model that answers plain data and leaves all that was there. -/
theorem told_of_calls {f : FuncId} {args : List Value} {r : Value} (hf : Enters P f) (ha : args.all plain1 = true) (hr : plain1 r = true)
    (h : ∀ w, Calls P f args.toArray w fun e w' => e = .returned r ∧ Below w.heap.size w w') : AsTold P W0 (f, args, r) := by
  refine ⟨hf, fun nx H C w args' hR hargs => ?_⟩
  have hargs' : args' = args := by
    apply List.ext_getElem hargs.1.symm
    intro i p q
    have hv := hargs.2 i q p
    have hp := List.all_eq_true.1 ha args[i] (List.getElem_mem q)
    generalize args[i] = x at hv hp
    generalize args'[i] = y at hv
    cases hv <;> first | rfl | (simp [plain1] at hp)
  subst hargs'
  refine (h w).mono ?_
  rintro e w' ⟨rfl, hb⟩
  refine ⟨r, r, C, nx, H, rfl, ⟨rfl, rfl, rfl⟩, ?_, plain1_VR hr, Stp.refl _ _ _⟩
  exact hR.world (hR.below.trans (hb.mono hR.below.size)) (fun k hk => hb.block k hk)

theorem calls_of_told {f : FuncId} {args : List Value} {R : Value → Prop} (ha : args.all plain1 = true) (w : World) (h : ACalls P w f args 0 noHeap fun v _ _ => R v) :
    Calls P f args.toArray w fun e w' => ∃ v v', e = .returned v' ∧ R v ∧ (plain1 v = true → v' = v) ∧ Below w.heap.size w w' := by
  refine (h ⟨fun _ => (0, 0), fun _ => 0⟩ w args (Rel.empty (Below.refl _ _)) (plain_VRs ha)).mono ?_
  rintro e w' ⟨v, v', C', nx', H', rfl, hr, hR, hv, hS⟩
  refine ⟨v, v', rfl, hr, fun hp => ?_, hR.below⟩
  cases hv <;> first | rfl | (simp [plain1] at hp)

variable {xs : List Nat} {ov : FuncId → List Value → Option Value}

/-- What a program is asked once. -/
structure Fit (P : Program) (xs : List Nat) : Prop where
  names : ∀ (f : FuncId) (fn : Func), P.funcs[f]? = some fn → (fn.name == "runtime.NumGoroutine") = false
  exts : ∀ f, xs.contains f = true → IdExt P f
  mixed : P.follows .mixedOrders = true

theorem Fit.yes (hP : Fit P xs) {n : Nat} {f : FuncId} {args : List Value} {L : List (FuncId × List Value × Value)} (h : chk (exec P xs ov n (.call f args) ⟨.leaf, 0, .leaf, 0, []⟩) = some (true, L)) (hL : ∀ x ∈ L, AsTold P W0 x) :
    Enters P f ∧ ACalls P W0 f args 0 noHeap fun v _ _ => v = .bool true := by
  unfold chk at h
  cases he : exec P xs ov n (.call f args) ⟨.leaf, 0, .leaf, 0, []⟩ with
  | none => simp [he] at h
  | some out =>
    rw [he] at h
    simp only [Option.map_some, Option.some.injEq, Prod.mk.injEq] at h
    obtain ⟨h1, h2⟩ := h
    obtain ⟨a, b⟩ := exec_sound (W0 := W0) hP.names hP.exts hP.mixed n _ _ out he (fun x hx => hL x (by rw [← h2]; exact hx))
    refine ⟨a, ?_⟩
    have hv : out.v = .bool true := by
      cases hov : out.v <;> simp [hov] at h1
      rw [h1]
    have hH : (⟨.leaf, 0, .leaf, 0, []⟩ : CSt).ht.get = noHeap := by funext m; exact Tree.get_leaf m
    rw [hH] at b
    intro C w args' hR ha
    refine (b C w args' hR ha).mono ?_
    rintro e w' ⟨v, v', C', nx', H', h1, ⟨h2, _⟩, h3⟩
    exact ⟨v, v', C', nx', H', h1, h2.trans hv, h3⟩

/-- A closed call that answers true, taken as told anywhere. -/
theorem Fit.told (hP : Fit P xs) {n : Nat} {f : FuncId} {args : List Value} {L : List (FuncId × List Value × Value)} (ha : args.all plain1 = true) (h : chk (exec P xs ov n (.call f args) ⟨.leaf, 0, .leaf, 0, []⟩) = some (true, L)) (hL : ∀ W, ∀ x ∈ L, AsTold P W x) :
    AsTold P W0 (f, args, .bool true) := by
  refine told_of_calls (hP.yes (W0 := W0) h (hL W0)).1 ha rfl (fun w => ?_)
  refine (calls_of_told ha w (hP.yes h (hL w)).2).mono ?_
  rintro e w' ⟨v, v', rfl, rfl, hv, hb⟩
  exact ⟨by rw [hv rfl], hb⟩

/-- A call of plain data that answers true. -/
theorem Fit.calls (hP : Fit P xs) {n : Nat} {f : FuncId} {args : List Value} {L : List (FuncId × List Value × Value)} (ha : args.all plain1 = true) (h : chk (exec P xs ov n (.call f args) ⟨.leaf, 0, .leaf, 0, []⟩) = some (true, L)) (hL : ∀ W, ∀ x ∈ L, AsTold P W x) (w : World) :
    Calls P f args.toArray w fun e w' => e = .returned (.bool true) ∧ Below w.heap.size w w' := by
  refine (calls_of_told ha w (hP.yes h (hL w)).2).mono ?_
  rintro e w' ⟨v, v', rfl, rfl, hv, hb⟩
  exact ⟨by rw [hv rfl], hb⟩

end
end
end Go.Am
