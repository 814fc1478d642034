/-
  A long evaluation in pieces, each from a state of which only what is wanted is kept: slots by their values, some of the objects.
-/
import Derived.Test.YtgljmhhdjdbhgaaGreatAmFz
namespace Go.Am
set_option linter.unusedSimpArgs false
set_option linter.unusedVariables false
open Go.RowKit

noncomputable section

/-- Of one end: these slots, these objects, what was taken as told; no loop goes on, the numbers are below a bound. -/
def pickW (n : Nat) (want ids : List Nat) (NX : Nat) (r : Option (List Out)) : Option (List Value × List (Option AObj) × Asm) :=
  match r with
  | some [o] =>
    match o.x with
    | .normal => cond (Nat.ble o.s.nx NX && (Nat.beq o.s.n n && noLoops o.s.ht o.s.nx)) (some (want.map o.s.tm, ids.map o.s.ht.get, o.s.asm)) none
    | _ => none
  | _ => none

/-- Objects under numbers. -/
def keepT : List (Nat × AObj) → Tree AObj
  | [] => .leaf
  | x :: l => (keepT l).set x.1 x.2

theorem keepT_get : ∀ (l : List (Nat × AObj)) (m : Nat) (o : AObj), (keepT l).get m = some o → (m, o) ∈ l := by
  intro l
  induction l with
  | nil => intro m o h; rw [keepT, Tree.get_leaf] at h; cases h
  | cons x l ih =>
    intro m o h
    rw [keepT, Tree.get_set] at h
    split at h
    · rename_i e
      cases h
      subst e
      exact List.mem_cons_self ..
    · exact List.mem_cons_of_mem _ (ih m o h)

def lookN (l : List (Nat × Value)) (d : Value) (i : Nat) : Value :=
  match l with
  | [] => d
  | x :: l => cond (Nat.beq x.1 i) x.2 (lookN l d i)

/-- Slots: those known, and others. -/
def rowsG (n : Nat) (g : Nat → Value) (known : List (Nat × Value)) : List Value := (List.range n).map fun i => lookN known (g i) i

/-- A state of slots and objects. -/
def stW (vs : List Value) (l : List (Nat × AObj)) (nx : Nat) : CSt := ⟨argTree vs 0 .leaf, vs.length, keepT l, nx, []⟩
def stG (n : Nat) (g : Nat → Value) (known : List (Nat × Value)) (l : List (Nat × AObj)) (nx : Nat) : CSt := ⟨argTree (rowsG n g known) 0 .leaf, n, keepT l, nx, []⟩

theorem lookN_same {tm : Nat → Value} : ∀ (l : List (Nat × Value)) (i : Nat), (∀ x ∈ l, x.2 = tm x.1) → lookN l (tm i) i = tm i := by
  intro l
  induction l with
  | nil => intro i _; rfl
  | cons x l ih =>
    intro i h
    simp only [lookN]
    cases hb : Nat.beq x.1 i with
    | true =>
      have e := Nat.eq_of_beq_eq_true hb
      simp only [cond_true]
      rw [h x (List.mem_cons_self ..), e]
    | false => simp only [cond_false]; exact ih i (fun y hy => h y (List.mem_cons_of_mem _ hy))

section
variable {P : Program} {W0 : World} {xs : List Nat} {ov : Nat → FuncId → List Value → Option Value}

theorem Trip.weakW {c : Code} {s : CSt} {vs : List Value} {l : List (Nat × AObj)} {NX : Nat} {Q : AExit → ASt → Prop} (hn : s.n = vs.length) (hle : s.nx ≤ NX) (hnl : noLoops s.ht s.nx = true) (htm : ∀ t, t < vs.length → vs[t]? = some (s.tm t)) (hob : ∀ x ∈ l, s.ht.get x.1 = some x.2)
    (h : Trip P W0 c (stW vs l NX).st Q) : Trip P W0 c s.st Q := by
  intro ρ C a w hr hs
  have hsub : ∀ m x, (stW vs l NX).st.H m = some x → s.st.H m = some x := fun m x hx => hob _ (keepT_get l m x hx)
  obtain ⟨r1, _, r3⟩ := less_core (nx2 := NX) hs.rel (hs.tm 0) (Stp.refl s.st.nx s.st.H C) hle hsub (fun m hm hl => by have := noLoops_spec _ hnl m hm; rw [show s.st.H m = s.ht.get m from rfl, this] at hl; cases hl)
  have hs' : SRel W0 C (stW vs l NX).st a w := by
    refine ⟨fun t => ?_, hs.sz.trans hn, r1⟩
    have e : (stW vs l NX).st.tm t = (vs[t]?).getD undef := by
      show ((argTree vs 0 .leaf).get t).getD undef = _
      rw [argTree_get]
      simp only [Nat.zero_add, Nat.zero_le, true_and, Nat.sub_zero, Tree.get_leaf]
      split
      · rfl
      · rename_i hlt; rw [List.getElem?_eq_none (by omega)]
    rw [e]
    by_cases hlt : t < vs.length
    · rw [htm t hlt]
      exact (hs.tm t).mono r3
    · rw [List.getElem?_eq_none (by omega)]
      have : a.tmps.getD t undef = undef := by
        rw [Array.getD_eq_getD_getElem?, Array.getElem?_eq_none (by have := hs.sz; have : s.st.n = s.n := rfl; omega)]; rfl
      rw [this]
      exact undef_VR
  refine wpIn_mono (h ρ C a w (hr.next r3) hs') ?_
  rintro e a' w' ⟨x, st', C', rfl, hq, hs2, hS, hn2, hm⟩
  exact ⟨x, st', C', rfl, hq, hs2, r3.trans hS, hn2.trans hn.symm, hm⟩

theorem Fit.pieceG (hP : Fit P xs) {N : Nat} {c : Code} {s : CSt} {n NX : Nat} {want ids : List Nat} {vs : List Value} {objs : List AObj} {L : Asm} {Q : AExit → ASt → Prop} (hc : c = .seq (hdC c) (tlC c))
    (h : pickW n want ids NX (execF P xs ov N (.code (hdC c)) s.tt s.n s.ht s.nx s.asm) = some (vs, objs.map some, L)) (hL : ∀ x ∈ L, AsTold P W0 x) (next : ∀ g : Nat → Value, Trip P W0 (tlC c) (stG n g (want.zip vs) (ids.zip objs) NX).st Q) : Trip P W0 c s.st Q := by
  unfold pickW at h
  split at h
  case h_2 => cases h
  rename_i o ho
  split at h
  case h_2 => cases h
  rename_i hx
  rw [Bool.cond_eq_ite] at h
  split at h
  case isFalse => cases h
  rename_i hcond
  simp only [Bool.and_eq_true] at hcond
  obtain ⟨c1, c2, c3⟩ := hcond
  simp only [Option.some.injEq, Prod.mk.injEq] at h
  obtain ⟨h1, h2, h3⟩ := h
  obtain ⟨x, v, s1, tr⟩ := o
  simp only at hx c1 c2 c3 h1 h2 h3
  subst hx
  have hlen : (rowsG n s1.tm (want.zip vs)).length = n := by simp [rowsG]
  have hst : (stG n s1.tm (want.zip vs) (ids.zip objs) NX) = stW (rowsG n s1.tm (want.zip vs)) (ids.zip objs) NX := by unfold stG stW; rw [hlen]
  refine hP.pieceF hc ho (by rw [h3]; exact hL) (Trip.weakW (vs := rowsG n s1.tm (want.zip vs)) ?_ (Nat.le_of_ble_eq_true c1) c3 ?_ ?_ (hst ▸ next s1.tm))
  · rw [hlen]; exact Nat.eq_of_beq_eq_true c2
  · intro t ht
    rw [hlen] at ht
    have hk : ∀ x ∈ want.zip vs, x.2 = s1.tm x.1 := fun y hy => by
      obtain ⟨i, hi⟩ := List.mem_iff_getElem?.1 hy
      rw [List.getElem?_zip_eq_some] at hi
      obtain ⟨i1, i2⟩ := hi
      have := congrArg (fun l => l[i]?) h1
      simp only [List.getElem?_map, i1, Option.map_some] at this
      rw [i2] at this
      exact (Option.some.inj this).symm
    simp only [rowsG, List.getElem?_map, List.getElem?_range ht, Option.map_some]
    rw [lookN_same _ _ hk]
  · intro y hy
    obtain ⟨i, hi⟩ := List.mem_iff_getElem?.1 hy
    rw [List.getElem?_zip_eq_some] at hi
    obtain ⟨i1, i2⟩ := hi
    have := congrArg (fun l => l[i]?) h2
    simp only [List.getElem?_map, i1, i2, Option.map_some, Option.some.injEq] at this
    exact this

end
end
end Go.Am
