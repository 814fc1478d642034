import Derived.WalkKit
import Derived.Lib.Strings
set_option linter.unusedSimpArgs false
set_option linter.unusedVariables false
set_option maxRecDepth 100000
set_option maxHeartbeats 16000000
namespace Go.Am
open Go.RowKit
noncomputable section
inductive OTree (α : Type) where
  | leaf
  | node (v : Option α) (l r : OTree α)
def OTree.get {α : Type} : OTree α → Nat → Option α
  | .leaf, _ => none
  | .node v l r, n => cond (Nat.beq n 0) v (cond (Nat.beq (Nat.mod n 2) 1) (l.get (Nat.div n 2)) (r.get (Nat.sub (Nat.div n 2) 1)))
def OTree.put {α : Type} (x : Option α) : Nat → OTree α → Nat → OTree α
  | 0, t, _ => t
  | f + 1, .leaf, n => cond (Nat.beq n 0) (.node x .leaf .leaf) (cond (Nat.beq (Nat.mod n 2) 1) (.node none (OTree.put x f .leaf (Nat.div n 2)) .leaf) (.node none .leaf (OTree.put x f .leaf (Nat.sub (Nat.div n 2) 1))))
  | f + 1, .node v l r, n => cond (Nat.beq n 0) (.node x l r) (cond (Nat.beq (Nat.mod n 2) 1) (.node v (OTree.put x f l (Nat.div n 2)) r) (.node v l (OTree.put x f r (Nat.sub (Nat.div n 2) 1))))
theorem OTree.get_leaf {α : Type} (n : Nat) : (OTree.leaf : OTree α).get n = none := by simp [OTree.get]
theorem cond_beq {α : Type} (a b : Nat) (x y : α) : cond (Nat.beq a b) x y = if a = b then x else y := by
  rw [Bool.cond_eq_ite]
  by_cases h : a = b
  · subst h; simp
  · have : Nat.beq a b = false := by cases hb : Nat.beq a b with
      | false => rfl
      | true => exact absurd (Nat.eq_of_beq_eq_true hb) h
    simp [this, h]
theorem OTree.get_node {α : Type} (v : Option α) (l r : OTree α) (n : Nat) : (OTree.node v l r).get n = if n = 0 then v else if n % 2 = 1 then l.get (n / 2) else r.get (n / 2 - 1) := by
  simp only [OTree.get, cond_beq]
  rfl
theorem OTree.put_leaf {α : Type} (x : Option α) (f n : Nat) : OTree.put x (f + 1) .leaf n = if n = 0 then .node x .leaf .leaf else if n % 2 = 1 then .node none (OTree.put x f .leaf (n / 2)) .leaf else .node none .leaf (OTree.put x f .leaf (n / 2 - 1)) := by
  simp only [OTree.put, cond_beq]
  rfl
theorem OTree.put_node {α : Type} (x : Option α) (f : Nat) (v : Option α) (l r : OTree α) (n : Nat) : OTree.put x (f + 1) (.node v l r) n = if n = 0 then .node x l r else if n % 2 = 1 then .node v (OTree.put x f l (n / 2)) r else .node v l (OTree.put x f r (n / 2 - 1)) := by
  simp only [OTree.put, cond_beq]
  rfl
theorem OTree.get_put {α : Type} (x : Option α) : ∀ (f : Nat) (t : OTree α) (n m : Nat), n < f → (OTree.put x f t n).get m = if m = n then x else t.get m := by
  intro f
  induction f with
  | zero => intro t n m h; omega
  | succ f ih =>
    intro t n m h
    have hn : n = 0 ∨ n / 2 < f ∧ n / 2 - 1 < f := by omega
    cases t with
    | leaf =>
      rw [OTree.put_leaf, OTree.get_leaf]
      by_cases c0 : n = 0
      · subst c0
        rw [if_pos rfl, OTree.get_node, OTree.get_leaf, OTree.get_leaf]
        by_cases m0 : m = 0
        · rw [if_pos m0, if_pos m0]
        · rw [if_neg m0, if_neg m0]; split <;> rfl
      · rw [if_neg c0]
        by_cases c1 : n % 2 = 1
        · rw [if_pos c1, OTree.get_node, ih _ _ _ (by omega), OTree.get_leaf, OTree.get_leaf]
          by_cases e : m = n
          · subst e; rw [if_neg c0, if_pos c1, if_pos rfl, if_pos rfl]
          · rw [if_neg e]
            split
            · rfl
            · split
              · rw [if_neg (by omega)]
              · rfl
        · rw [if_neg c1, OTree.get_node, ih _ _ _ (by omega), OTree.get_leaf, OTree.get_leaf]
          by_cases e : m = n
          · subst e; rw [if_neg c0, if_neg c1, if_pos rfl, if_pos rfl]
          · rw [if_neg e]
            split
            · rfl
            · split
              · rfl
              · rw [if_neg (by omega)]
    | node v l r =>
      rw [OTree.put_node, OTree.get_node]
      by_cases c0 : n = 0
      · subst c0
        rw [if_pos rfl, OTree.get_node]
        by_cases m0 : m = 0
        · rw [if_pos m0, if_pos m0]
        · rw [if_neg m0, if_neg m0, if_neg m0]
      · rw [if_neg c0]
        by_cases c1 : n % 2 = 1
        · rw [if_pos c1, OTree.get_node, ih _ _ _ (by omega)]
          by_cases e : m = n
          · subst e; rw [if_neg c0, if_pos c1, if_pos rfl, if_pos rfl]
          · rw [if_neg e]
            split
            · rfl
            · split
              · rw [if_neg (by omega)]
              · rfl
        · rw [if_neg c1, OTree.get_node, ih _ _ _ (by omega)]
          by_cases e : m = n
          · subst e; rw [if_neg c0, if_neg c1, if_pos rfl, if_pos rfl]
          · rw [if_neg e]
            split
            · rfl
            · split
              · rfl
              · rw [if_neg (by omega)]
def OTree.set {α : Type} (t : OTree α) (n : Nat) (x : α) : OTree α := OTree.put (some x) (n + 1) t n
theorem OTree.get_set {α : Type} (t : OTree α) (n m : Nat) (x : α) : (t.set n x).get m = if m = n then some x else t.get m := OTree.get_put (some x) (n + 1) t n m (by omega)
def OTree.del {α : Type} (t : OTree α) (n : Nat) : OTree α := OTree.put none (n + 1) t n
theorem OTree.get_del {α : Type} (t : OTree α) (n m : Nat) : (t.del n).get m = if m = n then none else t.get m := OTree.get_put none (n + 1) t n m (by omega)
structure B16 (α : Type) where
  (a0 a1 a2 a3 a4 a5 a6 a7 a8 a9 a10 a11 a12 a13 a14 a15 : α)
inductive Dig where
  | d0
  | d1
  | d2
  | d3
  | d4
  | d5
  | d6
  | d7
  | d8
  | d9
  | d10
  | d11
  | d12
  | d13
  | d14
  | d15
def digN : Nat → Dig
  | 0 => .d0
  | 1 => .d1
  | 2 => .d2
  | 3 => .d3
  | 4 => .d4
  | 5 => .d5
  | 6 => .d6
  | 7 => .d7
  | 8 => .d8
  | 9 => .d9
  | 10 => .d10
  | 11 => .d11
  | 12 => .d12
  | 13 => .d13
  | 14 => .d14
  | _ => .d15
def Dig.no : Dig → Nat
  | .d0 => 0
  | .d1 => 1
  | .d2 => 2
  | .d3 => 3
  | .d4 => 4
  | .d5 => 5
  | .d6 => 6
  | .d7 => 7
  | .d8 => 8
  | .d9 => 9
  | .d10 => 10
  | .d11 => 11
  | .d12 => 12
  | .d13 => 13
  | .d14 => 14
  | .d15 => 15
theorem digN_no (n : Nat) (h : n < 16) : (digN n).no = n := by
  have : ∀ i : Fin 16, (digN i.val).no = i.val := by decide
  exact this ⟨n, h⟩
structure Lens (β α : Type) where
  get : β → α
  upd : (α → α) → β → β
def lensD {α : Type} : Dig → Lens (B16 α) α
  | .d0 => ⟨fun b => B16.rec (motive := fun _ => α) (fun a0 a1 a2 a3 a4 a5 a6 a7 a8 a9 a10 a11 a12 a13 a14 a15 => a0) b, fun f b => B16.rec (motive := fun _ => B16 α) (fun a0 a1 a2 a3 a4 a5 a6 a7 a8 a9 a10 a11 a12 a13 a14 a15 => ⟨f a0, a1, a2, a3, a4, a5, a6, a7, a8, a9, a10, a11, a12, a13, a14, a15⟩) b⟩
  | .d1 => ⟨fun b => B16.rec (motive := fun _ => α) (fun a0 a1 a2 a3 a4 a5 a6 a7 a8 a9 a10 a11 a12 a13 a14 a15 => a1) b, fun f b => B16.rec (motive := fun _ => B16 α) (fun a0 a1 a2 a3 a4 a5 a6 a7 a8 a9 a10 a11 a12 a13 a14 a15 => ⟨a0, f a1, a2, a3, a4, a5, a6, a7, a8, a9, a10, a11, a12, a13, a14, a15⟩) b⟩
  | .d2 => ⟨fun b => B16.rec (motive := fun _ => α) (fun a0 a1 a2 a3 a4 a5 a6 a7 a8 a9 a10 a11 a12 a13 a14 a15 => a2) b, fun f b => B16.rec (motive := fun _ => B16 α) (fun a0 a1 a2 a3 a4 a5 a6 a7 a8 a9 a10 a11 a12 a13 a14 a15 => ⟨a0, a1, f a2, a3, a4, a5, a6, a7, a8, a9, a10, a11, a12, a13, a14, a15⟩) b⟩
  | .d3 => ⟨fun b => B16.rec (motive := fun _ => α) (fun a0 a1 a2 a3 a4 a5 a6 a7 a8 a9 a10 a11 a12 a13 a14 a15 => a3) b, fun f b => B16.rec (motive := fun _ => B16 α) (fun a0 a1 a2 a3 a4 a5 a6 a7 a8 a9 a10 a11 a12 a13 a14 a15 => ⟨a0, a1, a2, f a3, a4, a5, a6, a7, a8, a9, a10, a11, a12, a13, a14, a15⟩) b⟩
  | .d4 => ⟨fun b => B16.rec (motive := fun _ => α) (fun a0 a1 a2 a3 a4 a5 a6 a7 a8 a9 a10 a11 a12 a13 a14 a15 => a4) b, fun f b => B16.rec (motive := fun _ => B16 α) (fun a0 a1 a2 a3 a4 a5 a6 a7 a8 a9 a10 a11 a12 a13 a14 a15 => ⟨a0, a1, a2, a3, f a4, a5, a6, a7, a8, a9, a10, a11, a12, a13, a14, a15⟩) b⟩
  | .d5 => ⟨fun b => B16.rec (motive := fun _ => α) (fun a0 a1 a2 a3 a4 a5 a6 a7 a8 a9 a10 a11 a12 a13 a14 a15 => a5) b, fun f b => B16.rec (motive := fun _ => B16 α) (fun a0 a1 a2 a3 a4 a5 a6 a7 a8 a9 a10 a11 a12 a13 a14 a15 => ⟨a0, a1, a2, a3, a4, f a5, a6, a7, a8, a9, a10, a11, a12, a13, a14, a15⟩) b⟩
  | .d6 => ⟨fun b => B16.rec (motive := fun _ => α) (fun a0 a1 a2 a3 a4 a5 a6 a7 a8 a9 a10 a11 a12 a13 a14 a15 => a6) b, fun f b => B16.rec (motive := fun _ => B16 α) (fun a0 a1 a2 a3 a4 a5 a6 a7 a8 a9 a10 a11 a12 a13 a14 a15 => ⟨a0, a1, a2, a3, a4, a5, f a6, a7, a8, a9, a10, a11, a12, a13, a14, a15⟩) b⟩
  | .d7 => ⟨fun b => B16.rec (motive := fun _ => α) (fun a0 a1 a2 a3 a4 a5 a6 a7 a8 a9 a10 a11 a12 a13 a14 a15 => a7) b, fun f b => B16.rec (motive := fun _ => B16 α) (fun a0 a1 a2 a3 a4 a5 a6 a7 a8 a9 a10 a11 a12 a13 a14 a15 => ⟨a0, a1, a2, a3, a4, a5, a6, f a7, a8, a9, a10, a11, a12, a13, a14, a15⟩) b⟩
  | .d8 => ⟨fun b => B16.rec (motive := fun _ => α) (fun a0 a1 a2 a3 a4 a5 a6 a7 a8 a9 a10 a11 a12 a13 a14 a15 => a8) b, fun f b => B16.rec (motive := fun _ => B16 α) (fun a0 a1 a2 a3 a4 a5 a6 a7 a8 a9 a10 a11 a12 a13 a14 a15 => ⟨a0, a1, a2, a3, a4, a5, a6, a7, f a8, a9, a10, a11, a12, a13, a14, a15⟩) b⟩
  | .d9 => ⟨fun b => B16.rec (motive := fun _ => α) (fun a0 a1 a2 a3 a4 a5 a6 a7 a8 a9 a10 a11 a12 a13 a14 a15 => a9) b, fun f b => B16.rec (motive := fun _ => B16 α) (fun a0 a1 a2 a3 a4 a5 a6 a7 a8 a9 a10 a11 a12 a13 a14 a15 => ⟨a0, a1, a2, a3, a4, a5, a6, a7, a8, f a9, a10, a11, a12, a13, a14, a15⟩) b⟩
  | .d10 => ⟨fun b => B16.rec (motive := fun _ => α) (fun a0 a1 a2 a3 a4 a5 a6 a7 a8 a9 a10 a11 a12 a13 a14 a15 => a10) b, fun f b => B16.rec (motive := fun _ => B16 α) (fun a0 a1 a2 a3 a4 a5 a6 a7 a8 a9 a10 a11 a12 a13 a14 a15 => ⟨a0, a1, a2, a3, a4, a5, a6, a7, a8, a9, f a10, a11, a12, a13, a14, a15⟩) b⟩
  | .d11 => ⟨fun b => B16.rec (motive := fun _ => α) (fun a0 a1 a2 a3 a4 a5 a6 a7 a8 a9 a10 a11 a12 a13 a14 a15 => a11) b, fun f b => B16.rec (motive := fun _ => B16 α) (fun a0 a1 a2 a3 a4 a5 a6 a7 a8 a9 a10 a11 a12 a13 a14 a15 => ⟨a0, a1, a2, a3, a4, a5, a6, a7, a8, a9, a10, f a11, a12, a13, a14, a15⟩) b⟩
  | .d12 => ⟨fun b => B16.rec (motive := fun _ => α) (fun a0 a1 a2 a3 a4 a5 a6 a7 a8 a9 a10 a11 a12 a13 a14 a15 => a12) b, fun f b => B16.rec (motive := fun _ => B16 α) (fun a0 a1 a2 a3 a4 a5 a6 a7 a8 a9 a10 a11 a12 a13 a14 a15 => ⟨a0, a1, a2, a3, a4, a5, a6, a7, a8, a9, a10, a11, f a12, a13, a14, a15⟩) b⟩
  | .d13 => ⟨fun b => B16.rec (motive := fun _ => α) (fun a0 a1 a2 a3 a4 a5 a6 a7 a8 a9 a10 a11 a12 a13 a14 a15 => a13) b, fun f b => B16.rec (motive := fun _ => B16 α) (fun a0 a1 a2 a3 a4 a5 a6 a7 a8 a9 a10 a11 a12 a13 a14 a15 => ⟨a0, a1, a2, a3, a4, a5, a6, a7, a8, a9, a10, a11, a12, f a13, a14, a15⟩) b⟩
  | .d14 => ⟨fun b => B16.rec (motive := fun _ => α) (fun a0 a1 a2 a3 a4 a5 a6 a7 a8 a9 a10 a11 a12 a13 a14 a15 => a14) b, fun f b => B16.rec (motive := fun _ => B16 α) (fun a0 a1 a2 a3 a4 a5 a6 a7 a8 a9 a10 a11 a12 a13 a14 a15 => ⟨a0, a1, a2, a3, a4, a5, a6, a7, a8, a9, a10, a11, a12, a13, f a14, a15⟩) b⟩
  | .d15 => ⟨fun b => B16.rec (motive := fun _ => α) (fun a0 a1 a2 a3 a4 a5 a6 a7 a8 a9 a10 a11 a12 a13 a14 a15 => a15) b, fun f b => B16.rec (motive := fun _ => B16 α) (fun a0 a1 a2 a3 a4 a5 a6 a7 a8 a9 a10 a11 a12 a13 a14 a15 => ⟨a0, a1, a2, a3, a4, a5, a6, a7, a8, a9, a10, a11, a12, a13, a14, f a15⟩) b⟩
theorem lensD_eq {α : Type} (d : Dig) (f : α → α) (b : B16 α) : (lensD d).get ((lensD d).upd f b) = f ((lensD d).get b) := by cases d <;> cases b <;> rfl
theorem lensD_ne {α : Type} (d e : Dig) (h : d ≠ e) (f : α → α) (b : B16 α) : (lensD e).get ((lensD d).upd f b) = (lensD e).get b := by
  cases b
  cases d <;> cases e <;> first | rfl | exact absurd rfl h
def lensN {α : Type} (n : Nat) : Lens (B16 α) α := lensD (digN n)
theorem lensN_get {α : Type} (n m : Nat) (hn : n < 16) (hm : m < 16) (f : α → α) (b : B16 α) : (lensN m).get ((lensN n).upd f b) = if m = n then f ((lensN n).get b) else (lensN m).get b := by
  by_cases e : m = n
  · subst e; rw [if_pos rfl]; exact lensD_eq _ _ _
  · rw [if_neg e]
    refine lensD_ne _ _ (fun q => e ?_) _ _
    have := congrArg Dig.no q
    rw [digN_no n hn, digN_no m hm] at this
    exact this.symm
def B16.all {α : Type} (x : α) : B16 α := ⟨x, x, x, x, x, x, x, x, x, x, x, x, x, x, x, x⟩
theorem lensN_all {α : Type} (n : Nat) (x : α) : (lensN n).get (B16.all x) = x := by
  unfold lensN
  cases digN n <;> rfl
structure Tree (α : Type) where
  lo : B16 (B16 (Option α))
  hi : B16 (B16 (B16 (Option α)))
  rest : OTree α
def Tree.leaf {α : Type} : Tree α := ⟨.all (.all none), .all (.all (.all none)), .leaf⟩
structure Slot (α : Type) where
  get : Tree α → Option α
  set : α → Tree α → Tree α
  del : Tree α → Tree α
def slotLo {α : Type} (i j : Nat) : Slot α :=
  ⟨fun t => (lensN j).get ((lensN i).get t.lo), fun x t => Tree.rec (motive := fun _ => Tree α) (fun lo hi rest => ⟨(lensN i).upd ((lensN j).upd fun _ => some x) lo, hi, rest⟩) t,
   fun t => Tree.rec (motive := fun _ => Tree α) (fun lo hi rest => ⟨(lensN i).upd ((lensN j).upd fun _ => none) lo, hi, rest⟩) t⟩
def slotHi {α : Type} (i j k : Nat) : Slot α :=
  ⟨fun t => (lensN k).get ((lensN j).get ((lensN i).get t.hi)), fun x t => Tree.rec (motive := fun _ => Tree α) (fun lo hi rest => ⟨lo, (lensN i).upd ((lensN j).upd ((lensN k).upd fun _ => some x)) hi, rest⟩) t,
   fun t => Tree.rec (motive := fun _ => Tree α) (fun lo hi rest => ⟨lo, (lensN i).upd ((lensN j).upd ((lensN k).upd fun _ => none)) hi, rest⟩) t⟩
def slotRest {α : Type} (n : Nat) : Slot α := ⟨fun t => t.rest.get n, fun x t => ⟨t.lo, t.hi, t.rest.set n x⟩, fun t => ⟨t.lo, t.hi, t.rest.del n⟩⟩
def slotOf {α : Type} (n : Nat) : Slot α :=
  cond (Nat.blt n 256) (slotLo (n / 16) (n % 16))
    (cond (Nat.blt n 4352) (slotHi ((n - 256) / 256) ((n - 256) / 16 % 16) ((n - 256) % 16)) (slotRest n))
def Tree.get {α : Type} (t : Tree α) (n : Nat) : Option α := (slotOf n).get t
def Tree.set {α : Type} (t : Tree α) (n : Nat) (x : α) : Tree α := (slotOf n).set x t
def Tree.del {α : Type} (t : Tree α) (n : Nat) : Tree α := (slotOf n).del t
theorem blt_lt (a b : Nat) : Nat.blt a b = decide (a < b) := by
  rw [Bool.eq_iff_iff, decide_eq_true_eq]
  exact iff_of_eq Nat.blt_eq
theorem slotOf_lo {α : Type} (n : Nat) (h : n < 256) : (slotOf n : Slot α) = slotLo (n / 16) (n % 16) := by
  unfold slotOf; rw [blt_lt, decide_eq_true h, cond_true]
theorem slotOf_hi {α : Type} (n : Nat) (h : ¬ n < 256) (h2 : n < 4352) : (slotOf n : Slot α) = slotHi ((n - 256) / 256) ((n - 256) / 16 % 16) ((n - 256) % 16) := by
  unfold slotOf; rw [blt_lt, blt_lt, decide_eq_false h, decide_eq_true h2, cond_false, cond_true]
theorem slotOf_rest {α : Type} (n : Nat) (h : ¬ n < 256) (h2 : ¬ n < 4352) : (slotOf n : Slot α) = slotRest n := by
  unfold slotOf; rw [blt_lt, blt_lt, decide_eq_false h, decide_eq_false h2, cond_false, cond_false]
theorem Tree.get_leaf {α : Type} (n : Nat) : (Tree.leaf : Tree α).get n = none := by
  unfold Tree.get
  by_cases h : n < 256
  · rw [slotOf_lo n h]; simp only [slotLo, Tree.leaf, lensN_all]
  · by_cases h2 : n < 4352
    · rw [slotOf_hi n h h2]; simp only [slotHi, Tree.leaf, lensN_all]
    · rw [slotOf_rest n h h2]; exact OTree.get_leaf n
theorem Tree.get_set {α : Type} (t : Tree α) (n m : Nat) (x : α) : (t.set n x).get m = if m = n then some x else t.get m := by
  unfold Tree.get Tree.set
  cases t with
  | mk lo hi rest =>
  by_cases hn : n < 256
  · rw [slotOf_lo n hn]
    by_cases hm : m < 256
    · rw [slotOf_lo m hm]
      simp only [slotLo]
      rw [lensN_get _ _ (by omega) (by omega)]
      by_cases e : m / 16 = n / 16
      · rw [if_pos e, lensN_get _ _ (by omega) (by omega)]
        by_cases e2 : m % 16 = n % 16
        · rw [if_pos e2, if_pos (by omega)]
        · rw [if_neg e2, if_neg (by intro q; subst q; exact e2 rfl), e]
      · rw [if_neg e, if_neg (by intro q; subst q; exact e rfl)]
    · rw [if_neg (by omega)]
      by_cases hm2 : m < 4352
      · rw [slotOf_hi m hm hm2]; simp only [slotLo, slotHi]
      · rw [slotOf_rest m hm hm2]; rfl
  · by_cases hn2 : n < 4352
    · rw [slotOf_hi n hn hn2]
      by_cases hm : m < 256
      · rw [slotOf_lo m hm, if_neg (by omega)]; rfl
      · by_cases hm2 : m < 4352
        · rw [slotOf_hi m hm hm2]
          simp only [slotHi]
          rw [lensN_get _ _ (by omega) (by omega)]
          by_cases e : (m - 256) / 256 = (n - 256) / 256
          · rw [if_pos e, lensN_get _ _ (by omega) (by omega)]
            by_cases e1 : (m - 256) / 16 % 16 = (n - 256) / 16 % 16
            · rw [if_pos e1, lensN_get _ _ (by omega) (by omega)]
              by_cases e2 : (m - 256) % 16 = (n - 256) % 16
              · rw [if_pos e2, if_pos (by omega)]
              · rw [if_neg e2, if_neg (by intro q; subst q; exact e2 rfl), e1, e]
            · rw [if_neg e1, if_neg (by intro q; subst q; exact e1 rfl), e]
          · rw [if_neg e, if_neg (by intro q; subst q; exact e rfl)]
        · rw [slotOf_rest m hm hm2, if_neg (by omega)]; rfl
    · rw [slotOf_rest n hn hn2]
      by_cases hm : m < 256
      · rw [slotOf_lo m hm, if_neg (by omega)]; rfl
      · by_cases hm2 : m < 4352
        · rw [slotOf_hi m hm hm2, if_neg (by omega)]; simp only [slotRest, slotHi]
        · rw [slotOf_rest m hm hm2]; exact OTree.get_set _ _ _ _
theorem Tree.get_del {α : Type} (t : Tree α) (n m : Nat) : (t.del n).get m = if m = n then none else t.get m := by
  unfold Tree.get Tree.del
  cases t with
  | mk lo hi rest =>
  by_cases hn : n < 256
  · rw [slotOf_lo n hn]
    by_cases hm : m < 256
    · rw [slotOf_lo m hm]
      simp only [slotLo]
      rw [lensN_get _ _ (by omega) (by omega)]
      by_cases e : m / 16 = n / 16
      · rw [if_pos e, lensN_get _ _ (by omega) (by omega)]
        by_cases e2 : m % 16 = n % 16
        · rw [if_pos e2, if_pos (by omega)]
        · rw [if_neg e2, if_neg (by intro q; subst q; exact e2 rfl), e]
      · rw [if_neg e, if_neg (by intro q; subst q; exact e rfl)]
    · rw [if_neg (by omega)]
      by_cases hm2 : m < 4352
      · rw [slotOf_hi m hm hm2]; simp only [slotLo, slotHi]
      · rw [slotOf_rest m hm hm2]; rfl
  · by_cases hn2 : n < 4352
    · rw [slotOf_hi n hn hn2]
      by_cases hm : m < 256
      · rw [slotOf_lo m hm, if_neg (by omega)]; rfl
      · by_cases hm2 : m < 4352
        · rw [slotOf_hi m hm hm2]
          simp only [slotHi]
          rw [lensN_get _ _ (by omega) (by omega)]
          by_cases e : (m - 256) / 256 = (n - 256) / 256
          · rw [if_pos e, lensN_get _ _ (by omega) (by omega)]
            by_cases e1 : (m - 256) / 16 % 16 = (n - 256) / 16 % 16
            · rw [if_pos e1, lensN_get _ _ (by omega) (by omega)]
              by_cases e2 : (m - 256) % 16 = (n - 256) % 16
              · rw [if_pos e2, if_pos (by omega)]
              · rw [if_neg e2, if_neg (by intro q; subst q; exact e2 rfl), e1, e]
            · rw [if_neg e1, if_neg (by intro q; subst q; exact e1 rfl), e]
          · rw [if_neg e, if_neg (by intro q; subst q; exact e rfl)]
        · rw [slotOf_rest m hm hm2, if_neg (by omega)]; rfl
    · rw [slotOf_rest n hn hn2]
      by_cases hm : m < 256
      · rw [slotOf_lo m hm, if_neg (by omega)]; rfl
      · by_cases hm2 : m < 4352
        · rw [slotOf_hi m hm hm2, if_neg (by omega)]; simp only [slotRest, slotHi]
        · rw [slotOf_rest m hm hm2]; exact OTree.get_del _ _ _
end
end Go.Am
namespace Go.Am
open Go.RowKit
structure BelD (B : Nat) (w w' : World) : Prop where
  os : w'.os = w.os
  tape : w'.tape = w.tape
  output : w'.output = w.output
  size : w.heap.size ≤ w'.heap.size
  block : ∀ k, k < B → w'.heap[k]? = w.heap[k]?
  drawn : w.drawn ≤ w'.drawn
theorem BelD.toB {B : Nat} {w w' : World} (h : BelD B w w') : Below B w w' := ⟨h.os, h.tape, h.output, h.size, h.block⟩
theorem BelD.refl (B : Nat) (w : World) : BelD B w w := ⟨rfl, rfl, rfl, Nat.le_refl _, fun _ _ => rfl, Nat.le_refl _⟩
theorem BelD.trans {B : Nat} {a b c : World} (h : BelD B a b) (k : BelD B b c) : BelD B a c :=
  ⟨k.os.trans h.os, k.tape.trans h.tape, k.output.trans h.output, Nat.le_trans h.size k.size, fun i hi => (k.block i hi).trans (h.block i hi), Nat.le_trans h.drawn k.drawn⟩
theorem BelD.mono {B B' : Nat} {w w' : World} (h : BelD B w w') (hB : B' ≤ B) : BelD B' w w' := ⟨h.os, h.tape, h.output, h.size, fun k hk => h.block k (Nat.lt_of_lt_of_le hk hB), h.drawn⟩
theorem BelD.drew {B : Nat} {a w : World} (h : BelD B a w) : BelD B a w.drew := ⟨h.os, h.tape, h.output, h.size, h.block, Nat.le_trans h.drawn (Nat.le_succ _)⟩
theorem BelD.alloc {B : Nat} {a w : World} (h : BelD B a w) (hB : B ≤ w.heap.size) (o : Obj) : BelD B a (w.alloc o) :=
  h.trans ⟨rfl, rfl, rfl, by simp, fun k hk => Below.heap_alloc _ _ _ (by omega), Nat.le_refl _⟩
inductive AObj where
  | cells (c : List Value) (esz : Nat) (tag : Option Nat) (ro : Bool) (el : Option TypeId)
  | map (es : List (Value × Value)) (bs : List Nat) (clk : Nat)
  | siter (s : ByteArray) (pos : Nat)
  | miter (m : Option Nat) (since : Nat) (seen : List Nat) (last : Nat)
  | loop (stt : LoopState) (pend : Option Code) (tt : Tree Value) (n : Nat) (ps : List Tmp) (asg body : Code)
def isLoop : Option AObj → Bool
  | some (.loop _ _ _ _ _ _ _) => true
  | _ => false
def AObj.tag : AObj → Option Nat
  | .cells _ _ t _ _ => t
  | _ => none
def AObj.esz : AObj → Nat
  | .cells _ e _ _ _ => e
  | _ => 0
def AObj.ro : AObj → Bool
  | .cells _ _ _ r _ => r
  | _ => false
abbrev Heap := Nat → Option AObj
def Heap.put (H : Heap) (k : Nat) (o : AObj) : Heap := fun i => if i = k then some o else H i
def Heap.del (H : Heap) (k : Nat) : Heap := fun i => if i = k then none else H i
structure Corr where
  loc : Nat → Nat × Nat
  siz : Nat → Nat
  pin : Nat → Option Obj
def Corr.at (C : Corr) (a : Addr) : Addr := ⟨(C.loc a.block).1, (C.loc a.block).2 + a.off, none⟩
def Corr.put (C : Corr) (k : Nat) (l : Nat × Nat) (s : Nat) : Corr := ⟨fun i => if i = k then l else C.loc i, fun i => if i = k then s else C.siz i, C.pin⟩
def Corr.re (C : Corr) (p : Nat → Option Obj) : Corr := ⟨C.loc, C.siz, p⟩
def okA (nx : Nat) (a : Addr) : Prop := a.block < nx ∧ ∀ t, a.spot = some t → t < nx
def live (H : Heap) (a : Addr) : Prop := ∃ o, H a.block = some o ∧ o.tag = a.spot
def capOk (C : Corr) (o : AObj) (a : Addr) (len cap cap' : Nat) : Prop :=
  match a.spot with
  | none => cap' = cap
  | some _ => len ≤ cap' ∧ (C.loc a.block).2 + a.off + cap' * o.esz ≤ C.siz a.block
inductive VR (nx : Nat) (H : Heap) (C : Corr) : Value → Value → Prop where
  | bool (b : Bool) : VR nx H C (.bool b) (.bool b)
  | int (k : IntKind) (n : Int) : VR nx H C (.int k n) (.int k n)
  | string (s : ByteArray) : VR nx H C (.string s) (.string s)
  | nilFunc : VR nx H C .nilFunc .nilFunc
  | nilIface : VR nx H C .nilIface .nilIface
  | nilp : VR nx H C (.pointer none) (.pointer none)
  | ptr (a b : Addr) (h1 : okA nx a) (h2 : live H a → b = C.at a) : VR nx H C (.pointer (some a)) (.pointer (some b))
  | nils (l c : Nat) : VR nx H C (.slice none l c) (.slice none l c)
  | slc (a : Addr) (len cap : Nat) (b : Addr) (cap' : Nat) (h1 : okA nx a)
      (h2 : ∀ o, H a.block = some o → o.tag = a.spot → b = C.at a ∧ capOk C o a len cap cap') :
      VR nx H C (.slice (some a) len cap) (.slice (some b) len cap')
  | nilm : VR nx H C (.map none) (.map none)
  | map (r r' : Nat) (h1 : r < nx) (h2 : ∀ o, H r = some o → o.tag = none → r' = (C.loc r).1) : VR nx H C (.map (some r)) (.map (some r'))
  | func (fn : Fn) (a a' b b' : Array Value) (ha : a.size = a'.size) (hb : b.size = b'.size)
      (h1 : ∀ (i : Nat) (h : i < a.size) (h' : i < a'.size), VR nx H C a[i] a'[i])
      (h2 : ∀ (i : Nat) (h : i < b.size) (h' : i < b'.size), VR nx H C b[i] b'[i]) : VR nx H C (.func fn a b) (.func fn a' b')
  | yld (l l' : Nat) (h1 : l < nx) (h2 : ∀ o, H l = some o → o.tag = none → l' = (C.loc l).1) : VR nx H C (.chan (some l)) (.func (.yield l') #[] #[])
  | iface (t : TypeId) (v v' : Value) (h : VR nx H C v v') : VR nx H C (.iface t v) (.iface t v')
  | agg (a a' : Array Value) (ha : a.size = a'.size) (h1 : ∀ (i : Nat) (h : i < a.size) (h' : i < a'.size), VR nx H C a[i] a'[i]) : VR nx H C (.agg a) (.agg a')
  | tuple (a a' : Array Value) (ha : a.size = a'.size) (h1 : ∀ (i : Nat) (h : i < a.size) (h' : i < a'.size), VR nx H C a[i] a'[i]) : VR nx H C (.tuple a) (.tuple a')
def VRs (nx : Nat) (H : Heap) (C : Corr) (l l' : List Value) : Prop := l.length = l'.length ∧ ∀ (i : Nat) (h : i < l.length) (h' : i < l'.length), VR nx H C l[i] l'[i]
structure Stp0 (nx : Nat) (H : Heap) (C : Corr) (nx' : Nat) (H' : Heap) (C' : Corr) : Prop where
  le : nx ≤ nx'
  keep : ∀ id o', id < nx → H' id = some o' → (∀ t, o'.tag = some t → t < nx) → ∃ o, H id = some o ∧ o.tag = o'.tag ∧ o.esz = o'.esz ∧ C'.loc id = C.loc id ∧ C'.siz id = C.siz id
structure Stp (nx : Nat) (H : Heap) (C : Corr) (nx' : Nat) (H' : Heap) (C' : Corr) : Prop extends Stp0 nx H C nx' H' C' where
  pin : ∀ k o, C.pin k = some o → C'.pin k = some o
  fix : ∀ id, id < nx → isLoop (H id) = true → isLoop (H' id) = true ∧ C'.loc id = C.loc id
theorem Stp0.refl (nx : Nat) (H : Heap) (C : Corr) : Stp0 nx H C nx H C := ⟨Nat.le_refl _, fun _ o' _ h _ => ⟨o', h, rfl, rfl, rfl, rfl⟩⟩
theorem Stp.refl (nx : Nat) (H : Heap) (C : Corr) : Stp nx H C nx H C := ⟨Stp0.refl _ _ _, fun _ _ h => h, fun _ _ h => ⟨h, rfl⟩⟩
theorem Stp0.trans {nx nx' nx'' : Nat} {H H' H'' : Heap} {C C' C'' : Corr} (h : Stp0 nx H C nx' H' C') (k : Stp0 nx' H' C' nx'' H'' C'') : Stp0 nx H C nx'' H'' C'' :=
  ⟨Nat.le_trans h.le k.le, fun id o' hid ho ht => by
    obtain ⟨o1, h1, t1, e1, l1, s1⟩ := k.keep id o' (Nat.lt_of_lt_of_le hid h.le) ho (fun t hh => Nat.lt_of_lt_of_le (ht t hh) h.le)
    obtain ⟨o2, h2, t2, e2, l2, s2⟩ := h.keep id o1 hid h1 (fun t hh => ht t (t1 ▸ hh))
    exact ⟨o2, h2, t2.trans t1, e2.trans e1, l1.trans l2, s1.trans s2⟩⟩
theorem Stp.trans {nx nx' nx'' : Nat} {H H' H'' : Heap} {C C' C'' : Corr} (h : Stp nx H C nx' H' C') (k : Stp nx' H' C' nx'' H'' C'') : Stp nx H C nx'' H'' C'' :=
  ⟨h.toStp0.trans k.toStp0, fun i o x => k.pin i o (h.pin i o x), fun id hid hl => by
    obtain ⟨a, b⟩ := h.fix id hid hl
    obtain ⟨c, d⟩ := k.fix id (Nat.lt_of_lt_of_le hid h.le) a
    exact ⟨c, d.trans b⟩⟩
theorem okA.mono {nx nx' : Nat} {a : Addr} (h : okA nx a) (hle : nx ≤ nx') : okA nx' a := ⟨Nat.lt_of_lt_of_le h.1 hle, fun t ht => Nat.lt_of_lt_of_le (h.2 t ht) hle⟩
theorem VR.mono0 {nx nx' : Nat} {H H' : Heap} {C C' : Corr} {v v' : Value} (h : VR nx H C v v') (k : Stp0 nx H C nx' H' C') : VR nx' H' C' v v' := by
  induction h with
  | bool b => exact .bool b
  | int k n => exact .int k n
  | string s => exact .string s
  | nilFunc => exact .nilFunc
  | nilIface => exact .nilIface
  | nilp => exact .nilp
  | ptr a b h1 h2 =>
    refine .ptr a b (h1.mono k.le) ?_
    rintro ⟨o', ho', ht'⟩
    obtain ⟨o, ho, ht, _, hl, _⟩ := k.keep a.block o' h1.1 ho' (fun t hh => h1.2 t (ht' ▸ hh))
    rw [h2 ⟨o, ho, ht.trans ht'⟩]
    simp [Corr.at, hl]
  | nils l c => exact .nils l c
  | slc a len cap b cap' h1 h2 =>
    refine .slc a len cap b cap' (h1.mono k.le) ?_
    intro o' ho' ht'
    obtain ⟨o, ho, ht, he, hl, hs⟩ := k.keep a.block o' h1.1 ho' (fun t hh => h1.2 t (ht' ▸ hh))
    obtain ⟨e1, e2⟩ := h2 o ho (ht.trans ht')
    refine ⟨by rw [e1]; simp [Corr.at, hl], ?_⟩
    unfold capOk at *
    rw [hl, hs, ← he]
    exact e2
  | nilm => exact .nilm
  | map r r' h1 h2 =>
    refine .map r r' (Nat.lt_of_lt_of_le h1 k.le) ?_
    intro o' ho' ht'
    obtain ⟨o, ho, ht, he, hl, hs⟩ := k.keep r o' h1 ho' (fun t hh => by rw [ht'] at hh; cases hh)
    rw [h2 o ho (ht.trans ht'), hl]
  | func fn a a' b b' ha hb _ _ i1 i2 => exact .func fn a a' b b' ha hb i1 i2
  | yld r r' h1 h2 =>
    refine .yld r r' (Nat.lt_of_lt_of_le h1 k.le) ?_
    intro o' ho' ht'
    obtain ⟨o, ho, ht, he, hl, hs⟩ := k.keep r o' h1 ho' (fun t hh => by rw [ht'] at hh; cases hh)
    rw [h2 o ho (ht.trans ht'), hl]
  | iface t v v' _ ih => exact .iface t v v' ih
  | agg a a' ha _ ih => exact .agg a a' ha ih
  | tuple a a' ha _ ih => exact .tuple a a' ha ih
theorem VR.mono {nx nx' : Nat} {H H' : Heap} {C C' : Corr} {v v' : Value} (h : VR nx H C v v') (k : Stp nx H C nx' H' C') : VR nx' H' C' v v' := h.mono0 k.toStp0
theorem VRs.mono {nx nx' : Nat} {H H' : Heap} {C C' : Corr} {v v' : List Value} (h : VRs nx H C v v') (k : Stp nx H C nx' H' C') : VRs nx' H' C' v v' :=
  ⟨h.1, fun i a b => (h.2 i a b).mono k⟩
def ORel (nx : Nat) (H : Heap) (C : Corr) (w : World) (id : Nat) : AObj → Prop
  | .cells c esz tag ro q => ∃ Cc el fr, w.heap[(C.loc id).1]? = some (.cells Cc el fr) ∧ Cc.size = C.siz id ∧ (C.loc id).2 + c.length ≤ Cc.size ∧
      (∀ (i : Nat) (h : i < c.length) (h' : (C.loc id).2 + i < Cc.size), VR nx H C c[i] Cc[(C.loc id).2 + i]) ∧ ((ro = false → ∀ i, i < Cc.size → ¬ (fr.1 ≤ i ∧ i < fr.2)) ∧ (∀ t, q = some t → el = t) ∧ (ro = false → tag = none → (C.loc id).2 = 0 ∧ Cc.size = c.length) ∧ (ro = false → esz = 1 ∨ fr = (0, 0)))
  | .map es bs clock => ∃ es', w.heap[(C.loc id).1]? = some (.map es' clock) ∧ es'.size = es.length ∧
      (∀ (i : Nat) (h : i < es.length) (h' : i < es'.size), VR nx H C es[i].1 es'[i].key ∧ VR nx H C es[i].2 es'[i].val) ∧ es'.toList.map (·.born) = bs
  | .siter s pos => w.heap[(C.loc id).1]? = some (.stringIter s pos) ∧ (C.loc id).2 = 0
  | .miter m since seen last => ∃ m', w.heap[(C.loc id).1]? = some (.mapIter m' since seen.toArray last) ∧ (C.loc id).2 = 0 ∧ VR nx H C (.map m) (.map m')
  | .loop stt pend tt n ps asg body => ∃ r : Loop, w.heap[(C.loc id).1]? = some (.loop r) ∧ (C.loc id).2 = 0 ∧ r.state = stt ∧ r.pending = pend ∧ r.tmps.size = n ∧ r.params.toList = ps ∧ r.assign = asg ∧ r.body = body ∧
      ∀ t, VR nx H C ((tt.get t).getD undef) (r.tmps.getD t undef)
def NG : Nat := 16
structure Rel (W0 : World) (C : Corr) (nx : Nat) (H : Heap) (w : World) : Prop where
  below : BelD W0.heap.size W0 w
  lt : ∀ id o, H id = some o → id < nx ∧ ∀ t, o.tag = some t → t < nx
  obj : ∀ id o, H id = some o → ORel nx H C w id o
  own : ∀ id o, H id = some o → o.ro = false → W0.heap.size ≤ (C.loc id).1 ∧ C.pin (C.loc id).1 = none
  sep : ∀ i j oi oj, H i = some oi → H j = some oj → i ≠ j → oi.ro = false → (C.loc i).1 ≠ (C.loc j).1
  pin : ∀ k o, C.pin k = some o → W0.heap.size ≤ k ∧ w.heap[k]? = some o
  base : NG ≤ nx
  glob : ∀ g o, g < NG → H g = some o → o.ro = true ∧ C.loc g = (g, 0)
  apin : ∀ id o, H id = some o → C.pin (C.loc id).1 = none
theorem ORel.blk {nx : Nat} {H : Heap} {C : Corr} {w : World} {id : Nat} {o : AObj} (h : ORel nx H C w id o) : (C.loc id).1 < w.heap.size := by
  cases o with
  | cells c e t ro q => obtain ⟨_, _, _, h, _⟩ := h; exact (Array.getElem?_eq_some_iff.1 h).1
  | map es bs ck => obtain ⟨_, h, _⟩ := h; exact (Array.getElem?_eq_some_iff.1 h).1
  | miter m a b c => obtain ⟨_, h, _⟩ := h; exact (Array.getElem?_eq_some_iff.1 h).1
  | siter s p => exact (Array.getElem?_eq_some_iff.1 h.1).1
  | loop a b c d e f g => obtain ⟨_, h, _⟩ := h; exact (Array.getElem?_eq_some_iff.1 h).1
theorem ORel.mono0 {nx nx' : Nat} {H H' : Heap} {C C' : Corr} {w w' : World} {id : Nat} {o : AObj} (h : ORel nx H C w id o) (k : Stp0 nx H C nx' H' C')
    (hl : C'.loc id = C.loc id) (hs : C'.siz id = C.siz id) (hw : w'.heap[(C.loc id).1]? = w.heap[(C.loc id).1]?) : ORel nx' H' C' w' id o := by
  cases o with
  | cells c e t ro q =>
    obtain ⟨Cc, el, fr, h1, h2, h3, h4, h5⟩ := h
    unfold ORel
    rw [hl, hs, hw]
    exact ⟨Cc, el, fr, h1, h2, h3, fun i a b => (h4 i a b).mono0 k, h5⟩
  | map es bs clock =>
    obtain ⟨es', h1, h2, h3, h4⟩ := h
    unfold ORel
    rw [hl, hw]
    exact ⟨es', h1, h2, fun i a b => ⟨(h3 i a b).1.mono0 k, (h3 i a b).2.mono0 k⟩, h4⟩
  | miter m a b c =>
    obtain ⟨m', h1, h2, h3⟩ := h
    unfold ORel
    rw [hl, hw]
    exact ⟨m', h1, h2, h3.mono0 k⟩
  | loop a b c d e f g =>
    obtain ⟨r, h1, h2, h3, h4, h5, h6, h7, h8, h9⟩ := h
    unfold ORel
    rw [hl, hw]
    exact ⟨r, h1, h2, h3, h4, h5, h6, h7, h8, fun t => (h9 t).mono0 k⟩
  | siter s p => unfold ORel at *; rw [hl, hw]; exact h
theorem ORel.mono {nx nx' : Nat} {H H' : Heap} {C C' : Corr} {w w' : World} {id : Nat} {o : AObj} (h : ORel nx H C w id o) (k : Stp nx H C nx' H' C')
    (hl : C'.loc id = C.loc id) (hs : C'.siz id = C.siz id) (hw : w'.heap[(C.loc id).1]? = w.heap[(C.loc id).1]?) : ORel nx' H' C' w' id o := h.mono0 k.toStp0 hl hs hw
theorem Rel.new {W0 : World} {C : Corr} {nx : Nat} {H : Heap} {w : World} (h : Rel W0 C nx H w) (o : AObj) (O : Obj) (base siz : Nat)
    (htag : ∀ t, o.tag = some t → t = nx)
    (ho : ∀ C', C' = C.put nx (w.heap.size, base) siz → Stp nx H C (nx + 1) (H.put nx o) C' → ORel (nx + 1) (H.put nx o) C' (w.alloc O) nx o) :
    Rel W0 (C.put nx (w.heap.size, base) siz) (nx + 1) (H.put nx o) (w.alloc O) ∧ Stp nx H C (nx + 1) (H.put nx o) (C.put nx (w.heap.size, base) siz) := by
  have hst : Stp nx H C (nx + 1) (H.put nx o) (C.put nx (w.heap.size, base) siz) := ⟨⟨by omega, fun id o' hid ho' ht => by
    have : id ≠ nx := by omega
    simp only [Heap.put, this, if_false] at ho'
    exact ⟨o', ho', rfl, rfl, by simp [Corr.put, this], by simp [Corr.put, this]⟩⟩, fun _ _ x => x, fun id hid hl => by
    have : id ≠ nx := by omega
    simp only [Heap.put, this, if_false]
    exact ⟨hl, by simp [Corr.put, this]⟩⟩
  have hlt := fun id o (ho : H id = some o) => (h.lt id o ho).1
  have hpn : C.pin w.heap.size = none := by
    cases hq : C.pin w.heap.size with
    | none => rfl
    | some o => exact absurd (Array.getElem?_eq_some_iff.1 (h.pin _ _ hq).2).1 (Nat.lt_irrefl _)
  refine ⟨⟨h.below.alloc h.below.size O, ?_, ?_, ?_, ?_, fun k o hk => ⟨(h.pin k o hk).1, (Below.heap_alloc _ _ _ (Array.getElem?_eq_some_iff.1 (h.pin k o hk).2).1).trans (h.pin k o hk).2⟩, Nat.le_succ_of_le h.base, fun g o' hg ho' => ?_, fun id o' ho' => ?_⟩, hst⟩
  · intro id o' ho'
    by_cases e : id = nx
    · subst e
      simp only [Heap.put, if_true, Option.some.injEq] at ho'
      subst ho'
      exact ⟨by omega, fun t ht => by have := htag t ht; omega⟩
    · simp only [Heap.put, e, if_false] at ho'
      obtain ⟨a, b⟩ := h.lt id o' ho'
      exact ⟨by omega, fun t ht => by have := b t ht; omega⟩
  · intro id o' ho'
    by_cases e : id = nx
    · subst e
      simp only [Heap.put, if_true, Option.some.injEq] at ho'
      subst ho'
      exact ho _ rfl hst
    · simp only [Heap.put, e, if_false] at ho'
      have hb := (h.obj id o' ho').blk
      refine (h.obj id o' ho').mono hst (by simp [Corr.put, e]) (by simp [Corr.put, e]) ?_
      exact Below.heap_alloc _ _ _ hb
  · intro id o' ho' hro
    by_cases e : id = nx
    · subst e; simp only [Corr.put, if_true]; exact ⟨h.below.size, hpn⟩
    · simp only [Heap.put, e, if_false] at ho'
      simpa [Corr.put, e] using h.own id o' ho' hro
  · intro i j oi oj hi hj hne hro
    by_cases e : i = nx
    · have e2 : j ≠ nx := fun x => hne (e.trans x.symm)
      simp only [Heap.put, e2, if_false] at hj
      have := (h.obj j oj hj).blk
      simp only [Corr.put, e, e2, if_true, if_false]
      omega
    · simp only [Heap.put, e, if_false] at hi
      have hbi := (h.obj i oi hi).blk
      by_cases e2 : j = nx
      · simp only [Corr.put, e, e2, if_true, if_false]
        omega
      · simp only [Heap.put, e2, if_false] at hj
        simpa [Corr.put, e, e2] using h.sep i j oi oj hi hj hne hro
  · have e : g ≠ nx := by have := h.base; omega
    simp only [Heap.put, e, if_false] at ho'
    simpa [Corr.put, e] using h.glob g o' hg ho'
  · by_cases e : id = nx
    · subst e; simp only [Corr.put, if_true]; exact hpn
    · simp only [Heap.put, e, if_false] at ho'
      simpa [Corr.put, e] using h.apin id o' ho'
theorem Rel.set {W0 : World} {C : Corr} {nx nx' : Nat} {H : Heap} {w w' : World} (h : Rel W0 C nx H w) (id : Nat) (o o' : AObj) (loc : Nat × Nat) (siz : Nat) (hid : H id = some o)
    (hro : o.ro = false) (hnx : nx ≤ nx')
    (htag : (o'.tag = o.tag ∧ o'.esz = o.esz ∧ loc = C.loc id ∧ siz = C.siz id) ∨ (nx < nx' ∧ o'.tag = some nx))
    (hloc : loc.1 = (C.loc id).1 ∨ w.heap.size ≤ loc.1)
    (hown : o'.ro = true → loc.1 = (C.loc id).1)
    (hbel : BelD W0.heap.size W0 w')
    (hw : ∀ k, k < w.heap.size → k ≠ (C.loc id).1 → w'.heap[k]? = w.heap[k]?)
    (ho : ∀ C', C' = C.put id loc siz → Stp nx H C nx' (H.put id o') C' → ORel nx' (H.put id o') C' w' id o')
    (hlp : isLoop (some o) = true → isLoop (some o') = true ∧ loc = C.loc id := by intro h; cases h) :
    Rel W0 (C.put id loc siz) nx' (H.put id o') w' ∧ Stp nx H C nx' (H.put id o') (C.put id loc siz) := by
  have hst : Stp nx H C nx' (H.put id o') (C.put id loc siz) := ⟨⟨hnx, fun i oi hi hoi ht => by
    by_cases e : i = id
    · subst e
      simp only [Heap.put, if_true, Option.some.injEq] at hoi
      subst hoi
      rcases htag with ⟨a, b, c, d⟩ | ⟨_, a⟩
      · exact ⟨o, hid, a.symm, b.symm, by simp [Corr.put, c], by simp [Corr.put, d]⟩
      · exact absurd (ht nx a) (by omega)
    · simp only [Heap.put, e, if_false] at hoi
      exact ⟨oi, hoi, rfl, rfl, by simp [Corr.put, e], by simp [Corr.put, e]⟩⟩, fun _ _ x => x, fun i hi hl => by
    by_cases e : i = id
    · subst e
      rw [hid] at hl
      simp only [Heap.put, Corr.put, if_true]
      exact hlp hl
    · simp only [Heap.put, Corr.put, e, if_false]
      exact ⟨hl, trivial⟩⟩
  have hidlt := h.lt id o hid
  have hpk : ∀ k o, C.pin k = some o → k < w.heap.size ∧ k ≠ (C.loc id).1 := fun k o hk => ⟨(Array.getElem?_eq_some_iff.1 (h.pin k o hk).2).1, fun e => by have := (h.own id _ hid hro).2; rw [← e, hk] at this; cases this⟩
  refine ⟨⟨hbel, ?_, ?_, ?_, ?_, fun k o hk => ⟨(h.pin k o hk).1, (hw k (hpk k o hk).1 (hpk k o hk).2).trans (h.pin k o hk).2⟩, Nat.le_trans h.base hnx, fun g og hg hog => ?_, fun i oi hoi => ?_⟩, hst⟩
  · intro i oi hoi
    by_cases e : i = id
    · subst e
      simp only [Heap.put, if_true, Option.some.injEq] at hoi
      subst hoi
      refine ⟨by omega, fun t ht => ?_⟩
      rcases htag with ⟨a, _⟩ | ⟨b, a⟩
      · have := hidlt.2 t (a ▸ ht); omega
      · rw [a] at ht; cases ht; exact b
    · simp only [Heap.put, e, if_false] at hoi
      obtain ⟨a, b⟩ := h.lt i oi hoi
      exact ⟨by omega, fun t ht => by have := b t ht; omega⟩
  · intro i oi hoi
    by_cases e : i = id
    · subst e
      simp only [Heap.put, if_true, Option.some.injEq] at hoi
      subst hoi
      exact ho _ rfl hst
    · simp only [Heap.put, e, if_false] at hoi
      have hb := (h.obj i oi hoi).blk
      refine (h.obj i oi hoi).mono hst (by simp [Corr.put, e]) (by simp [Corr.put, e]) ?_
      exact hw _ hb (fun x => h.sep id i o oi hid hoi (fun y => e y.symm) hro x.symm)
  · intro i oi hoi hroi
    by_cases e : i = id
    · subst e
      simp only [Corr.put, if_true]
      rcases hloc with x | x
      · rw [x]; exact h.own i o hid hro
      · refine ⟨Nat.le_trans h.below.size x, ?_⟩
        show C.pin loc.1 = none
        cases hq : C.pin loc.1 with
        | none => rfl
        | some o2 => exact absurd (hpk _ _ hq).1 (by omega)
    · simp only [Heap.put, e, if_false] at hoi
      simpa [Corr.put, e] using h.own i oi hoi hroi
  · intro i j oi oj hi hj hne hroi
    have other : ∀ k ok, H k = some ok → k ≠ id → (C.loc k).1 ≠ loc.1 := fun k ok hk hne2 => by
      rcases hloc with x | x
      · rw [x]; exact fun y => h.sep id k o ok hid hk (fun z => hne2 z.symm) hro y.symm
      · have := (h.obj k ok hk).blk; omega
    by_cases e : i = id
    · have e2 : j ≠ id := fun x => hne (e.trans x.symm)
      simp only [Heap.put, e2, if_false] at hj
      simp only [Corr.put, e, e2, if_true, if_false]
      exact fun x => other j oj hj e2 x.symm
    · simp only [Heap.put, e, if_false] at hi
      by_cases e2 : j = id
      · simp only [Corr.put, e, e2, if_true, if_false]
        exact other i oi hi e
      · simp only [Heap.put, e2, if_false] at hj
        simpa [Corr.put, e, e2] using h.sep i j oi oj hi hj hne hroi
  · have e : g ≠ id := fun e => by subst e; have := (h.glob g o hg hid).1; rw [hro] at this; cases this
    simp only [Heap.put, e, if_false] at hog
    simpa [Corr.put, e] using h.glob g og hg hog
  · by_cases e : i = id
    · subst e
      simp only [Corr.put, if_true]
      rcases hloc with x | x
      · rw [x]; exact h.apin i o hid
      · cases hq : C.pin loc.1 with
        | none => rfl
        | some o2 => exact absurd (hpk _ _ hq).1 (by omega)
    · simp only [Heap.put, e, if_false] at hoi
      simpa [Corr.put, e] using h.apin i oi hoi
theorem Rel.world {W0 : World} {C : Corr} {nx : Nat} {H : Heap} {w w' : World} (h : Rel W0 C nx H w) (hb : BelD W0.heap.size W0 w') (hw : ∀ k, k < w.heap.size → w'.heap[k]? = w.heap[k]?) : Rel W0 C nx H w' :=
  ⟨hb, h.lt, fun id o ho => (h.obj id o ho).mono (Stp.refl _ _ _) rfl rfl (hw _ (h.obj id o ho).blk), h.own, h.sep, fun k o hk => ⟨(h.pin k o hk).1, (hw k (Array.getElem?_eq_some_iff.1 (h.pin k o hk).2).1).trans (h.pin k o hk).2⟩, h.base, h.glob, h.apin⟩
theorem Rel.drew {W0 : World} {C : Corr} {nx : Nat} {H : Heap} {w : World} (h : Rel W0 C nx H w) : Rel W0 C nx H w.drew := h.world h.below.drew (fun _ _ => rfl)
theorem Rel.globPtr {W0 : World} {C : Corr} {nx : Nat} {H : Heap} {w : World} (h : Rel W0 C nx H w) {g : Nat} (hg : g < NG) : VR nx H C (.pointer (some ⟨g, 0, none⟩)) (.pointer (some ⟨g, 0, none⟩)) := by
  refine .ptr _ _ ⟨Nat.lt_of_lt_of_le hg h.base, fun t ht => by cases ht⟩ ?_
  rintro ⟨o, ho, _⟩
  simp [Corr.at, (h.glob g o hg ho).2]
theorem Stp0.re (nx : Nat) (H : Heap) (C : Corr) (p : Nat → Option Obj) : Stp0 nx H C nx H (C.re p) := ⟨Nat.le_refl _, fun _ o' _ h _ => ⟨o', h, rfl, rfl, rfl, rfl⟩⟩
theorem Rel.pinNew {W0 : World} {C : Corr} {nx : Nat} {H : Heap} {w : World} (h : Rel W0 C nx H w) (O : Obj) :
    Rel W0 (C.re fun k => if k = w.heap.size then some O else C.pin k) nx H (w.alloc O) ∧ Stp nx H C nx H (C.re fun k => if k = w.heap.size then some O else C.pin k) := by
  have hpk : ∀ k o, C.pin k = some o → k < w.heap.size := fun k o hk => (Array.getElem?_eq_some_iff.1 (h.pin k o hk).2).1
  refine ⟨⟨h.below.alloc h.below.size O, h.lt, fun id o ho => ?_, fun id o ho hro => ⟨(h.own id o ho hro).1, ?_⟩, h.sep, fun k o hk => ?_, h.base, h.glob, fun id o ho => ?_⟩, Stp0.re _ _ _ _, fun k o hk => ?_, fun id hi hl => ⟨hl, rfl⟩⟩
  · exact (h.obj id o ho).mono0 (Stp0.re _ _ _ _) rfl rfl (Below.heap_alloc _ _ _ (h.obj id o ho).blk)
  · have := (h.obj id o ho).blk
    simp only [Corr.re]
    rw [if_neg (by omega)]
    exact (h.own id o ho hro).2
  · simp only [Corr.re] at hk
    by_cases e : k = w.heap.size
    · rw [if_pos e] at hk
      cases hk
      subst e
      exact ⟨h.below.size, Array.getElem?_push_size⟩
    · rw [if_neg e] at hk
      exact ⟨(h.pin k o hk).1, (Below.heap_alloc _ _ _ (hpk k o hk)).trans (h.pin k o hk).2⟩
  · have := (h.obj id o ho).blk
    simp only [Corr.re]
    rw [if_neg (by omega)]
    exact h.apin id o ho
  · simp only [Corr.re]
    rw [if_neg (by have := hpk k o hk; omega)]
    exact hk
theorem Rel.unpin {W0 : World} {C : Corr} {nx : Nat} {H : Heap} {w w' : World} (h : Rel W0 C nx H w) {D : Nat} {O : Obj} (hD : C.pin D = some O) (hro : ∀ id o, H id = some o → (C.loc id).1 ≠ D)
    (hbel : BelD W0.heap.size W0 w') (hw : ∀ k, k ≠ D → w'.heap[k]? = w.heap[k]?) : Rel W0 (C.re fun k => if k = D then none else C.pin k) nx H w' := by
  refine ⟨hbel, h.lt, fun id o ho => ?_, fun id o ho hr => ⟨(h.own id o ho hr).1, ?_⟩, h.sep, fun k o hk => ?_, h.base, h.glob, fun id o ho => ?_⟩
  · exact (h.obj id o ho).mono0 (Stp0.re _ _ _ _) rfl rfl (hw _ (hro id o ho))
  · simp only [Corr.re]
    split
    · rfl
    · exact (h.own id o ho hr).2
  · simp only [Corr.re] at hk
    by_cases e : k = D
    · rw [if_pos e] at hk; cases hk
    · rw [if_neg e] at hk
      exact ⟨(h.pin k o hk).1, (hw k e).trans (h.pin k o hk).2⟩
  · simp only [Corr.re]
    split
    · rfl
    · exact h.apin id o ho
theorem Rel.pinLess {W0 : World} {C : Corr} {nx : Nat} {H : Heap} {w : World} (h : Rel W0 C nx H w) {p : Nat → Option Obj} (hp : ∀ k o, p k = some o → C.pin k = some o) : Rel W0 (C.re p) nx H w := by
  refine ⟨h.below, h.lt, fun id o ho => (h.obj id o ho).mono0 (Stp0.re _ _ _ _) rfl rfl rfl, fun id o ho hr => ⟨(h.own id o ho hr).1, ?_⟩, h.sep, fun k o hk => h.pin k o (hp k o hk), h.base, h.glob, fun id o ho => ?_⟩
  · simp only [Corr.re]
    cases hq : p (C.loc id).1 with
    | none => rfl
    | some o2 => have := hp _ _ hq; rw [(h.own id o ho hr).2] at this; cases this
  · simp only [Corr.re]
    cases hq : p (C.loc id).1 with
    | none => rfl
    | some o2 => have := hp _ _ hq; rw [h.apin id o ho] at this; cases this
theorem Rel.bump {W0 : World} {C : Corr} {nx : Nat} {H : Heap} {w : World} (h : Rel W0 C nx H w) : Rel W0 C (nx + 1) H w ∧ Stp nx H C (nx + 1) H C := by
  have hst : Stp nx H C (nx + 1) H C := ⟨⟨by omega, fun id o' _ ho _ => ⟨o', ho, rfl, rfl, rfl, rfl⟩⟩, fun _ _ x => x, fun _ _ h => ⟨h, rfl⟩⟩
  exact ⟨⟨h.below, fun id o ho => ⟨by have := (h.lt id o ho).1; omega, fun t ht => by have := (h.lt id o ho).2 t ht; omega⟩, fun id o ho => (h.obj id o ho).mono hst rfl rfl rfl, h.own, h.sep, h.pin, Nat.le_succ_of_le h.base, h.glob, h.apin⟩, hst⟩
theorem Rel.adopt {W0 : World} {C : Corr} {nx : Nat} {H : Heap} {w : World} (h : Rel W0 C nx H w) {b : Nat} {cs cs' : List Value} {el : TypeId} {esz : Nat} (hb : C.pin b = some (.cells cs'.toArray el)) (hv : VRs nx H C cs cs') :
    Rel W0 ((C.re fun k => if k = b then none else C.pin k).put nx (b, 0) cs'.length) (nx + 1) (H.put nx (.cells cs esz none false (some el))) w ∧
      Stp0 nx H C (nx + 1) (H.put nx (.cells cs esz none false (some el))) ((C.re fun k => if k = b then none else C.pin k).put nx (b, 0) cs'.length) := by
  obtain ⟨hp1, hp2⟩ := h.pin b _ hb
  have hst : Stp0 nx H C (nx + 1) (H.put nx (.cells cs esz none false (some el))) ((C.re fun k => if k = b then none else C.pin k).put nx (b, 0) cs'.length) := ⟨by omega, fun id o' hid ho' ht => by
    have : id ≠ nx := by omega
    simp only [Heap.put, this, if_false] at ho'
    exact ⟨o', ho', rfl, rfl, by simp [Corr.put, Corr.re, this], by simp [Corr.put, Corr.re, this]⟩⟩
  have hne : ∀ id o, H id = some o → (C.loc id).1 ≠ b := fun id o ho e => by
    have := h.apin id o ho
    rw [e, hb] at this
    cases this
  have hlt := fun id o (ho : H id = some o) => (h.lt id o ho).1
  refine ⟨⟨h.below, ?_, ?_, ?_, ?_, fun k o hk => ?_, Nat.le_succ_of_le h.base, fun g o' hg ho' => ?_, fun id o' ho' => ?_⟩, hst⟩
  · intro id o' ho'
    by_cases e : id = nx
    · subst e
      simp only [Heap.put, if_true, Option.some.injEq] at ho'
      subst ho'
      exact ⟨by omega, fun t ht => by cases ht⟩
    · simp only [Heap.put, e, if_false] at ho'
      obtain ⟨a, b⟩ := h.lt id o' ho'
      exact ⟨by omega, fun t ht => by have := b t ht; omega⟩
  · intro id o' ho'
    by_cases e : id = nx
    · subst e
      simp only [Heap.put, if_true, Option.some.injEq] at ho'
      subst ho'
      refine ⟨cs'.toArray, el, (0, 0), by simpa [Corr.put] using hp2, by simp [Corr.put], by simp [Corr.put, hv.1], fun i hi hi' => ?_, fun _ i _ => (by omega), fun t ht => Option.some.inj ht, fun _ _ => ⟨(by simp [Corr.put]), (by simp [hv.1])⟩, fun _ => .inr rfl⟩
      have := (hv.2 i hi (by rw [← hv.1]; exact hi)).mono0 hst
      simpa [Corr.put] using this
    · simp only [Heap.put, e, if_false] at ho'
      exact (h.obj id o' ho').mono0 hst (by simp [Corr.put, Corr.re, e]) (by simp [Corr.put, Corr.re, e]) rfl
  · intro id o' ho' hro
    by_cases e : id = nx
    · subst e; simp only [Corr.put, Corr.re, if_true]; exact ⟨hp1, trivial⟩
    · simp only [Heap.put, e, if_false] at ho'
      refine ⟨by simpa [Corr.put, Corr.re, e] using (h.own id o' ho' hro).1, ?_⟩
      simp only [Corr.put, Corr.re, e, if_false]
      rw [if_neg (hne id o' ho')]
      exact h.apin id o' ho'
  · intro i j oi oj hi hj hnij hro
    by_cases e : i = nx
    · have e2 : j ≠ nx := fun x => hnij (e.trans x.symm)
      simp only [Heap.put, e2, if_false] at hj
      simp only [Corr.put, Corr.re, e, e2, if_true, if_false]
      exact fun x => hne j oj hj x.symm
    · simp only [Heap.put, e, if_false] at hi
      by_cases e2 : j = nx
      · simp only [Corr.put, Corr.re, e, e2, if_true, if_false]
        exact hne i oi hi
      · simp only [Heap.put, e2, if_false] at hj
        simpa [Corr.put, Corr.re, e, e2] using h.sep i j oi oj hi hj hnij hro
  · simp only [Corr.put, Corr.re] at hk
    split at hk
    · cases hk
    · exact h.pin k o hk
  · have e : g ≠ nx := by have := h.base; omega
    simp only [Heap.put, e, if_false] at ho'
    simpa [Corr.put, Corr.re, e] using h.glob g o' hg ho'
  · by_cases e : id = nx
    · subst e; simp [Corr.put, Corr.re]
    · simp only [Heap.put, e, if_false] at ho'
      simp only [Corr.put, Corr.re, e, if_false]
      rw [if_neg (hne id o' ho')]
      exact h.apin id o' ho'
theorem Rel.sub {W0 : World} {C : Corr} {nx : Nat} {H H' : Heap} {w : World} (h : Rel W0 C nx H w) (hle : ∀ id o, H' id = some o → H id = some o) : Rel W0 C nx H' w ∧ Stp0 nx H C nx H' C := by
  have hst : Stp0 nx H C nx H' C := ⟨Nat.le_refl _, fun id o' _ ho' _ => ⟨o', hle id o' ho', rfl, rfl, rfl, rfl⟩⟩
  exact ⟨⟨h.below, fun id o ho => h.lt id o (hle id o ho), fun id o ho => (h.obj id o (hle id o ho)).mono0 hst rfl rfl rfl, fun id o ho => h.own id o (hle id o ho),
    fun i j oi oj hi hj => h.sep i j oi oj (hle i oi hi) (hle j oj hj), h.pin, h.base, fun g o hg ho => h.glob g o hg (hle g o ho), fun id o ho => h.apin id o (hle id o ho)⟩, hst⟩
end Go.Am
namespace Go.Am
open Go.RowKit
inductive Eff where
  | none
  | new (o : AObj)
  | upd (id : Nat) (o : AObj)
  | bump (id : Nat) (o : AObj)
def Eff.H (e : Eff) (nx : Nat) (H : Heap) : Heap :=
  match e with
  | .none => H
  | .new o => H.put nx o
  | .upd id o => H.put id o
  | .bump id o => H.put id o
def Eff.nx (e : Eff) (nx : Nat) : Nat :=
  match e with
  | .none | .upd _ _ => nx
  | .new _ | .bump _ _ => nx + 1
def Snd (W0 : World) (C : Corr) (nx : Nat) (H : Heap) (r : Result Value) (v : Value) (e : Eff) : Prop :=
  ∃ v' w' C', r = .ok v' w' ∧ Rel W0 C' (e.nx nx) (e.H nx H) w' ∧ Stp nx H C (e.nx nx) (e.H nx H) C' ∧ VR (e.nx nx) (e.H nx H) C' v v'
theorem Snd.same {W0 : World} {C : Corr} {nx : Nat} {H : Heap} {w : World} {r : Result Value} {v v' : Value} (hR : Rel W0 C nx H w) (hr : r = .ok v' w) (hv : VR nx H C v v') : Snd W0 C nx H r v .none :=
  ⟨v', w, C, hr, hR, Stp.refl _ _ _, hv⟩
section
variable {P : Program} {W0 : World} {C : Corr} {nx : Nat} {H : Heap} {w : World}
theorem VRs.nil : VRs nx H C [] [] := ⟨rfl, fun i h => absurd h (by simp)⟩
theorem VRs.cons {a b : Value} {l l' : List Value} (h : VR nx H C a b) (k : VRs nx H C l l') : VRs nx H C (a :: l) (b :: l') :=
  ⟨by simp [k.1], fun i h1 h2 => by
    cases i with
    | zero => exact h
    | succ i => exact k.2 i (by simpa using h1) (by simpa using h2)⟩
theorem VRs.append {a b c d : List Value} (h : VRs nx H C a b) (k : VRs nx H C c d) : VRs nx H C (a ++ c) (b ++ d) :=
  ⟨by simp [h.1, k.1], fun i h1 h2 => by
    by_cases e : i < a.length
    · rw [List.getElem_append_left e, List.getElem_append_left (by rw [← h.1]; exact e)]
      exact h.2 i e (by rw [← h.1]; exact e)
    · rw [List.getElem_append_right (by omega), List.getElem_append_right (by rw [← h.1]; omega)]
      have : i - b.length = i - a.length := by rw [h.1]
      simp only [this]
      simp only [List.length_append] at h1 h2
      exact k.2 _ (by omega) (by have := h.1; have := k.1; omega)⟩
theorem VRs.take {a b : List Value} (n : Nat) (h : VRs nx H C a b) : VRs nx H C (a.take n) (b.take n) :=
  ⟨by simp [h.1], fun i h1 h2 => by
    simp only [List.length_take] at h1 h2
    rw [List.getElem_take, List.getElem_take]
    exact h.2 i (by omega) (by omega)⟩
theorem VRs.drop {a b : List Value} (n : Nat) (h : VRs nx H C a b) : VRs nx H C (a.drop n) (b.drop n) :=
  ⟨by simp [h.1], fun i h1 h2 => by
    simp only [List.length_drop] at h1 h2
    rw [List.getElem_drop, List.getElem_drop]
    exact h.2 _ (by omega) (by omega)⟩
theorem VRs.get? {a b : List Value} (h : VRs nx H C a b) {i : Nat} {v : Value} (hv : a[i]? = some v) : ∃ v', b[i]? = some v' ∧ VR nx H C v v' := by
  obtain ⟨hi, rfl⟩ := List.getElem?_eq_some_iff.1 hv
  have hi' : i < b.length := by rw [← h.1]; exact hi
  exact ⟨b[i], by simp [hi'], h.2 i hi hi'⟩
theorem VR.cells {v v' : Value} (h : VR nx H C v v') : VRs nx H C v.cells.toList v'.cells.toList := by
  cases h with
  | agg a a' ha h1 => exact ⟨by simpa [Value.cells] using ha, fun i x y => h1 i (by simpa [Value.cells] using x) (by simpa [Value.cells] using y)⟩
  | bool b => exact VRs.cons (.bool b) VRs.nil
  | int k n => exact VRs.cons (.int k n) VRs.nil
  | string s => exact VRs.cons (.string s) VRs.nil
  | nilFunc => exact VRs.cons .nilFunc VRs.nil
  | nilIface => exact VRs.cons .nilIface VRs.nil
  | nilp => exact VRs.cons .nilp VRs.nil
  | ptr a b h1 h2 => exact VRs.cons (.ptr a b h1 h2) VRs.nil
  | nils l c => exact VRs.cons (.nils l c) VRs.nil
  | slc a l c b d h1 h2 => exact VRs.cons (.slc a l c b d h1 h2) VRs.nil
  | nilm => exact VRs.cons .nilm VRs.nil
  | map r r' h1 h2 => exact VRs.cons (.map r r' h1 h2) VRs.nil
  | func fn a a' b b' ha hb h1 h2 => exact VRs.cons (.func fn a a' b b' ha hb h1 h2) VRs.nil
  | yld r r' h1 h2 => exact VRs.cons (.yld r r' h1 h2) VRs.nil
  | iface t v v' h => exact VRs.cons (.iface t v v' h) VRs.nil
  | tuple a a' ha h1 => exact VRs.cons (.tuple a a' ha h1) VRs.nil
theorem VR.one {v v' : Value} (h : VR nx H C v v') : v'.oneCell' = v.oneCell' := by cases h <;> rfl
theorem VRs.agg {l l' : List Value} (h : VRs nx H C l l') : VR nx H C (.agg l.toArray) (.agg l'.toArray) := .agg _ _ (by simpa using h.1) (fun i a b => by simpa using h.2 i (by simpa using a) (by simpa using b))
theorem VRs.tuple {l l' : List Value} (h : VRs nx H C l l') : VR nx H C (.tuple l.toArray) (.tuple l'.toArray) := .tuple _ _ (by simpa using h.1) (fun i a b => by simpa using h.2 i (by simpa using a) (by simpa using b))
theorem VRs.all_one {l l' : List Value} (h : VRs nx H C l l') (h1 : l.all (·.oneCell') = true) : ∀ v ∈ l', v.oneCell' = true := by
  intro v hv
  obtain ⟨i, hi, rfl⟩ := List.getElem_of_mem hv
  have hi' : i < l.length := by rw [h.1]; exact hi
  rw [(h.2 i hi' hi).one]
  exact List.all_eq_true.1 h1 _ (List.getElem_mem hi')
def getc (H : Heap) (a : Addr) (n : Nat) : Option (List Value) :=
  match H a.block with
  | some (.cells c _ t _ _) => if t = a.spot ∧ a.off + n ≤ c.length then some ((c.drop a.off).take n) else none
  | _ => none
theorem add_none (b o i : Nat) : (⟨b, o, none⟩ : Addr).add i = ⟨b, o + i, none⟩ := by unfold Addr.add; split <;> simp_all
theorem getc_live {a : Addr} {n : Nat} {vs : List Value} (h : getc H a n = some vs) : live H a := by
  unfold getc at h
  split at h
  · rename_i c e t r q ho
    split at h
    · rename_i hc; exact ⟨_, ho, hc.1⟩
    · cases h
  · cases h
theorem getc_sound (hR : Rel W0 C nx H w) {a : Addr} {n : Nat} {vs : List Value} (h : getc H a n = some vs) :
    ∃ vs', VRs nx H C vs vs' ∧ vs'.length = n ∧ ∀ i, i < n → w.cell? ((C.at a).add i) = vs'[i]? := by
  unfold getc at h
  split at h
  case h_2 => cases h
  rename_i c e t r q ho
  split at h
  case isFalse => cases h
  rename_i hc
  obtain ⟨htag, hlen⟩ := hc
  simp only [Option.some.injEq] at h
  subst h
  obtain ⟨Cc, el, fr, h1, h2, h3, h4, h5⟩ := hR.obj _ _ ho
  refine ⟨(Cc.toList.drop ((C.loc a.block).2 + a.off)).take n, ⟨?_, ?_⟩, ?_, ?_⟩
  · simp; omega
  · intro i hi hi'
    simp only [List.length_take, List.length_drop] at hi hi'
    rw [List.getElem_take, List.getElem_take, List.getElem_drop, List.getElem_drop]
    have := h4 (a.off + i) (by omega) (by simp at hi'; omega)
    simpa [Nat.add_assoc] using this
  · simp; omega
  · intro i hi
    simp only [Corr.at, add_none, World.cell?, h1]
    rw [List.getElem?_take, List.getElem?_drop]
    simp [hi, Nat.add_assoc]
theorem run_loadCellsFrom (a : Addr) : ∀ (n i : Nat) (acc : Array Value) (vs : List Value), vs.length = n → (∀ j, j < n → w.cell? (a.add (i + j)) = vs[j]?) →
    (loadCellsFrom a i n acc).run P w = .ok (acc ++ vs.toArray) w := by
  intro n
  induction n with
  | zero => intro i acc vs hl _; cases vs with
    | nil => simp [loadCellsFrom]
    | cons v r => simp at hl
  | succ n ih =>
    intro i acc vs hl hc
    cases vs with
    | nil => simp at hl
    | cons v r =>
      have h0 := hc 0 (by omega)
      simp only [Nat.add_zero, List.getElem?_cons_zero] at h0
      simp only [loadCellsFrom, Sem.run_bind, run_load, h0, Result.andThen_ok]
      rw [ih (i + 1) (acc.push v) r (by simpa using hl) (fun j hj => by have := hc (j + 1) (by omega); simpa [Nat.add_assoc, Nat.add_comm 1 j] using this)]
      simp
theorem run_loadCells {a : Addr} {n : Nat} {vs : List Value} (hl : vs.length = n) (hc : ∀ i, i < n → w.cell? (a.add i) = vs[i]?) :
    (loadCells a n).run P w = .ok vs.toArray w := by
  unfold loadCells
  rw [run_loadCellsFrom a n 0 #[] vs hl (by simpa using hc)]
  simp
def setc (H : Heap) (a : Addr) (vs : List Value) : Option AObj :=
  match H a.block with
  | some (.cells c e t ro q) => if t = a.spot ∧ a.off + vs.length ≤ c.length ∧ ro = false ∧ vs.all (·.oneCell') = true then some (.cells (c.take a.off ++ vs ++ c.drop (a.off + vs.length)) e t ro q) else none
  | _ => none
theorem run_storeCells (g o : Nat) (el : TypeId) (fr : Nat × Nat) : ∀ (vs : List Value) (i : Nat) (Cc : Array Value) (w : World), w.heap[g]? = some (.cells Cc el fr) → o + i + vs.length ≤ Cc.size →
    (∀ k, k < Cc.size → ¬ (fr.1 ≤ k ∧ k < fr.2)) → (∀ v ∈ vs, v.oneCell' = true) →
    ∃ w' Cc', (storeCells ⟨g, o, none⟩ vs i).run P w = .ok () w' ∧ w'.heap[g]? = some (.cells Cc' el fr) ∧ Cc'.size = Cc.size ∧
      (∀ k, Cc'[k]? = if o + i ≤ k ∧ k < o + i + vs.length then vs[k - (o + i)]? else Cc[k]?) ∧ (∀ k, k ≠ g → w'.heap[k]? = w.heap[k]?) ∧ w'.heap.size = w.heap.size ∧
      w'.os = w.os ∧ w'.tape = w.tape ∧ w'.output = w.output ∧ w'.drawn = w.drawn := by
  intro vs
  induction vs with
  | nil =>
    intro i Cc w hg hl hf h1
    exact ⟨w, Cc, by simp [storeCells], hg, rfl, fun k => by rw [if_neg (by simp only [List.length_nil]; omega)], fun _ _ => rfl, rfl, rfl, rfl, rfl, rfl⟩
  | cons v r ih =>
    intro i Cc w hg hl hf h1
    simp only [List.length_cons] at hl
    have hcell : w.cell? ⟨g, o + i, none⟩ = some (Cc[o + i]'(by omega)) := by
      rw [cell_of_row w g (o + i) Cc el fr hg, Array.getElem?_eq_getElem]
    have hfro : w.frozen? ⟨g, o + i, none⟩ = false := by
      have := hf (o + i) (by omega)
      simp only [World.frozen?, hg]
      simp only [Bool.and_eq_false_iff, decide_eq_false_iff_not]
      omega
    have hrow : (w.setCell ⟨g, o + i, none⟩ v).heap[g]? = some (.cells (Cc.setIfInBounds (o + i) v) el fr) := by
      simp [World.setCell, Array.getElem?_modify, hg]
    obtain ⟨w', Cc', e1, e2, e3, e4, e5, e6, e7, e8, e9, e10⟩ := ih (i + 1) (Cc.setIfInBounds (o + i) v) (w.setCell ⟨g, o + i, none⟩ v) hrow (by simp; omega) (by simpa using hf) (fun x hx => h1 x (List.mem_cons_of_mem _ hx))
    refine ⟨w', Cc', ?_, e2, by simpa using e3, ?_, ?_, by simpa using e6, e7, e8, e9, e10⟩
    · simp only [storeCells, add_none, Sem.run_bind]
      rw [run_store P w _ v _ (h1 v (List.mem_cons_self ..)), hcell]
      simp only [hfro, Bool.false_eq_true, if_false, Result.andThen_ok]
      exact e1
    · intro k
      rw [e4 k]
      simp only [List.length_cons]
      by_cases c1 : o + (i + 1) ≤ k ∧ k < o + (i + 1) + r.length
      · rw [if_pos c1, if_pos (by omega)]
        have : k - (o + i) = (k - (o + (i + 1))) + 1 := by omega
        rw [this]; simp
      · rw [if_neg c1]
        by_cases c2 : k = o + i
        · subst c2
          rw [if_pos (by omega), Array.getElem?_setIfInBounds_self_of_lt (by omega)]
          simp
        · rw [if_neg (by omega)]
          rw [Array.getElem?_setIfInBounds_ne (by omega)]
    · intro k hk
      rw [e5 k hk]
      exact Below.heap_setCell _ _ _ _ hk
theorem setc_sound (hR : Rel W0 C nx H w) {a : Addr} {vs vs' : List Value} {o : AObj} (h : setc H a vs = some o) (hv : VRs nx H C vs vs') :
    ∃ w', (storeCells (C.at a) vs' 0).run P w = .ok () w' ∧ Rel W0 C nx (H.put a.block o) w' ∧ Stp nx H C nx (H.put a.block o) C := by
  unfold setc at h
  split at h
  case h_2 => cases h
  rename_i c e t ro q ho
  split at h
  case isFalse => cases h
  rename_i hc
  obtain ⟨htag, hlen, rfl, hone⟩ := hc
  simp only [Option.some.injEq] at h
  subst h
  have hO := hR.obj _ _ ho
  obtain ⟨Cc, el, fr, h1, h2, h3, h4, h5⟩ := hO
  have hblk := (hR.obj _ _ ho).blk
  have hown := hR.own _ _ ho rfl
  obtain ⟨w', Cc', e1, e2, e3, e4, e5, e6, e7, e8, e9, e10⟩ := run_storeCells (P := P) (C.loc a.block).1 ((C.loc a.block).2 + a.off) el fr vs' 0 Cc w h1 (by rw [← hv.1]; omega) (h5.1 rfl) (hv.all_one hone)
  refine ⟨w', e1, ?_⟩
  have hbel : BelD W0.heap.size W0 w' := hR.below.trans ⟨e7, e8, e9, by omega, fun k hk => e5 k (by omega), Nat.le_of_eq e10.symm⟩
  have key := hR.set (w' := w') a.block _ (.cells (c.take a.off ++ vs ++ c.drop (a.off + vs.length)) e t false q) (C.loc a.block) (C.siz a.block) ho rfl (Nat.le_refl _) (.inl ⟨rfl, rfl, rfl, rfl⟩) (.inl rfl) (fun _ => rfl) hbel
    (fun k _ hk => e5 k hk) ?_
  · have hC : C.put a.block (C.loc a.block) (C.siz a.block) = C := by
      unfold Corr.put
      cases C with
      | mk l s => congr 1 <;> (funext i; simp; intro h; rw [h])
    rw [hC] at key
    exact key
  · rintro C' rfl hst
    have hC : C.put a.block (C.loc a.block) (C.siz a.block) = C := by
      unfold Corr.put
      cases C with
      | mk l s => congr 1 <;> (funext i; simp; intro h; rw [h])
    rw [hC] at hst ⊢
    refine ⟨Cc', el, fr, e2, by rw [e3, h2], ?_, ?_, ⟨fun _ => (by rw [e3]; exact h5.1 rfl), h5.2.1, fun _ ht => (by
      obtain ⟨q1, q2⟩ := h5.2.2.1 rfl ht
      refine ⟨q1, ?_⟩
      rw [e3, q2]; simp; omega), h5.2.2.2⟩⟩
    · rw [e3]; simp; omega
    · intro i hi hi'
      have hget : some Cc'[(C.loc a.block).2 + i] = Cc'[(C.loc a.block).2 + i]? := by simp [hi']
      have h4' : ∀ (j : Nat) (hj : j < c.length), VR nx (H.put a.block (.cells (c.take a.off ++ vs ++ c.drop (a.off + vs.length)) e t false q)) C c[j] (Cc[(C.loc a.block).2 + j]'(by omega)) := fun j hj => (h4 j hj (by omega)).mono hst
      rw [e4] at hget
      by_cases c1 : i < a.off
      · rw [if_neg (by omega)] at hget
        have e : Cc'[(C.loc a.block).2 + i] = Cc[(C.loc a.block).2 + i]'(by omega) := by
          rw [Array.getElem?_eq_getElem (by omega)] at hget; exact Option.some.inj hget
        rw [e]
        have := h4' i (by omega)
        have hg : (c.take a.off ++ vs ++ c.drop (a.off + vs.length))[i] = c[i]'(by omega) := by
          rw [List.getElem_append_left (by simp; omega), List.getElem_append_left (by simp; omega), List.getElem_take]
        rw [hg]
        exact this
      · by_cases c2 : i < a.off + vs.length
        · rw [if_pos (by rw [← hv.1]; omega)] at hget
          have hk : (C.loc a.block).2 + i - ((C.loc a.block).2 + a.off + 0) = i - a.off := by omega
          rw [hk] at hget
          have hlt : i - a.off < vs'.length := by rw [← hv.1]; omega
          rw [List.getElem?_eq_getElem hlt] at hget
          rw [Option.some.inj hget]
          have := (hv.2 (i - a.off) (by omega) hlt).mono hst
          have hg : (c.take a.off ++ vs ++ c.drop (a.off + vs.length))[i] = vs[i - a.off]'(by omega) := by
            rw [List.getElem_append_left (by simp; omega), List.getElem_append_right (by simp; omega)]
            congr 1; simp; omega
          rw [hg]
          exact this
        · rw [if_neg (by rw [← hv.1]; omega)] at hget
          have hi2 : i < c.length := by simp at hi; omega
          have e : Cc'[(C.loc a.block).2 + i] = Cc[(C.loc a.block).2 + i]'(by omega) := by
            rw [Array.getElem?_eq_getElem (by omega)] at hget; exact Option.some.inj hget
          rw [e]
          have := h4' i hi2
          have hg : (c.take a.off ++ vs ++ c.drop (a.off + vs.length))[i] = c[i]'hi2 := by
            rw [List.getElem_append_right (by simp; omega), List.getElem_drop]
            congr 1; simp; omega
          rw [hg]
          exact this
theorem new_sound (hR : Rel W0 C nx H w) {cs cs' : List Value} (hv : VRs nx H C cs cs') (el : TypeId) (esz : Nat) (rest : List Value) (tag : Option Nat) (ht : ∀ t, tag = some t → t = nx) (hr : tag = none → rest = []) :
    ∃ C', C' = C.put nx (w.heap.size, 0) (cs'.length + rest.length) ∧ Rel W0 C' (nx + 1) (H.put nx (.cells cs esz tag false (some el))) (w.alloc (.cells (cs' ++ rest).toArray el)) ∧ Stp nx H C (nx + 1) (H.put nx (.cells cs esz tag false (some el))) C' := by
  refine ⟨_, rfl, hR.new (.cells cs esz tag false (some el)) (.cells (cs' ++ rest).toArray el) 0 (cs'.length + rest.length) ht ?_⟩
  rintro C' rfl hst
  have hloc : (C.put nx (w.heap.size, 0) (cs'.length + rest.length)).loc nx = (w.heap.size, 0) := by simp [Corr.put]
  have hsiz : (C.put nx (w.heap.size, 0) (cs'.length + rest.length)).siz nx = cs'.length + rest.length := by simp [Corr.put]
  refine ⟨(cs' ++ rest).toArray, el, (0, 0), ?_, ?_, ?_, ?_, fun _ i _ => (by omega), fun t ht => Option.some.inj ht, fun _ ht => ⟨(by simp [Corr.put]), (by simp [hr ht, hv.1])⟩, fun _ => .inr rfl⟩
  · rw [hloc]; exact heap_alloc_new w _
  · rw [hsiz]; simp
  · rw [hloc]; simp [hv.1]
  · intro i hi hi'
    have := (hv.2 i hi (by rw [← hv.1]; exact hi)).mono hst
    simp only [hloc, Nat.zero_add, List.getElem_toArray]
    rw [List.getElem_append_left (by rw [← hv.1]; exact hi)]
    exact this
theorem ptr_new {nx : Nat} {H : Heap} {C : Corr} (o : AObj) (b s off : Nat) : VR (nx + 1) (H.put nx o) (C.put nx (b, 0) s) (.pointer (some ⟨nx, off, none⟩)) (.pointer (some ⟨b, off, none⟩)) :=
  .ptr _ _ ⟨by simp, by simp⟩ (fun _ => by simp [Corr.at, Corr.put])
end
end Go.Am
namespace Go.Am
open Go.RowKit
def szOf (P : Program) (t : TypeId) : Option Nat := (P.info? t).map (·.size)
def isAggD : TypeDesc → Bool
  | .struct _ | .array _ _ => true
  | _ => false
section
variable {P : Program} {W0 : World} {C : Corr} {nx : Nat} {H : Heap} {w : World}
theorem run_sizeOf' {t : TypeId} {n : Nat} (h : szOf P t = some n) (w : World) : (sizeOf t).run P w = .ok n w := by
  unfold szOf at h
  cases hi : P.info? t with
  | none => simp [hi] at h
  | some i => simp [hi] at h; simp [sizeOf, typeInfo, hi, h]
theorem run_isAgg' {t : TypeId} {d : TypeDesc} (h : P.underlying t = some d) (w : World) : (isAgg t).run P w = .ok (isAggD d) w := by
  simp only [isAgg, Sem.run_bind, run_underlying h, Result.andThen_ok]
  cases d <;> rfl
def readAt (P : Program) (H : Heap) (t : TypeId) (a : Addr) : Option Value :=
  match P.underlying t with
  | none => none
  | some d =>
    if isAggD d then
      match szOf P t with
      | some n => (getc H a n).map fun l => .agg l.toArray
      | none => none
    else
      match getc H a 1 with
      | some (v :: _) => some v
      | _ => none
theorem readAt_live {t : TypeId} {a : Addr} {v : Value} (h : readAt P H t a = some v) : live H a := by
  unfold readAt at h
  split at h
  · cases h
  · split at h
    · split at h
      · simp only [Option.map_eq_some_iff] at h
        obtain ⟨l, h1, _⟩ := h
        exact getc_live h1
      · cases h
    · split at h
      · rename_i v' r h1; exact getc_live h1
      · cases h
theorem readAt_sound (hR : Rel W0 C nx H w) {t : TypeId} {a : Addr} {v : Value} (h : readAt P H t a = some v) :
    ∃ v', (loadVar t (C.at a)).run P w = .ok v' w ∧ VR nx H C v v' := by
  unfold readAt at h
  split at h
  · cases h
  · rename_i d hd
    split at h
    · rename_i hagg
      split at h
      · rename_i n hn
        simp only [Option.map_eq_some_iff] at h
        obtain ⟨l, h1, rfl⟩ := h
        obtain ⟨vs', hv, hl, hc⟩ := getc_sound hR h1
        refine ⟨.agg vs'.toArray, ?_, hv.agg⟩
        simp only [loadVar, Sem.run_bind, run_isAgg' hd, Result.andThen_ok, hagg, if_true, run_sizeOf' hn, run_loadCells hl hc, Sem.run_pure]
      · cases h
    · rename_i hagg
      split at h
      · rename_i v' r h1
        simp only [Option.some.injEq] at h
        subst h
        obtain ⟨vs', hv, hl, hc⟩ := getc_sound hR h1
        obtain ⟨u, hu, hvu⟩ := hv.get? (i := 0) (v := v') rfl
        refine ⟨u, ?_, hvu⟩
        have h0 := hc 0 (by omega)
        rw [hu] at h0
        have : (C.at a).add 0 = C.at a := by simp [Corr.at, add_none]
        rw [this] at h0
        simp only [Bool.not_eq_true] at hagg
        simp only [loadVar, Sem.run_bind, run_isAgg' hd, Result.andThen_ok, hagg, Bool.false_eq_true, if_false, run_load, h0]
      · cases h
def aLoad (P : Program) (H : Heap) (t : TypeId) : Value → Option Value
  | .pointer (some a) => readAt P H t a
  | _ => none
theorem aLoad_sound (hR : Rel W0 C nx H w) {t : TypeId} {x x' v : Value} (h : aLoad P H t x = some v) (hx : VR nx H C x x') : Snd W0 C nx H ((Instr.loadAt t x').run P w) v .none := by
  cases hx with
  | ptr a b h1 h2 =>
    simp only [aLoad] at h
    obtain rfl := h2 (readAt_live h)
    obtain ⟨v', e, hv⟩ := readAt_sound hR h
    refine Snd.same hR (v' := v') ?_ hv
    simpa [Instr.loadAt, Instr.sureAddr] using e
  | _ => simp [aLoad] at h
def writeAt (P : Program) (H : Heap) (t : TypeId) (a : Addr) (v : Value) : Option Eff :=
  if szOf P t = some v.cells.size then (setc H a v.cells.toList).map (.upd a.block ·) else none
theorem setc_live {a : Addr} {vs : List Value} {o : AObj} (h : setc H a vs = some o) : live H a := by
  unfold setc at h
  split at h
  · rename_i c e t r q ho
    split at h
    · rename_i hc; exact ⟨_, ho, hc.1⟩
    · cases h
  · cases h
def aStore (P : Program) (H : Heap) (t : TypeId) (x v : Value) : Option Eff :=
  match x with
  | .pointer (some a) => writeAt P H t a v
  | _ => none
theorem aStore_sound (hR : Rel W0 C nx H w) {t : TypeId} {x x' v v' : Value} {e : Eff} (h : aStore P H t x v = some e) (hx : VR nx H C x x') (hv : VR nx H C v v') :
    ∃ w', (Instr.storeAt t x' v').run P w = .ok () w' ∧ Rel W0 C (e.nx nx) (e.H nx H) w' ∧ Stp nx H C (e.nx nx) (e.H nx H) C := by
  cases hx with
  | ptr a b h1 h2 =>
    simp only [aStore, writeAt] at h
    split at h
    · rename_i hs
      simp only [Option.map_eq_some_iff] at h
      obtain ⟨o, h3, rfl⟩ := h
      obtain rfl := h2 (setc_live h3)
      obtain ⟨w', e1, e2, e3⟩ := setc_sound (P := P) hR h3 hv.cells
      refine ⟨w', ?_, e2, e3⟩
      have hsz : v'.cells.size = v.cells.size := by have := hv.cells.1; simp at this; omega
      simp only [Instr.storeAt, Instr.sureAddr, Sem.run_bind, Sem.run_pure, Result.andThen_ok, storeVar, run_sizeOf' hs, hsz, ne_eq, not_true_eq_false, if_false, e1]
    · cases h
  | _ => simp [aStore] at h
def plain1 : Value → Bool
  | .bool _ | .int _ _ | .string _ | .nilFunc | .nilIface | .pointer none | .slice none _ _ | .map none => true
  | _ => false
theorem plain1_VR {v : Value} (h : plain1 v = true) : VR nx H C v v := by
  cases v with
  | bool b => exact .bool b
  | int k n => exact .int k n
  | string s => exact .string s
  | nilFunc => exact .nilFunc
  | nilIface => exact .nilIface
  | pointer a => cases a with
    | none => exact .nilp
    | some a => simp [plain1] at h
  | slice a l c => cases a with
    | none => exact .nils l c
    | some a => simp [plain1] at h
  | map r => cases r with
    | none => exact .nilm
    | some r => simp [plain1] at h
  | _ => simp [plain1] at h
theorem plain_VRs {l : List Value} (h : l.all plain1 = true) : VRs nx H C l l := ⟨rfl, fun _ a _ => plain1_VR (List.all_eq_true.1 h _ (List.getElem_mem a))⟩
def zeroOf (P : Program) (t : TypeId) : Option (List Value) :=
  match (P.info? t).bind (·.zero) with
  | some z => if z.cells.toList.all plain1 then some z.cells.toList else none
  | none => none
theorem run_zeroOf {t : TypeId} {l : List Value} (h : zeroOf P t = some l) : ∃ z, (∀ w, (zeroValue t).run P w = .ok z w) ∧ z.cells = l.toArray ∧ l.all plain1 = true := by
  unfold zeroOf at h
  cases hi : P.info? t with
  | none => simp [hi] at h
  | some i =>
    cases hz : i.zero with
    | none => simp [hi, hz] at h
    | some z =>
      simp only [hi, hz, Option.bind_some] at h
      split at h
      · rename_i hp
        simp only [Option.some.injEq] at h
        subst h
        exact ⟨z, fun w => by simp [zeroValue, typeInfo, hi, hz], by simp, hp⟩
      · cases h
theorem newVar_sound (hR : Rel W0 C nx H w) {v v' : Value} (hv : VR nx H C v v') (t : TypeId) :
    Snd W0 C nx H ((do pure (Value.pointer (some (← newVar t v'))) : Sem Value).run P w) (.pointer (some ⟨nx, 0, none⟩)) (.new (.cells v.cells.toList 0 none false (some t))) := by
  obtain ⟨C', hC, h1, h2⟩ := new_sound hR hv.cells t 0 [] none (by simp) (fun _ => rfl)
  refine ⟨_, _, C', by simp [newVar, newRow]; exact ⟨rfl, rfl⟩, ?_, h2, ?_⟩
  · simpa [Eff.H, Eff.nx] using h1
  · rw [hC]; exact ptr_new _ _ _ _
def aAlloc (P : Program) (nx : Nat) (t : TypeId) : Option (Value × Eff) :=
  (zeroOf P t).map fun l => (.pointer (some ⟨nx, 0, none⟩), .new (.cells l 0 none false (some t)))
theorem aAlloc_sound (hR : Rel W0 C nx H w) {t : TypeId} {v : Value} {e : Eff} (h : aAlloc P nx t = some (v, e)) : Snd W0 C nx H ((Instr.alloc t true (.tuple #[])).run P w) v e := by
  simp only [aAlloc, Option.map_eq_some_iff, Prod.mk.injEq] at h
  obtain ⟨l, hl, rfl, rfl⟩ := h
  obtain ⟨z, hz, hzl, hp⟩ := run_zeroOf hl
  have hv : VRs nx H C l z.cells.toList := by rw [hzl]; exact plain_VRs hp
  obtain ⟨C', hC, h1, h2⟩ := new_sound hR hv t 0 [] none (by simp) (fun _ => rfl)
  refine ⟨_, _, C', by simp [Instr.alloc, hz, newVar, newRow]; exact ⟨rfl, rfl⟩, ?_, h2, ?_⟩
  · simpa [Eff.H, Eff.nx] using h1
  · rw [hC]; exact ptr_new _ _ _ _
def getPart (P : Program) (t : TypeId) (cs : List Value) (off : Nat) : Option Value :=
  match P.underlying t with
  | none => none
  | some d =>
    if isAggD d then
      match szOf P t with
      | some n => if off + n ≤ cs.length then some (.agg ((cs.drop off).take n).toArray) else none
      | none => none
    else cs[off]?
theorem getPart_sound {t : TypeId} {cs cs' : List Value} {off : Nat} {v : Value} (h : getPart P t cs off = some v) (hv : VRs nx H C cs cs') :
    ∃ v', (∀ w, (part t cs'.toArray off).run P w = .ok v' w) ∧ VR nx H C v v' := by
  unfold getPart at h
  split at h
  · cases h
  · rename_i d hd
    split at h
    · rename_i hagg
      split at h
      · rename_i n hn
        split at h
        · rename_i hle
          simp only [Option.some.injEq] at h
          subst h
          refine ⟨_, fun w => ?_, ((hv.drop off).take n).agg⟩
          simp only [part, Sem.run_bind, run_isAgg' hd, Result.andThen_ok, hagg, if_true, run_sizeOf' hn, Sem.run_pure]
          congr 2
          apply Array.ext'
          simp
        · cases h
      · cases h
    · rename_i hagg
      obtain ⟨v', h1, h2⟩ := hv.get? h
      refine ⟨v', fun w => ?_, h2⟩
      simp only [Bool.not_eq_true] at hagg
      simp only [part, Sem.run_bind, run_isAgg' hd, Result.andThen_ok, hagg, Bool.false_eq_true, if_false, List.getElem?_toArray, h1, Sem.run_pure]
def aField (P : Program) (t : TypeId) (x : Value) (f : Nat) : Option Value :=
  match P.underlying t, x with
  | some (.struct fields), .agg cs =>
    match fields[f]? with
    | some fd => getPart P fd.type cs.toList fd.offset
    | none => none
  | _, _ => none
theorem aField_sound (hR : Rel W0 C nx H w) {t : TypeId} {x x' v : Value} {f : Nat} (h : aField P t x f = some v) (hx : VR nx H C x x') : Snd W0 C nx H ((Instr.field t x' f).run P w) v .none := by
  unfold aField at h
  split at h
  · rename_i fields cs hu
    split at h
    · rename_i fd hf
      cases hx with
      | agg a a' ha h1 =>
        have hv : VRs nx H C cs.toList a'.toList := ⟨by simpa using ha, fun i p q => h1 i (by simpa using p) (by simpa using q)⟩
        obtain ⟨v', e, hvv⟩ := getPart_sound h hv
        refine Snd.same hR (v' := v') ?_ hvv
        have e' := e w
        simp only [Array.toArray_toList] at e'
        simp only [Instr.field, Sem.run_bind, run_underlying hu, Result.andThen_ok, hf, asAgg, Sem.run_pure]
        exact e'
    · cases h
  · cases h
def aFieldAddr (P : Program) (s : TypeId) (x : Value) (f : Nat) : Option Value :=
  match P.underlying s, x with
  | some (.struct fields), .pointer (some a) =>
    match fields[f]? with
    | some fd =>
      match szOf P fd.type with
      | some n => if n = 0 then none else some (.pointer (some ⟨a.block, a.off + fd.offset, a.spot⟩))
      | none => none
    | none => none
  | _, _ => none
theorem at_add {a b : Addr} (n : Nat) (h : live H a → b = C.at a) : live H ⟨a.block, a.off + n, a.spot⟩ → b.add n = C.at ⟨a.block, a.off + n, a.spot⟩ := by
  intro hl
  rw [h hl]
  simp [Corr.at, add_none, Nat.add_assoc]
theorem aFieldAddr_sound (hR : Rel W0 C nx H w) {s : TypeId} {x x' v : Value} {f : Nat} (h : aFieldAddr P s x f = some v) (hx : VR nx H C x x') : Snd W0 C nx H ((Instr.fieldAt s x' f).run P w) v .none := by
  unfold aFieldAddr at h
  split at h
  · rename_i fields a hu
    split at h
    · rename_i fd hf
      split at h
      · rename_i n hn
        split at h
        · cases h
        · rename_i hn0
          simp only [Option.some.injEq] at h
          subst h
          cases hx with
          | ptr _ b h1 h2 =>
            refine Snd.same hR (v' := .pointer (some (b.add fd.offset))) ?_ (.ptr _ _ h1 (at_add _ h2))
            simp only [Instr.fieldAt, Sem.run_bind, run_underlying hu, Result.andThen_ok, hf, Instr.sureAddr, Sem.run_pure, fieldPlace, run_sizeOf' hn, hn0, if_false]
      · cases h
    · cases h
  · cases h
def aIndexAddr (P : Program) (t : TypeId) (x i : Value) : Option Value :=
  match P.underlying t, x, i with
  | some (.array len elem), .pointer (some a), .int _ i =>
    match szOf P elem with
    | some n => if 0 ≤ i ∧ i < len then some (.pointer (some ⟨a.block, a.off + i.toNat * n, a.spot⟩)) else none
    | none => none
  | some (.slice elem), .slice (some a) len _, .int _ i =>
    match szOf P elem with
    | some n => if 0 ≤ i ∧ i < len then some (.pointer (some ⟨a.block, a.off + i.toNat * n, a.spot⟩)) else none
    | none => none
  | _, _, _ => none
theorem aIndexAddr_sound (hR : Rel W0 C nx H w) {t : TypeId} {x x' i i' v : Value} (h : aIndexAddr P t x i = some v) (hx : VR nx H C x x') (hi : VR nx H C i i') : Snd W0 C nx H ((Instr.indexAt t x' i').run P w) v .none := by
  unfold aIndexAddr at h
  split at h
  · rename_i len elem a k i hu
    split at h
    · rename_i n hn
      split at h
      · rename_i hb
        simp only [Option.some.injEq] at h
        subst h
        cases hi with
        | int =>
        cases hx with
        | ptr _ b h1 h2 =>
          refine Snd.same hR (v' := .pointer (some (b.add (i.toNat * n)))) ?_ (.ptr _ _ h1 (at_add _ h2))
          simp only [Instr.indexAt, asIntOf, Sem.run_bind, Sem.run_pure, run_underlying hu, Result.andThen_ok, Instr.sureAddr, Sem.run_ite, run_sizeOf' hn]
          rw [if_pos hb]
      · cases h
    · cases h
  · rename_i elem a len c k i hu
    split at h
    · rename_i n hn
      split at h
      · rename_i hb
        simp only [Option.some.injEq] at h
        subst h
        cases hi with
        | int =>
        cases hx with
        | slc _ _ _ b _ h1 h2 =>
          refine Snd.same hR (v' := .pointer (some (b.add (i.toNat * n)))) ?_ (.ptr _ _ h1 (at_add _ (fun ⟨o, ho, ht⟩ => (h2 o ho ht).1)))
          simp only [Instr.indexAt, asIntOf, Sem.run_bind, Sem.run_pure, run_underlying hu, Result.andThen_ok, Sem.run_ite, run_sizeOf' hn]
          rw [if_pos hb]
      · cases h
    · cases h
  · cases h
def aIndex (P : Program) (t : TypeId) (x i : Value) : Option Value :=
  match P.underlying t, x, i with
  | some (.array len elem), .agg cs, .int _ i =>
    match szOf P elem with
    | some n => if 0 ≤ i ∧ i < len then getPart P elem cs.toList (i.toNat * n) else none
    | none => none
  | some .string, .string s, .int _ i => if 0 ≤ i then (s.data.toList[i.toNat]?).map fun b => .int .u8 b.toNat else none
  | _, _, _ => none
theorem aIndex_sound (hR : Rel W0 C nx H w) {t : TypeId} {x x' i i' v : Value} (h : aIndex P t x i = some v) (hx : VR nx H C x x') (hi : VR nx H C i i') : Snd W0 C nx H ((Instr.index t x' i').run P w) v .none := by
  unfold aIndex at h
  split at h
  · rename_i len elem cs k i hu
    split at h
    · rename_i n hn
      split at h
      · rename_i hb
        cases hi with
        | int =>
        cases hx with
        | agg a a' ha h1 =>
          have hv : VRs nx H C cs.toList a'.toList := ⟨by simpa using ha, fun i p q => h1 i (by simpa using p) (by simpa using q)⟩
          obtain ⟨v', e, hvv⟩ := getPart_sound h hv
          refine Snd.same hR (v' := v') ?_ hvv
          have e' := e w
          simp only [Array.toArray_toList] at e'
          simp only [Instr.index, asIntOf, Sem.run_bind, Sem.run_pure, run_underlying hu, Result.andThen_ok, Sem.run_ite, run_sizeOf' hn]
          rw [if_pos hb]
          exact e'
      · cases h
    · cases h
  · rename_i s k i hu
    split at h
    · rename_i hb
      simp only [Option.map_eq_some_iff] at h
      obtain ⟨b, hb2, rfl⟩ := h
      cases hi with
      | int =>
      cases hx with
      | string =>
        refine Snd.same hR (v' := .int .u8 b.toNat) ?_ (.int _ _)
        have hs : s[i.toNat]? = some b := by
          have hlt : i.toNat < s.data.size := by
            have := (List.getElem?_eq_some_iff.1 hb2).1; simpa using this
          have : s[i.toNat]? = some (s[i.toNat]'hlt) := getElem?_pos s i.toNat hlt
          rw [this]
          obtain ⟨h1, h2⟩ := List.getElem?_eq_some_iff.1 hb2
          rw [← h2]
          rfl
        simp only [Instr.index, asIntOf, Sem.run_bind, Sem.run_pure, run_underlying hu, Result.andThen_ok, hb, if_true, hs]
    · cases h
  · cases h
end
end Go.Am
namespace Go.Am
open Go.RowKit
section
variable {P : Program} {W0 : World} {C : Corr} {nx : Nat} {H : Heap} {w : World}
def splice (cells : List Value) (off : Nat) (vs : List Value) : List Value := cells.take off ++ vs ++ cells.drop (off + vs.length)
theorem foldl_splice (off : Nat) : ∀ (l : List Value) (k : Nat) (cs : Array Value), off + k + l.length ≤ cs.size →
    (l.zipIdx k).foldl (fun cs (x : Value × Nat) => cs.setIfInBounds (off + x.2) x.1) cs = (splice cs.toList (off + k) l).toArray := by
  intro l
  induction l with
  | nil => intro k cs h; apply Array.ext'; simp [splice]
  | cons v r ih =>
    intro k cs h
    simp only [List.length_cons] at h
    simp only [List.zipIdx_cons, List.foldl_cons]
    rw [ih (k + 1) (cs.setIfInBounds (off + k) v) (by simp; omega)]
    apply Array.ext'
    simp only [splice, Array.toList_setIfInBounds]
    apply List.ext_getElem?
    intro i
    simp only [List.length_cons]
    have hcs : cs.toList.length = cs.size := by simp
    have e1 : ((cs.toList.set (off + k) v).take (off + (k + 1))).length = off + k + 1 := by simp; omega
    have e2 : (cs.toList.take (off + k)).length = off + k := by simp; omega
    by_cases c1 : i < off + k
    · rw [List.append_assoc, List.append_assoc, List.getElem?_append_left (by omega), List.getElem?_append_left (by omega), List.getElem?_take, List.getElem?_take, if_pos (by omega), if_pos c1, List.getElem?_set_ne (by omega)]
    · by_cases c2 : i = off + k
      · subst c2
        rw [List.append_assoc, List.append_assoc, List.getElem?_append_left (by omega), List.getElem?_take, if_pos (by omega), List.getElem?_append_right (by omega), e2]
        rw [List.getElem?_set_self (by omega)]
        simp
      · have L : (((cs.toList.set (off + k) v).take (off + (k + 1)) ++ r) ++ (cs.toList.set (off + k) v).drop (off + (k + 1) + r.length))[i]? = (r ++ (cs.toList.set (off + k) v).drop (off + (k + 1) + r.length))[i - (off + k + 1)]? := by
          rw [List.append_assoc, List.getElem?_append_right (by omega), e1]
        have R : ((cs.toList.take (off + k) ++ v :: r) ++ cs.toList.drop (off + k + (r.length + 1)))[i]? = (r ++ cs.toList.drop (off + k + (r.length + 1)))[i - (off + k + 1)]? := by
          rw [List.append_assoc, List.getElem?_append_right (by omega), e2]
          have : i - (off + k) = (i - (off + k + 1)) + 1 := by omega
          rw [this, List.cons_append, List.getElem?_cons_succ]
        rw [L, R]
        by_cases c3 : i - (off + k + 1) < r.length
        · rw [List.getElem?_append_left c3, List.getElem?_append_left c3]
        · rw [List.getElem?_append_right (by omega), List.getElem?_append_right (by omega), List.getElem?_drop, List.getElem?_drop, List.getElem?_set_ne (by omega)]
          congr 1; omega
def aFill (place : Nat → Option (Nat × Nat)) (cells : List Value) : List (Nat × Value) → Option (List Value)
  | [] => some cells
  | (i, v) :: rest =>
    match place i with
    | none => none
    | some (off, size) => if v.cells.toList.length = size ∧ off + size ≤ cells.length then aFill place (splice cells off v.cells.toList) rest else none
theorem VRs.splice {a b c d : List Value} (off : Nat) (h : VRs nx H C a b) (k : VRs nx H C c d) : VRs nx H C (splice a off c) (splice b off d) := by
  unfold Am.splice
  rw [← k.1]
  exact ((h.take off).append k).append (h.drop _)
def PRs (nx : Nat) (H : Heap) (C : Corr) : List (Nat × Value) → List (Nat × Value) → Prop
  | [], [] => True
  | (i, v) :: l, (j, v') :: l' => i = j ∧ VR nx H C v v' ∧ PRs nx H C l l'
  | _, _ => False
theorem aFill_sound {place : Nat → Option (Nat × Nat)} : ∀ {parts parts' : List (Nat × Value)} {cells cells' r : List Value}, aFill place cells parts = some r → VRs nx H C cells cells' → PRs nx H C parts parts' →
    ∃ r', Instr.fill place cells'.toArray parts' = some r'.toArray ∧ VRs nx H C r r' := by
  intro parts
  induction parts with
  | nil =>
    intro parts' cells cells' r h hc hp
    cases parts' with
    | nil => simp only [aFill, Option.some.injEq] at h; subst h; exact ⟨cells', by simp [Instr.fill], hc⟩
    | cons x y => exact hp.elim
  | cons x l ih =>
    obtain ⟨i, v⟩ := x
    intro parts' cells cells' r h hc hp
    cases parts' with
    | nil => exact hp.elim
    | cons y l' =>
      obtain ⟨j, v'⟩ := y
      obtain ⟨rfl, hv, hp⟩ := hp
      simp only [aFill] at h
      cases hpl : place i with
      | none => simp [hpl] at h
      | some os =>
        obtain ⟨off, size⟩ := os
        simp only [hpl] at h
        split at h
        · rename_i hcond
          have hvc := hv.cells
          obtain ⟨r', e1, e2⟩ := ih h (hc.splice off hvc) hp
          refine ⟨r', ?_, e2⟩
          simp only [Instr.fill, hpl]
          have hs' : v'.cells.size = size := by have := hvc.1; simp at this hcond; omega
          have hl' : cells'.length = cells.length := hc.1.symm
          rw [if_neg (by simp [hs', hl', hcond.2])]
          rw [← e1]
          congr 1
          have := foldl_splice off v'.cells.toList 0 cells'.toArray (by simp [hs', hl', hcond.2])
          simp only [Nat.add_zero] at this
          rw [← this, ← Array.foldl_toList]
          congr 1
          simp
        · cases h
theorem run_mapM {α β : Type} (f : α → Sem β) (g : α → β) (l : Array α) (h : ∀ x ∈ l.toList, ∀ w, (f x).run P w = .ok (g x) w) : (l.mapM f).run P w = .ok (l.map g) w := by
  have key : ∀ (l : List α), (∀ x ∈ l, ∀ w, (f x).run P w = .ok (g x) w) → ∀ w, (l.mapM f).run P w = .ok (l.map g) w := by
    intro l
    induction l with
    | nil => intro _ w; simp
    | cons x r ih =>
      intro hh w
      simp only [List.mapM_cons, Sem.run_bind, hh x (List.mem_cons_self ..), Result.andThen_ok, ih (fun y hy => hh y (List.mem_cons_of_mem _ hy)), Sem.run_pure, List.map_cons]
  rw [Array.mapM_eq_mapM_toList, Sem.run_map, key l.toList h w, Result.andThen_ok]
  congr 1
  apply Array.ext'
  simp
def fieldPlaces (P : Program) (fields : Array Field) (i : Nat) : Option (Nat × Nat) :=
  match fields[i]? with
  | some f => (szOf P f.type).map fun n => (f.offset, n)
  | none => none
def aBuild (P : Program) (t : TypeId) (parts : List (Nat × Value)) : Option Value :=
  match P.underlying t, zeroOf P t with
  | some (.struct fields), some z =>
    if fields.toList.all fun f => (szOf P f.type).isSome then (aFill (fieldPlaces P fields) z parts).map fun l => .agg l.toArray else none
  | some (.array _ elem), some z =>
    match szOf P elem with
    | some size => (aFill (fun i => some (i * size, size)) z parts).map fun l => .agg l.toArray
    | none => none
  | _, _ => none
theorem aBuild_sound (hR : Rel W0 C nx H w) {t : TypeId} {parts : List (Nat × Value)} {parts' : Array (Nat × Value)} {v : Value} (h : aBuild P t parts = some v) (hp : PRs nx H C parts parts'.toList) :
    Snd W0 C nx H ((Instr.build t parts').run P w) v .none := by
  unfold aBuild at h
  split at h
  · rename_i fields z hu hz
    split at h
    · rename_i hall
      simp only [Option.map_eq_some_iff] at h
      obtain ⟨l, hl, rfl⟩ := h
      obtain ⟨zv, hzr, hzc, hzp⟩ := run_zeroOf hz
      obtain ⟨r', e1, e2⟩ := aFill_sound hl (plain_VRs hzp) hp
      refine Snd.same hR (v' := .agg r'.toArray) ?_ e2.agg
      have hm : (fields.mapM fun f => (do pure (f.offset, ← sizeOf f.type) : Sem (Nat × Nat))).run P w = .ok (fields.map fun f => (f.offset, (szOf P f.type).getD 0)) w := by
        refine run_mapM _ _ _ (fun f hf w => ?_)
        have := List.all_eq_true.1 hall f hf
        obtain ⟨n, hn⟩ := Option.isSome_iff_exists.1 this
        simp only [Sem.run_bind, run_sizeOf' hn, Result.andThen_ok, Sem.run_pure, hn, Option.getD_some]
      have hpl : ((fields.map fun f => (f.offset, (szOf P f.type).getD 0))[·]?) = fieldPlaces P fields := by
        funext i
        simp only [fieldPlaces, Array.getElem?_map]
        cases hf : fields[i]? with
        | none => simp
        | some f =>
          have := List.all_eq_true.1 hall f (by simpa using Array.mem_of_getElem? hf)
          obtain ⟨n, hn⟩ := Option.isSome_iff_exists.1 this
          simp [hn]
      simp only [Instr.build, Sem.run_bind, hzr, Result.andThen_ok, run_underlying hu, hm, hzc]
      rw [hpl, e1]
      simp only [Sem.run_pure]
    · cases h
  · rename_i n elem z hu hz
    split at h
    · rename_i size hs
      simp only [Option.map_eq_some_iff] at h
      obtain ⟨l, hl, rfl⟩ := h
      obtain ⟨zv, hzr, hzc, hzp⟩ := run_zeroOf hz
      obtain ⟨r', e1, e2⟩ := aFill_sound hl (plain_VRs hzp) hp
      refine Snd.same hR (v' := .agg r'.toArray) ?_ e2.agg
      simp only [Instr.build, Sem.run_bind, hzr, Result.andThen_ok, run_underlying hu, run_sizeOf' hs, hzc]
      rw [e1]
      simp only [Sem.run_pure]
    · cases h
  · cases h
def rep (n : Nat) (l : List Value) : List Value := (List.replicate n l).flatten
theorem getElem?_rep (l : List Value) : ∀ (n i : Nat), i < n * l.length → (rep n l)[i]? = l[i % l.length]? := by
  intro n
  induction n with
  | zero => intro i h; omega
  | succ n ih =>
    intro i h
    have e : rep (n + 1) l = l ++ rep n l := by simp [rep, List.replicate_succ]
    rw [e]
    by_cases c : i < l.length
    · rw [List.getElem?_append_left c, Nat.mod_eq_of_lt c]
    · rw [List.getElem?_append_right (by omega), ih _ (by rw [Nat.add_mul] at h; omega)]
      congr 1
      rw [Nat.mod_eq_sub_mod (by omega : i ≥ l.length)]
theorem length_rep (l : List Value) (n : Nat) : (rep n l).length = n * l.length := by simp [rep]
theorem zero_cells (z : Array Value) (n : Nat) : (Array.range (n * z.size)).map (fun i => z[i % z.size]!) = (rep n z.toList).toArray := by
  apply Array.ext'
  apply List.ext_getElem?
  intro i
  by_cases hz : z.size = 0
  · have : z.toList = [] := by simpa using hz
    simp [hz, rep, this]
  · by_cases h : i < n * z.size
    · rw [List.toList_toArray, getElem?_rep _ n i (by simpa using h)]
      have hlt : i % z.size < z.size := Nat.mod_lt _ (by omega)
      simp [h, hlt, getElem!_pos]
    · rw [List.toList_toArray, List.getElem?_eq_none (by simp; omega), List.getElem?_eq_none (by rw [length_rep]; simp; omega)]
def aBuildSlice (P : Program) (nx : Nat) (t : TypeId) (len : Nat) (parts : List (Nat × Value)) : Option (Value × Eff) :=
  match P.underlying t with
  | some (.slice elem) =>
    match szOf P elem, zeroOf P elem with
    | some size, some z =>
      if len * size ≤ 16777216 ∧ z.length = size then
        (aFill (fun i => some (i * size, size)) (rep len z) parts).map fun l => (.slice (some ⟨nx, 0, none⟩) len len, .new (.cells l size none false (some elem)))
      else none
    | _, _ => none
  | _ => none
theorem aBuildSlice_sound (hR : Rel W0 C nx H w) {t : TypeId} {len : Nat} {parts : List (Nat × Value)} {parts' : Array (Nat × Value)} {v : Value} {e : Eff} (h : aBuildSlice P nx t len parts = some (v, e)) (hp : PRs nx H C parts parts'.toList) :
    Snd W0 C nx H ((Instr.buildSlice t len parts').run P w) v e := by
  unfold aBuildSlice at h
  split at h
  · rename_i elem hu
    split at h
    · rename_i size z hs hz
      split at h
      · rename_i hc
        simp only [Option.map_eq_some_iff, Prod.mk.injEq] at h
        obtain ⟨l, hl, rfl, rfl⟩ := h
        obtain ⟨zv, hzr, hzc, hzp⟩ := run_zeroOf hz
        have hzs : zv.cells.size = size := by rw [hzc]; simpa using hc.2
        have hrep : VRs nx H C (rep len z) (rep len z) := plain_VRs (by simp only [rep, List.all_flatten, List.all_eq_true, List.mem_replicate]; rintro x ⟨_, rfl⟩; exact List.all_eq_true.1 hzp)
        obtain ⟨r', e1, e2⟩ := aFill_sound hl hrep hp
        obtain ⟨C', hC, h1, h2⟩ := new_sound hR e2 elem size [] none (by simp) (fun _ => rfl)
        refine ⟨.slice (some ⟨w.heap.size, 0, none⟩) len len, w.alloc (.cells (r' ++ []).toArray elem), C', ?_, ?_, h2, ?_⟩
        rotate_left
        · simpa [Eff.H, Eff.nx] using h1
        · rw [hC]
          exact .slc _ _ _ _ _ ⟨by simp [Eff.nx], by simp⟩ (fun o _ _ => ⟨by simp [Corr.at, Corr.put], by simp [capOk]⟩)
        · simp only [Instr.buildSlice, Sem.run_bind, run_underlying hu, Result.andThen_ok, run_sizeOf' hs]
          rw [if_neg (by simp; omega)]
          by_cases h0 : len * size = 0
          · have hr : rep len z = [] := by rw [← List.length_eq_zero_iff, length_rep, hc.2]; exact h0
            rw [hr] at e1
            have hr0 : ∀ zero : Array Value, (Array.range 0).map (fun i => zero[i % zero.size]!) = #[] := fun zero => by simp
            simp only [h0, if_true, Sem.run_bind, Sem.run_pure, Result.andThen_ok, hr0]
            rw [e1]
            simp [newRow]
          · have hzc2 := zero_cells z.toArray len
            simp only [List.size_toArray, hc.2] at hzc2
            simp only [h0, if_false, Sem.run_bind, hzr, Result.andThen_ok, Sem.run_pure, hzc, List.size_toArray, hc.2, hzc2, List.toList_toArray]
            rw [e1]
            simp [newRow]
      · cases h
    · cases h
  · cases h
end
end Go.Am
namespace Go.Am
open Go.RowKit
section
variable {P : Program} {W0 : World} {C : Corr} {nx : Nat} {H : Heap} {w : World}
def bound (v : Option Value) (dflt : Nat) : Option Nat :=
  match v with
  | none => some dflt
  | some (.int _ i) => if 0 ≤ i then some i.toNat else none
  | some _ => none
def OVR (nx : Nat) (H : Heap) (C : Corr) : Option Value → Option Value → Prop
  | none, none => True
  | some v, some v' => VR nx H C v v'
  | _, _ => False
theorem run_sliceBound {v v' : Value} {y n : Nat} (code : BoundsCode) (h : bound (some v) n = some n) (hd : ∃ k i, v = .int k i) (hv : VR nx H C v v') (hy : n ≤ y) : (Instr.sliceBound v' y code).run P w = .ok n w := by
  obtain ⟨k, i, rfl⟩ := hd
  cases hv
  simp only [bound] at h
  split at h
  · rename_i h0
    simp only [Option.some.injEq] at h
    simp only [Instr.sliceBound, asIntOf, Sem.run_bind, Sem.run_pure, Result.andThen_ok]
    rw [if_pos (by omega)]
    simp [h]
  · cases h
theorem bound_int {v : Value} {d n : Nat} (h : bound (some v) d = some n) : (∃ k i, v = .int k i) ∧ bound (some v) n = some n := by
  unfold bound at *
  split at h
  · rename_i h0; cases h0
  · rename_i k i h0
    simp only [Option.some.injEq] at h0
    subst h0
    exact ⟨⟨_, _, rfl⟩, by simpa using h⟩
  · cases h
def bounds (len cap : Nat) (lo hi mx : Option Value) : Option (Nat × Nat × Nat) :=
  match bound mx cap, bound hi len, bound lo 0 with
  | some m, some h, some l => if m ≤ cap ∧ h ≤ m ∧ l ≤ h ∧ (mx.isNone ∨ hi.isSome) then some (l, h, m) else none
  | _, _, _ => none
theorem run_bounds {isSlice : Bool} {len cap : Nat} {lo hi mx lo' hi' mx' : Option Value} {r : Nat × Nat × Nat} (h : bounds len cap lo hi mx = some r)
    (h1 : OVR nx H C lo lo') (h2 : OVR nx H C hi hi') (h3 : OVR nx H C mx mx') : (Instr.sliceBounds isSlice len cap lo' hi' mx').run P w = .ok r w := by
  unfold bounds at h
  split at h
  · rename_i m hh l hm hhh hl
    split at h
    · rename_i hc
      simp only [Option.some.injEq] at h
      subst h
      obtain ⟨c1, c2, c3, c4⟩ := hc
      have hlow : ∀ code, (match lo' with
          | some v => do
            let l ← Instr.sliceBound v hh code
            pure (l, hh, m)
          | none => do
            let l ← pure 0
            pure (l, hh, m) : Sem (Nat × Nat × Nat)).run P w = .ok (l, hh, m) w := by
        intro code
        cases lo with
        | none => cases lo' with
          | none => simp only [bound, Option.some.injEq] at hl; simp [hl]
          | some v => exact h1.elim
        | some v => cases lo' with
          | none => exact h1.elim
          | some v' =>
            simp only [Sem.run_bind]
            rw [run_sliceBound code (bound_int hl).2 (bound_int hl).1 h1 c3]
            rfl
      cases mx with
      | none =>
        cases mx' with
        | some v => exact h3.elim
        | none =>
          simp only [bound, Option.some.injEq] at hm
          subst hm
          cases hi with
          | none =>
            cases hi' with
            | some v => exact h2.elim
            | none =>
              simp only [bound, Option.some.injEq] at hhh
              subst hhh
              simp only [Instr.sliceBounds, Sem.run_bind, Sem.run_pure, Result.andThen_ok]
              exact hlow _
          | some v =>
            cases hi' with
            | none => exact h2.elim
            | some v' =>
              simp only [Instr.sliceBounds, Sem.run_bind, Sem.run_pure, Result.andThen_ok]
              rw [run_sliceBound _ (bound_int hhh).2 (bound_int hhh).1 h2 c2]
              simp only [Result.andThen_ok]
              exact hlow _
      | some u =>
        cases mx' with
        | none => exact h3.elim
        | some u' =>
          cases hi with
          | none => simp at c4
          | some v =>
            cases hi' with
            | none => exact h2.elim
            | some v' =>
              simp only [Instr.sliceBounds, Sem.run_bind]
              rw [run_sliceBound _ (bound_int hm).2 (bound_int hm).1 h3 c1]
              simp only [Result.andThen_ok]
              rw [run_sliceBound _ (bound_int hhh).2 (bound_int hhh).1 h2 c2]
              simp only [Result.andThen_ok]
              exact hlow _
    · cases h
  · cases h
def esubstr (s : ByteArray) (l h : Nat) : ByteArray := ⟨((s.data.toList.drop l).take (h - l)).toArray⟩
theorem extract_eq (s : ByteArray) (l h : Nat) : s.extract l h = esubstr s l h := by
  have := Lib.extract_data s l h
  unfold esubstr
  rw [← this]
def aSlice (P : Program) (H : Heap) (t : TypeId) (x : Value) (lo hi mx : Option Value) : Option Value :=
  match P.underlying t, x with
  | some .string, .string s =>
    if mx.isSome then none else (bounds s.size s.size lo hi none).map fun (l, h, _) => .string (esubstr s l h)
  | some (.slice elem), .slice none len cap => if (szOf P elem).isSome then (bounds len cap lo hi mx).map fun (l, h, m) => .slice none (h - l) (m - l) else none
  | some (.slice elem), .slice (some a) len cap =>
    match szOf P elem, H a.block with
    | some size, some o =>
      if o.tag = a.spot then
        match a.spot with
        | none => (bounds len cap lo hi mx).map fun (l, h, m) => .slice (some (if m = l then a else ⟨a.block, a.off + l * size, none⟩)) (h - l) (m - l)
        | some t =>
          if mx.isSome ∨ o.esz ≠ size then none else (bounds len len lo hi none).map fun (l, h, _) => .slice (some ⟨a.block, a.off + l * size, if l = len ∧ 0 < l then none else some t⟩) (h - l) (h - l)
      else none
    | _, _ => none
  | some (.array n elem), .pointer (some a) =>
    match szOf P elem with
    | some size =>
      if a.spot = none then (bounds n n lo hi mx).map fun (l, h, m) => .slice (some (if m = l then a else ⟨a.block, a.off + l * size, none⟩)) (h - l) (m - l) else none
    | none => none
  | _, _ => none
theorem aSlice_sound (hR : Rel W0 C nx H w) {t : TypeId} {x x' v : Value} {lo hi mx lo' hi' mx' : Option Value} (h : aSlice P H t x lo hi mx = some v) (hx : VR nx H C x x')
    (h1 : OVR nx H C lo lo') (h2 : OVR nx H C hi hi') (h3 : OVR nx H C mx mx') : Snd W0 C nx H ((Instr.sliceAt t x' lo' hi' mx').run P w) v .none := by
  unfold aSlice at h
  split at h
  · rename_i s hu
    split at h
    · cases h
    · rename_i hmx
      simp only [Option.map_eq_some_iff] at h
      obtain ⟨⟨l, hh, m⟩, hb, rfl⟩ := h
      cases hx
      have hb' := run_bounds (P := P) (w := w) (isSlice := false) (mx' := none) hb h1 h2 trivial
      refine Snd.same hR (v' := .string (esubstr s l hh)) ?_ (.string _)
      have hm' : mx' = none := by
        cases mx with
        | none => cases mx' with
          | none => rfl
          | some v => exact h3.elim
        | some v => simp at hmx
      subst hm'
      simp only [Instr.sliceAt, Sem.run_bind, run_underlying hu, Result.andThen_ok, Instr.slice, Option.isSome_none, Bool.false_eq_true, if_false, Sem.run_pure, hb', extract_eq]
  · rename_i elem len cap hu
    split at h
    case isFalse => cases h
    rename_i hsz
    obtain ⟨n, hn⟩ := Option.isSome_iff_exists.1 hsz
    simp only [Option.map_eq_some_iff] at h
    obtain ⟨⟨l, hh, m⟩, hb, rfl⟩ := h
    cases hx
    have hb' := run_bounds (P := P) (w := w) (isSlice := true) hb h1 h2 h3
    refine Snd.same hR (v' := .slice none (hh - l) (m - l)) ?_ (.nils _ _)
    simp only [Instr.sliceAt, Sem.run_bind, run_underlying hu, Result.andThen_ok, Instr.slice, hb', run_sizeOf' hn, Sem.run_pure]
    simp
  · rename_i elem a len cap hu
    split at h
    · rename_i size o hs ho
      split at h
      · rename_i htag
        split at h
        · rename_i hsp
          simp only [Option.map_eq_some_iff] at h
          obtain ⟨⟨l, hh, m⟩, hb, rfl⟩ := h
          cases hx with
          | slc _ _ _ b cap' k1 k2 =>
          obtain ⟨rfl, k4⟩ := k2 o ho htag
          simp only [capOk, hsp] at k4
          subst k4
          have hb' := run_bounds (P := P) (w := w) (isSlice := true) hb h1 h2 h3
          refine Snd.same hR (v' := .slice (some (if m = l then C.at a else (C.at a).add (l * size))) (hh - l) (m - l)) ?_ ?_
          · simp only [Instr.sliceAt, Sem.run_bind, run_underlying hu, Result.andThen_ok, Instr.slice, hb', run_sizeOf' hs, Sem.run_pure]
            split <;> simp
          · have hd : (if m = l then a else ⟨a.block, a.off + l * size, none⟩ : Addr).block = a.block := by split <;> rfl
            have hsp2 : (if m = l then a else ⟨a.block, a.off + l * size, none⟩ : Addr).spot = none := by split <;> first | exact hsp | rfl
            refine .slc _ _ _ _ _ ⟨by rw [hd]; exact k1.1, by rw [hsp2]; simp⟩ (fun o' ho' ht' => ⟨?_, by simp only [capOk, hsp2]⟩)
            split
            · rfl
            · simp [Corr.at, add_none, Nat.add_assoc]
        · rename_i tg hsp
          split at h
          · cases h
          · rename_i hcond
            simp only [Option.map_eq_some_iff] at h
            obtain ⟨⟨l, hh, m⟩, hb, rfl⟩ := h
            cases hx with
            | slc _ _ _ b cap' k1 k2 =>
            obtain ⟨rfl, k4⟩ := k2 o ho htag
            simp only [capOk, hsp] at k4
            obtain ⟨k5, k6⟩ := k4
            have hmx' : mx = none ∧ mx' = none := by
              cases mx with
              | none => cases mx' with
                | none => exact ⟨rfl, rfl⟩
                | some v => exact h3.elim
              | some v => simp at hcond
            obtain ⟨rfl, rfl⟩ := hmx'
            have hesz : o.esz = size := by simpa using hcond
            have hbb : bounds len cap' lo hi none = some (l, hh, cap') ∧ hh ≤ len ∧ l ≤ hh := by
              unfold bounds at hb ⊢
              simp only [bound] at hb ⊢
              split at hb
              · rename_i m0 h0 l0 e1 e2 e3
                simp only [Option.some.injEq] at e1
                subst e1
                split at hb
                · rename_i cc
                  simp only [Option.some.injEq, Prod.mk.injEq] at hb
                  obtain ⟨rfl, rfl, rfl⟩ := hb
                  simp only [e2, e3]
                  obtain ⟨c1, c2, c3, c4⟩ := cc
                  rw [if_pos ⟨Nat.le_refl _, by omega, c3, .inl rfl⟩]
                  exact ⟨rfl, c2, c3⟩
                · cases hb
              · cases hb
            obtain ⟨hbb, hle, hle2⟩ := hbb
            have hb' := run_bounds (P := P) (w := w) (isSlice := true) hbb h1 h2 h3
            refine Snd.same hR (v' := .slice (some (if cap' = l then C.at a else (C.at a).add (l * size))) (hh - l) (cap' - l)) ?_ ?_
            · simp only [Instr.sliceAt, Sem.run_bind, run_underlying hu, Result.andThen_ok, Instr.slice, hb', run_sizeOf' hs, Sem.run_pure]
              split <;> simp
            · refine .slc _ _ _ _ _ ⟨k1.1, fun t ht => ?_⟩ (fun o' ho' ht' => ?_)
              · split at ht
                · cases ht
                · cases ht; exact k1.2 _ hsp
              · simp only at ho' ht'
                rw [ho] at ho'
                cases ho'
                rw [htag, hsp] at ht'
                split at ht'
                · cases ht'
                · rename_i hne
                  refine ⟨?_, ?_⟩
                  · by_cases hl0 : l = 0
                    · subst hl0
                      simp only [Nat.zero_mul, Nat.add_zero]
                      have : (C.at a).add 0 = C.at a := by simp [Corr.at, add_none]
                      rw [this]
                      split <;> rfl
                    · rw [if_neg (by omega)]
                      simp [Corr.at, add_none, Nat.add_assoc]
                  · simp only [capOk]
                    rw [if_neg hne]
                    simp only [hesz] at k6 ⊢
                    refine ⟨by omega, ?_⟩
                    have : l * size + (cap' - l) * size = cap' * size := by rw [← Nat.add_mul]; congr 1; omega
                    omega
      · cases h
    · cases h
  · rename_i n elem a hu
    split at h
    · rename_i size hs
      split at h
      · rename_i hsp
        simp only [Option.map_eq_some_iff] at h
        obtain ⟨⟨l, hh, m⟩, hb, rfl⟩ := h
        cases hx with
        | ptr _ b k1 k2 =>
        have hb' := run_bounds (P := P) (w := w) (isSlice := false) hb h1 h2 h3
        refine Snd.same hR (v' := .slice (some (if m = l then b else b.add (l * size))) (hh - l) (m - l)) ?_ ?_
        · simp only [Instr.sliceAt, Instr.sureAddr, Sem.run_bind, run_underlying hu, Result.andThen_ok, hb', run_sizeOf' hs, Sem.run_pure]
        · have hd : (if m = l then a else ⟨a.block, a.off + l * size, none⟩ : Addr).block = a.block := by split <;> rfl
          have hsp2 : (if m = l then a else ⟨a.block, a.off + l * size, none⟩ : Addr).spot = none := by split <;> first | exact hsp | rfl
          refine .slc _ _ _ _ _ ⟨by rw [hd]; exact k1.1, by rw [hsp2]; simp⟩ (fun o' ho' ht' => ⟨?_, by simp only [capOk, hsp2]⟩)
          rw [hd] at ho'
          rw [k2 ⟨o', ho', by rw [ht', hsp2, hsp]⟩]
          split
          · rfl
          · simp [Corr.at, add_none, Nat.add_assoc]
      · cases h
    · cases h
  · cases h
end
end Go.Am
