import Derived.WalkKit
set_option linter.unusedVariables false
set_option linter.unusedSimpArgs false
namespace Go.Am
open Go.RowKit
noncomputable section
inductive OTree (α : Type) where
 | leaf
 | node (v : Option α) (l r : OTree α)
def OTree.get {α : Type} : OTree α → Nat → Option α
 | .leaf, _ => none
 | .node v l r, n => cond (Nat.beq n 0) v (cond (Nat.beq (Nat.mod n 2) 1) (l.get (Nat.div n 2)) (r.get (Nat.sub (Nat.div n 2) 1)))
def OTree.put {α : Type} (x : Option α) : Nat → OTree α → Nat → OTree α
 | 0, t, _ => t
 | f + 1, .leaf, n => cond (Nat.beq n 0) (.node x .leaf .leaf) (cond (Nat.beq (Nat.mod n 2) 1) (.node none (OTree.put x f .leaf (Nat.div n 2)) .leaf) (.node none .leaf (OTree.put x f .leaf (Nat.sub (Nat.div n 2) 1))))
 | f + 1, .node v l r, n => cond (Nat.beq n 0) (.node x l r) (cond (Nat.beq (Nat.mod n 2) 1) (.node v (OTree.put x f l (Nat.div n 2)) r) (.node v l (OTree.put x f r (Nat.sub (Nat.div n 2) 1))))
theorem OTree.get_leaf {α : Type} (n : Nat) : (OTree.leaf : OTree α).get n = none := by simp [OTree.get]
theorem cond_beq {α : Type} (a b : Nat) (x y : α) : cond (Nat.beq a b) x y = if a = b then x else y := by
 rw [Bool.cond_eq_ite]
 by_cases h : a = b
 ·subst h; simp
 ·have : Nat.beq a b = false := by cases hb : Nat.beq a b with
   | false => rfl
   | true => exact absurd (Nat.eq_of_beq_eq_true hb) h
  simp [this, h]
theorem OTree.get_node {α : Type} (v : Option α) (l r : OTree α) (n : Nat) : (OTree.node v l r).get n = if n = 0 then v else if n % 2 = 1 then l.get (n / 2) else r.get (n / 2 - 1) := by
 simp only [OTree.get, cond_beq]
 rfl
theorem OTree.put_leaf {α : Type} (x : Option α) (f n : Nat) : OTree.put x (f + 1) .leaf n = if n = 0 then .node x .leaf .leaf else if n % 2 = 1 then .node none (OTree.put x f .leaf (n / 2)) .leaf else .node none .leaf (OTree.put x f .leaf (n / 2 - 1)) := by
 simp only [OTree.put, cond_beq]
 rfl
theorem OTree.put_node {α : Type} (x : Option α) (f : Nat) (v : Option α) (l r : OTree α) (n : Nat) : OTree.put x (f + 1) (.node v l r) n = if n = 0 then .node x l r else if n % 2 = 1 then .node v (OTree.put x f l (n / 2)) r else .node v l (OTree.put x f r (n / 2 - 1)) := by
 simp only [OTree.put, cond_beq]
 rfl
theorem OTree.get_put {α : Type} (x : Option α) : ∀ (f : Nat) (t : OTree α) (n m : Nat), n < f → (OTree.put x f t n).get m = if m = n then x else t.get m := by
 intro f
 induction f with
 | zero => intro t n m h; omega
 | succ f ih =>
  intro t n m h
  have hn : n = 0 ∨ n / 2 < f ∧ n / 2 - 1 < f := by omega
  cases t with
  | leaf =>
   rw [OTree.put_leaf, OTree.get_leaf]
   by_cases c0 : n = 0
   ·subst c0
    rw [if_pos rfl, OTree.get_node, OTree.get_leaf, OTree.get_leaf]
    by_cases m0 : m = 0
    ·rw [if_pos m0, if_pos m0]
    ·rw [if_neg m0, if_neg m0]; split <;> rfl
   ·rw [if_neg c0]
    by_cases c1 : n % 2 = 1
    ·rw [if_pos c1, OTree.get_node, ih _ _ _ (by omega), OTree.get_leaf, OTree.get_leaf]
     by_cases e : m = n
     ·subst e; rw [if_neg c0, if_pos c1, if_pos rfl, if_pos rfl]
     ·rw [if_neg e]
      split
      ·rfl
      ·split
       ·rw [if_neg (by omega)]
       ·rfl
    ·rw [if_neg c1, OTree.get_node, ih _ _ _ (by omega), OTree.get_leaf, OTree.get_leaf]
     by_cases e : m = n
     ·subst e; rw [if_neg c0, if_neg c1, if_pos rfl, if_pos rfl]
     ·rw [if_neg e]
      split
      ·rfl
      ·split
       ·rfl
       ·rw [if_neg (by omega)]
  | node v l r =>
   rw [OTree.put_node, OTree.get_node]
   by_cases c0 : n = 0
   ·subst c0
    rw [if_pos rfl, OTree.get_node]
    by_cases m0 : m = 0
    ·rw [if_pos m0, if_pos m0]
    ·rw [if_neg m0, if_neg m0, if_neg m0]
   ·rw [if_neg c0]
    by_cases c1 : n % 2 = 1
    ·rw [if_pos c1, OTree.get_node, ih _ _ _ (by omega)]
     by_cases e : m = n
     ·subst e; rw [if_neg c0, if_pos c1, if_pos rfl, if_pos rfl]
     ·rw [if_neg e]
      split
      ·rfl
      ·split
       ·rw [if_neg (by omega)]
       ·rfl
    ·rw [if_neg c1, OTree.get_node, ih _ _ _ (by omega)]
     by_cases e : m = n
     ·subst e; rw [if_neg c0, if_neg c1, if_pos rfl, if_pos rfl]
     ·rw [if_neg e]
      split
      ·rfl
      ·split
       ·rfl
       ·rw [if_neg (by omega)]
def OTree.set {α : Type} (t : OTree α) (n : Nat) (x : α) : OTree α := OTree.put (some x) (n + 1) t n
theorem OTree.get_set {α : Type} (t : OTree α) (n m : Nat) (x : α) : (t.set n x).get m = if m = n then some x else t.get m := OTree.get_put (some x) (n + 1) t n m (by omega)
def OTree.del {α : Type} (t : OTree α) (n : Nat) : OTree α := OTree.put none (n + 1) t n
structure B16 (α : Type) where
 (a0 a1 a2 a3 a4 a5 a6 a7 a8 a9 a10 a11 a12 a13 a14 a15 : α)
inductive Dig where
 | d0
 | d1
 | d2
 | d3
 | d4
 | d5
 | d6
 | d7
 | d8
 | d9
 | d10
 | d11
 | d12
 | d13
 | d14
 | d15
def digN : Nat → Dig
 | 0 => .d0
 | 1 => .d1
 | 2 => .d2
 | 3 => .d3
 | 4 => .d4
 | 5 => .d5
 | 6 => .d6
 | 7 => .d7
 | 8 => .d8
 | 9 => .d9
 | 10 => .d10
 | 11 => .d11
 | 12 => .d12
 | 13 => .d13
 | 14 => .d14
 | _ => .d15
def Dig.no : Dig → Nat
 | .d0 => 0
 | .d1 => 1
 | .d2 => 2
 | .d3 => 3
 | .d4 => 4
 | .d5 => 5
 | .d6 => 6
 | .d7 => 7
 | .d8 => 8
 | .d9 => 9
 | .d10 => 10
 | .d11 => 11
 | .d12 => 12
 | .d13 => 13
 | .d14 => 14
 | .d15 => 15
theorem digN_no (n : Nat) (h : n < 16) : (digN n).no = n := by
 have : ∀ i : Fin 16, (digN i.val).no = i.val := by decide
 exact this ⟨n, h⟩
structure Lens (β α : Type) where
 get : β → α
 upd : (α → α) → β → β
def lensD {α : Type} : Dig → Lens (B16 α) α
 | .d0 => ⟨fun b => B16.rec (motive := fun _ => α) (fun a0 a1 a2 a3 a4 a5 a6 a7 a8 a9 a10 a11 a12 a13 a14 a15 => a0) b, fun f b => B16.rec (motive := fun _ => B16 α) (fun a0 a1 a2 a3 a4 a5 a6 a7 a8 a9 a10 a11 a12 a13 a14 a15 => ⟨f a0, a1, a2, a3, a4, a5, a6, a7, a8, a9, a10, a11, a12, a13, a14, a15⟩) b⟩
 | .d1 => ⟨fun b => B16.rec (motive := fun _ => α) (fun a0 a1 a2 a3 a4 a5 a6 a7 a8 a9 a10 a11 a12 a13 a14 a15 => a1) b, fun f b => B16.rec (motive := fun _ => B16 α) (fun a0 a1 a2 a3 a4 a5 a6 a7 a8 a9 a10 a11 a12 a13 a14 a15 => ⟨a0, f a1, a2, a3, a4, a5, a6, a7, a8, a9, a10, a11, a12, a13, a14, a15⟩) b⟩
 | .d2 => ⟨fun b => B16.rec (motive := fun _ => α) (fun a0 a1 a2 a3 a4 a5 a6 a7 a8 a9 a10 a11 a12 a13 a14 a15 => a2) b, fun f b => B16.rec (motive := fun _ => B16 α) (fun a0 a1 a2 a3 a4 a5 a6 a7 a8 a9 a10 a11 a12 a13 a14 a15 => ⟨a0, a1, f a2, a3, a4, a5, a6, a7, a8, a9, a10, a11, a12, a13, a14, a15⟩) b⟩
 | .d3 => ⟨fun b => B16.rec (motive := fun _ => α) (fun a0 a1 a2 a3 a4 a5 a6 a7 a8 a9 a10 a11 a12 a13 a14 a15 => a3) b, fun f b => B16.rec (motive := fun _ => B16 α) (fun a0 a1 a2 a3 a4 a5 a6 a7 a8 a9 a10 a11 a12 a13 a14 a15 => ⟨a0, a1, a2, f a3, a4, a5, a6, a7, a8, a9, a10, a11, a12, a13, a14, a15⟩) b⟩
 | .d4 => ⟨fun b => B16.rec (motive := fun _ => α) (fun a0 a1 a2 a3 a4 a5 a6 a7 a8 a9 a10 a11 a12 a13 a14 a15 => a4) b, fun f b => B16.rec (motive := fun _ => B16 α) (fun a0 a1 a2 a3 a4 a5 a6 a7 a8 a9 a10 a11 a12 a13 a14 a15 => ⟨a0, a1, a2, a3, f a4, a5, a6, a7, a8, a9, a10, a11, a12, a13, a14, a15⟩) b⟩
 | .d5 => ⟨fun b => B16.rec (motive := fun _ => α) (fun a0 a1 a2 a3 a4 a5 a6 a7 a8 a9 a10 a11 a12 a13 a14 a15 => a5) b, fun f b => B16.rec (motive := fun _ => B16 α) (fun a0 a1 a2 a3 a4 a5 a6 a7 a8 a9 a10 a11 a12 a13 a14 a15 => ⟨a0, a1, a2, a3, a4, f a5, a6, a7, a8, a9, a10, a11, a12, a13, a14, a15⟩) b⟩
 | .d6 => ⟨fun b => B16.rec (motive := fun _ => α) (fun a0 a1 a2 a3 a4 a5 a6 a7 a8 a9 a10 a11 a12 a13 a14 a15 => a6) b, fun f b => B16.rec (motive := fun _ => B16 α) (fun a0 a1 a2 a3 a4 a5 a6 a7 a8 a9 a10 a11 a12 a13 a14 a15 => ⟨a0, a1, a2, a3, a4, a5, f a6, a7, a8, a9, a10, a11, a12, a13, a14, a15⟩) b⟩
 | .d7 => ⟨fun b => B16.rec (motive := fun _ => α) (fun a0 a1 a2 a3 a4 a5 a6 a7 a8 a9 a10 a11 a12 a13 a14 a15 => a7) b, fun f b => B16.rec (motive := fun _ => B16 α) (fun a0 a1 a2 a3 a4 a5 a6 a7 a8 a9 a10 a11 a12 a13 a14 a15 => ⟨a0, a1, a2, a3, a4, a5, a6, f a7, a8, a9, a10, a11, a12, a13, a14, a15⟩) b⟩
 | .d8 => ⟨fun b => B16.rec (motive := fun _ => α) (fun a0 a1 a2 a3 a4 a5 a6 a7 a8 a9 a10 a11 a12 a13 a14 a15 => a8) b, fun f b => B16.rec (motive := fun _ => B16 α) (fun a0 a1 a2 a3 a4 a5 a6 a7 a8 a9 a10 a11 a12 a13 a14 a15 => ⟨a0, a1, a2, a3, a4, a5, a6, a7, f a8, a9, a10, a11, a12, a13, a14, a15⟩) b⟩
 | .d9 => ⟨fun b => B16.rec (motive := fun _ => α) (fun a0 a1 a2 a3 a4 a5 a6 a7 a8 a9 a10 a11 a12 a13 a14 a15 => a9) b, fun f b => B16.rec (motive := fun _ => B16 α) (fun a0 a1 a2 a3 a4 a5 a6 a7 a8 a9 a10 a11 a12 a13 a14 a15 => ⟨a0, a1, a2, a3, a4, a5, a6, a7, a8, f a9, a10, a11, a12, a13, a14, a15⟩) b⟩
 | .d10 => ⟨fun b => B16.rec (motive := fun _ => α) (fun a0 a1 a2 a3 a4 a5 a6 a7 a8 a9 a10 a11 a12 a13 a14 a15 => a10) b, fun f b => B16.rec (motive := fun _ => B16 α) (fun a0 a1 a2 a3 a4 a5 a6 a7 a8 a9 a10 a11 a12 a13 a14 a15 => ⟨a0, a1, a2, a3, a4, a5, a6, a7, a8, a9, f a10, a11, a12, a13, a14, a15⟩) b⟩
 | .d11 => ⟨fun b => B16.rec (motive := fun _ => α) (fun a0 a1 a2 a3 a4 a5 a6 a7 a8 a9 a10 a11 a12 a13 a14 a15 => a11) b, fun f b => B16.rec (motive := fun _ => B16 α) (fun a0 a1 a2 a3 a4 a5 a6 a7 a8 a9 a10 a11 a12 a13 a14 a15 => ⟨a0, a1, a2, a3, a4, a5, a6, a7, a8, a9, a10, f a11, a12, a13, a14, a15⟩) b⟩
 | .d12 => ⟨fun b => B16.rec (motive := fun _ => α) (fun a0 a1 a2 a3 a4 a5 a6 a7 a8 a9 a10 a11 a12 a13 a14 a15 => a12) b, fun f b => B16.rec (motive := fun _ => B16 α) (fun a0 a1 a2 a3 a4 a5 a6 a7 a8 a9 a10 a11 a12 a13 a14 a15 => ⟨a0, a1, a2, a3, a4, a5, a6, a7, a8, a9, a10, a11, f a12, a13, a14, a15⟩) b⟩
 | .d13 => ⟨fun b => B16.rec (motive := fun _ => α) (fun a0 a1 a2 a3 a4 a5 a6 a7 a8 a9 a10 a11 a12 a13 a14 a15 => a13) b, fun f b => B16.rec (motive := fun _ => B16 α) (fun a0 a1 a2 a3 a4 a5 a6 a7 a8 a9 a10 a11 a12 a13 a14 a15 => ⟨a0, a1, a2, a3, a4, a5, a6, a7, a8, a9, a10, a11, a12, f a13, a14, a15⟩) b⟩
 | .d14 => ⟨fun b => B16.rec (motive := fun _ => α) (fun a0 a1 a2 a3 a4 a5 a6 a7 a8 a9 a10 a11 a12 a13 a14 a15 => a14) b, fun f b => B16.rec (motive := fun _ => B16 α) (fun a0 a1 a2 a3 a4 a5 a6 a7 a8 a9 a10 a11 a12 a13 a14 a15 => ⟨a0, a1, a2, a3, a4, a5, a6, a7, a8, a9, a10, a11, a12, a13, f a14, a15⟩) b⟩
 | .d15 => ⟨fun b => B16.rec (motive := fun _ => α) (fun a0 a1 a2 a3 a4 a5 a6 a7 a8 a9 a10 a11 a12 a13 a14 a15 => a15) b, fun f b => B16.rec (motive := fun _ => B16 α) (fun a0 a1 a2 a3 a4 a5 a6 a7 a8 a9 a10 a11 a12 a13 a14 a15 => ⟨a0, a1, a2, a3, a4, a5, a6, a7, a8, a9, a10, a11, a12, a13, a14, f a15⟩) b⟩
theorem lensD_eq {α : Type} (d : Dig) (f : α → α) (b : B16 α) : (lensD d).get ((lensD d).upd f b) = f ((lensD d).get b) := by cases d <;> cases b <;> rfl
theorem lensD_ne {α : Type} (d e : Dig) (h : d ≠ e) (f : α → α) (b : B16 α) : (lensD e).get ((lensD d).upd f b) = (lensD e).get b := by
 cases b
 cases d <;> cases e <;> first | rfl | exact absurd rfl h
def lensN {α : Type} (n : Nat) : Lens (B16 α) α := lensD (digN n)
theorem lensN_get {α : Type} (n m : Nat) (hn : n < 16) (hm : m < 16) (f : α → α) (b : B16 α) : (lensN m).get ((lensN n).upd f b) = if m = n then f ((lensN n).get b) else (lensN m).get b := by
 by_cases e : m = n
 ·subst e; rw [if_pos rfl]; exact lensD_eq _ _ _
 ·rw [if_neg e]
  refine lensD_ne _ _ (fun q => e ?_) _ _
  have := congrArg Dig.no q
  rw [digN_no n hn, digN_no m hm] at this
  exact this.symm
def B16.all {α : Type} (x : α) : B16 α := ⟨x, x, x, x, x, x, x, x, x, x, x, x, x, x, x, x⟩
theorem lensN_all {α : Type} (n : Nat) (x : α) : (lensN n).get (B16.all x) = x := by
 unfold lensN
 cases digN n <;> rfl
structure Tree (α : Type) where
 lo : B16 (B16 (Option α))
 hi : B16 (B16 (B16 (Option α)))
 rest : OTree α
def Tree.leaf {α : Type} : Tree α := ⟨.all (.all none), .all (.all (.all none)), .leaf⟩
structure Slot (α : Type) where
 get : Tree α → Option α
 set : α → Tree α → Tree α
 del : Tree α → Tree α
def slotLo {α : Type} (i j : Nat) : Slot α :=
 ⟨fun t => (lensN j).get ((lensN i).get t.lo), fun x t => Tree.rec (motive := fun _ => Tree α) (fun lo hi rest => ⟨(lensN i).upd ((lensN j).upd fun _ => some x) lo, hi, rest⟩) t,
  fun t => Tree.rec (motive := fun _ => Tree α) (fun lo hi rest => ⟨(lensN i).upd ((lensN j).upd fun _ => none) lo, hi, rest⟩) t⟩
def slotHi {α : Type} (i j k : Nat) : Slot α :=
 ⟨fun t => (lensN k).get ((lensN j).get ((lensN i).get t.hi)), fun x t => Tree.rec (motive := fun _ => Tree α) (fun lo hi rest => ⟨lo, (lensN i).upd ((lensN j).upd ((lensN k).upd fun _ => some x)) hi, rest⟩) t,
  fun t => Tree.rec (motive := fun _ => Tree α) (fun lo hi rest => ⟨lo, (lensN i).upd ((lensN j).upd ((lensN k).upd fun _ => none)) hi, rest⟩) t⟩
def slotRest {α : Type} (n : Nat) : Slot α := ⟨fun t => t.rest.get n, fun x t => ⟨t.lo, t.hi, t.rest.set n x⟩, fun t => ⟨t.lo, t.hi, t.rest.del n⟩⟩
def slotOf {α : Type} (n : Nat) : Slot α :=
 cond (Nat.blt n 256) (slotLo (n / 16) (n % 16))
  (cond (Nat.blt n 4352) (slotHi ((n - 256) / 256) ((n - 256) / 16 % 16) ((n - 256) % 16)) (slotRest n))
def Tree.get {α : Type} (t : Tree α) (n : Nat) : Option α := (slotOf n).get t
def Tree.set {α : Type} (t : Tree α) (n : Nat) (x : α) : Tree α := (slotOf n).set x t
theorem blt_lt (a b : Nat) : Nat.blt a b = decide (a < b) := by
 rw [Bool.eq_iff_iff, decide_eq_true_eq]
 exact iff_of_eq Nat.blt_eq
theorem slotOf_lo {α : Type} (n : Nat) (h : n < 256) : (slotOf n : Slot α) = slotLo (n / 16) (n % 16) := by
 unfold slotOf; rw [blt_lt, decide_eq_true h, cond_true]
theorem slotOf_hi {α : Type} (n : Nat) (h : ¬ n < 256) (h2 : n < 4352) : (slotOf n : Slot α) = slotHi ((n - 256) / 256) ((n - 256) / 16 % 16) ((n - 256) % 16) := by
 unfold slotOf; rw [blt_lt, blt_lt, decide_eq_false h, decide_eq_true h2, cond_false, cond_true]
theorem slotOf_rest {α : Type} (n : Nat) (h : ¬ n < 256) (h2 : ¬ n < 4352) : (slotOf n : Slot α) = slotRest n := by
 unfold slotOf; rw [blt_lt, blt_lt, decide_eq_false h, decide_eq_false h2, cond_false, cond_false]
theorem Tree.get_leaf {α : Type} (n : Nat) : (Tree.leaf : Tree α).get n = none := by
 unfold Tree.get
 by_cases h : n < 256
 ·rw [slotOf_lo n h]; simp only [slotLo, Tree.leaf, lensN_all]
 ·by_cases h2 : n < 4352
  ·rw [slotOf_hi n h h2]; simp only [slotHi, Tree.leaf, lensN_all]
  ·rw [slotOf_rest n h h2]; exact OTree.get_leaf n
theorem Tree.get_set {α : Type} (t : Tree α) (n m : Nat) (x : α) : (t.set n x).get m = if m = n then some x else t.get m := by
 unfold Tree.get Tree.set
 cases t with
 | mk lo hi rest =>
 by_cases hn : n < 256
 ·rw [slotOf_lo n hn]
  by_cases hm : m < 256
  ·rw [slotOf_lo m hm]
   simp only [slotLo]
   rw [lensN_get _ _ (by omega) (by omega)]
   by_cases e : m / 16 = n / 16
   ·rw [if_pos e, lensN_get _ _ (by omega) (by omega)]
    by_cases e2 : m % 16 = n % 16
    ·rw [if_pos e2, if_pos (by omega)]
    ·rw [if_neg e2, if_neg (by intro q; subst q; exact e2 rfl), e]
   ·rw [if_neg e, if_neg (by intro q; subst q; exact e rfl)]
  ·rw [if_neg (by omega)]
   by_cases hm2 : m < 4352
   ·rw [slotOf_hi m hm hm2]; simp only [slotLo, slotHi]
   ·rw [slotOf_rest m hm hm2]; rfl
 ·by_cases hn2 : n < 4352
  ·rw [slotOf_hi n hn hn2]
   by_cases hm : m < 256
   ·rw [slotOf_lo m hm, if_neg (by omega)]; rfl
   ·by_cases hm2 : m < 4352
    ·rw [slotOf_hi m hm hm2]
     simp only [slotHi]
     rw [lensN_get _ _ (by omega) (by omega)]
     by_cases e : (m - 256) / 256 = (n - 256) / 256
     ·rw [if_pos e, lensN_get _ _ (by omega) (by omega)]
      by_cases e1 : (m - 256) / 16 % 16 = (n - 256) / 16 % 16
      ·rw [if_pos e1, lensN_get _ _ (by omega) (by omega)]
       by_cases e2 : (m - 256) % 16 = (n - 256) % 16
       ·rw [if_pos e2, if_pos (by omega)]
       ·rw [if_neg e2, if_neg (by intro q; subst q; exact e2 rfl), e1, e]
      ·rw [if_neg e1, if_neg (by intro q; subst q; exact e1 rfl), e]
     ·rw [if_neg e, if_neg (by intro q; subst q; exact e rfl)]
    ·rw [slotOf_rest m hm hm2, if_neg (by omega)]; rfl
  ·rw [slotOf_rest n hn hn2]
   by_cases hm : m < 256
   ·rw [slotOf_lo m hm, if_neg (by omega)]; rfl
   ·by_cases hm2 : m < 4352
    ·rw [slotOf_hi m hm hm2, if_neg (by omega)]; simp only [slotRest, slotHi]
    ·rw [slotOf_rest m hm hm2]; exact OTree.get_set _ _ _ _
end
end Go.Am
