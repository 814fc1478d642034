/-
  The abstract machine runs: code on trees; what it ends in, the model's run ends in.
-/
import Derived.Test.YtnoakjddgllbfaaGreatAmL
namespace Go.Am
set_option linter.unusedSimpArgs false
set_option linter.unusedVariables false
open Go.RowKit
noncomputable section

inductive OTree (α : Type) where
  | leaf
  | node (v : Option α) (l r : OTree α)

def OTree.get {α : Type} : OTree α → Nat → Option α
  | .leaf, _ => none
  | .node v l r, n => cond (Nat.beq n 0) v (cond (Nat.beq (Nat.mod n 2) 1) (l.get (Nat.div n 2)) (r.get (Nat.sub (Nat.div n 2) 1)))

def OTree.put {α : Type} (x : α) : Nat → OTree α → Nat → OTree α
  | 0, t, _ => t
  | f + 1, .leaf, n => cond (Nat.beq n 0) (.node (some x) .leaf .leaf) (cond (Nat.beq (Nat.mod n 2) 1) (.node none (OTree.put x f .leaf (Nat.div n 2)) .leaf) (.node none .leaf (OTree.put x f .leaf (Nat.sub (Nat.div n 2) 1))))
  | f + 1, .node v l r, n => cond (Nat.beq n 0) (.node (some x) l r) (cond (Nat.beq (Nat.mod n 2) 1) (.node v (OTree.put x f l (Nat.div n 2)) r) (.node v l (OTree.put x f r (Nat.sub (Nat.div n 2) 1))))

theorem OTree.get_leaf {α : Type} (n : Nat) : (OTree.leaf : OTree α).get n = none := by simp [OTree.get]

theorem cond_beq {α : Type} (a b : Nat) (x y : α) : cond (Nat.beq a b) x y = if a = b then x else y := by
  rw [Bool.cond_eq_ite]
  by_cases h : a = b
  · subst h; simp
  · have : Nat.beq a b = false := by cases hb : Nat.beq a b with
      | false => rfl
      | true => exact absurd (Nat.eq_of_beq_eq_true hb) h
    simp [this, h]

theorem OTree.get_node {α : Type} (v : Option α) (l r : OTree α) (n : Nat) : (OTree.node v l r).get n = if n = 0 then v else if n % 2 = 1 then l.get (n / 2) else r.get (n / 2 - 1) := by
  simp only [OTree.get, cond_beq]
  rfl

theorem OTree.put_leaf {α : Type} (x : α) (f n : Nat) : OTree.put x (f + 1) .leaf n = if n = 0 then .node (some x) .leaf .leaf else if n % 2 = 1 then .node none (OTree.put x f .leaf (n / 2)) .leaf else .node none .leaf (OTree.put x f .leaf (n / 2 - 1)) := by
  simp only [OTree.put, cond_beq]
  rfl

theorem OTree.put_node {α : Type} (x : α) (f : Nat) (v : Option α) (l r : OTree α) (n : Nat) : OTree.put x (f + 1) (.node v l r) n = if n = 0 then .node (some x) l r else if n % 2 = 1 then .node v (OTree.put x f l (n / 2)) r else .node v l (OTree.put x f r (n / 2 - 1)) := by
  simp only [OTree.put, cond_beq]
  rfl

theorem OTree.get_put {α : Type} (x : α) : ∀ (f : Nat) (t : OTree α) (n m : Nat), n < f → (OTree.put x f t n).get m = if m = n then some x else t.get m := by
  intro f
  induction f with
  | zero => intro t n m h; omega
  | succ f ih =>
    intro t n m h
    have hn : n = 0 ∨ n / 2 < f ∧ n / 2 - 1 < f := by omega
    cases t with
    | leaf =>
      rw [OTree.put_leaf, OTree.get_leaf]
      by_cases c0 : n = 0
      · subst c0
        rw [if_pos rfl, OTree.get_node, OTree.get_leaf, OTree.get_leaf]
        by_cases m0 : m = 0
        · rw [if_pos m0, if_pos m0]
        · rw [if_neg m0, if_neg m0]; split <;> rfl
      · rw [if_neg c0]
        by_cases c1 : n % 2 = 1
        · rw [if_pos c1, OTree.get_node, ih _ _ _ (by omega), OTree.get_leaf, OTree.get_leaf]
          by_cases e : m = n
          · subst e; rw [if_neg c0, if_pos c1, if_pos rfl, if_pos rfl]
          · rw [if_neg e]
            split
            · rfl
            · split
              · rw [if_neg (by omega)]
              · rfl
        · rw [if_neg c1, OTree.get_node, ih _ _ _ (by omega), OTree.get_leaf, OTree.get_leaf]
          by_cases e : m = n
          · subst e; rw [if_neg c0, if_neg c1, if_pos rfl, if_pos rfl]
          · rw [if_neg e]
            split
            · rfl
            · split
              · rfl
              · rw [if_neg (by omega)]
    | node v l r =>
      rw [OTree.put_node, OTree.get_node]
      by_cases c0 : n = 0
      · subst c0
        rw [if_pos rfl, OTree.get_node]
        by_cases m0 : m = 0
        · rw [if_pos m0, if_pos m0]
        · rw [if_neg m0, if_neg m0, if_neg m0]
      · rw [if_neg c0]
        by_cases c1 : n % 2 = 1
        · rw [if_pos c1, OTree.get_node, ih _ _ _ (by omega)]
          by_cases e : m = n
          · subst e; rw [if_neg c0, if_pos c1, if_pos rfl, if_pos rfl]
          · rw [if_neg e]
            split
            · rfl
            · split
              · rw [if_neg (by omega)]
              · rfl
        · rw [if_neg c1, OTree.get_node, ih _ _ _ (by omega)]
          by_cases e : m = n
          · subst e; rw [if_neg c0, if_neg c1, if_pos rfl, if_pos rfl]
          · rw [if_neg e]
            split
            · rfl
            · split
              · rfl
              · rw [if_neg (by omega)]

def OTree.set {α : Type} (t : OTree α) (n : Nat) (x : α) : OTree α := OTree.put x (n + 1) t n
theorem OTree.get_set {α : Type} (t : OTree α) (n m : Nat) (x : α) : (t.set n x).get m = if m = n then some x else t.get m := OTree.get_put x (n + 1) t n m (by omega)


/-! A row of objects under numbers, so that the kernel takes few steps: sixteen times sixteen of them, then sixteen times as many, the rest in a tree. -/

structure B16 (α : Type) where
  (a0 a1 a2 a3 a4 a5 a6 a7 a8 a9 a10 a11 a12 a13 a14 a15 : α)

inductive Dig where
  | d0
  | d1
  | d2
  | d3
  | d4
  | d5
  | d6
  | d7
  | d8
  | d9
  | d10
  | d11
  | d12
  | d13
  | d14
  | d15

def digN : Nat → Dig
  | 0 => .d0
  | 1 => .d1
  | 2 => .d2
  | 3 => .d3
  | 4 => .d4
  | 5 => .d5
  | 6 => .d6
  | 7 => .d7
  | 8 => .d8
  | 9 => .d9
  | 10 => .d10
  | 11 => .d11
  | 12 => .d12
  | 13 => .d13
  | 14 => .d14
  | _ => .d15

def Dig.no : Dig → Nat
  | .d0 => 0
  | .d1 => 1
  | .d2 => 2
  | .d3 => 3
  | .d4 => 4
  | .d5 => 5
  | .d6 => 6
  | .d7 => 7
  | .d8 => 8
  | .d9 => 9
  | .d10 => 10
  | .d11 => 11
  | .d12 => 12
  | .d13 => 13
  | .d14 => 14
  | .d15 => 15

theorem digN_no (n : Nat) (h : n < 16) : (digN n).no = n := by
  have : ∀ i : Fin 16, (digN i.val).no = i.val := by decide
  exact this ⟨n, h⟩

structure Lens (β α : Type) where
  get : β → α
  upd : (α → α) → β → β

def lensD {α : Type} : Dig → Lens (B16 α) α
  | .d0 => ⟨fun b => B16.rec (motive := fun _ => α) (fun a0 a1 a2 a3 a4 a5 a6 a7 a8 a9 a10 a11 a12 a13 a14 a15 => a0) b, fun f b => B16.rec (motive := fun _ => B16 α) (fun a0 a1 a2 a3 a4 a5 a6 a7 a8 a9 a10 a11 a12 a13 a14 a15 => ⟨f a0, a1, a2, a3, a4, a5, a6, a7, a8, a9, a10, a11, a12, a13, a14, a15⟩) b⟩
  | .d1 => ⟨fun b => B16.rec (motive := fun _ => α) (fun a0 a1 a2 a3 a4 a5 a6 a7 a8 a9 a10 a11 a12 a13 a14 a15 => a1) b, fun f b => B16.rec (motive := fun _ => B16 α) (fun a0 a1 a2 a3 a4 a5 a6 a7 a8 a9 a10 a11 a12 a13 a14 a15 => ⟨a0, f a1, a2, a3, a4, a5, a6, a7, a8, a9, a10, a11, a12, a13, a14, a15⟩) b⟩
  | .d2 => ⟨fun b => B16.rec (motive := fun _ => α) (fun a0 a1 a2 a3 a4 a5 a6 a7 a8 a9 a10 a11 a12 a13 a14 a15 => a2) b, fun f b => B16.rec (motive := fun _ => B16 α) (fun a0 a1 a2 a3 a4 a5 a6 a7 a8 a9 a10 a11 a12 a13 a14 a15 => ⟨a0, a1, f a2, a3, a4, a5, a6, a7, a8, a9, a10, a11, a12, a13, a14, a15⟩) b⟩
  | .d3 => ⟨fun b => B16.rec (motive := fun _ => α) (fun a0 a1 a2 a3 a4 a5 a6 a7 a8 a9 a10 a11 a12 a13 a14 a15 => a3) b, fun f b => B16.rec (motive := fun _ => B16 α) (fun a0 a1 a2 a3 a4 a5 a6 a7 a8 a9 a10 a11 a12 a13 a14 a15 => ⟨a0, a1, a2, f a3, a4, a5, a6, a7, a8, a9, a10, a11, a12, a13, a14, a15⟩) b⟩
  | .d4 => ⟨fun b => B16.rec (motive := fun _ => α) (fun a0 a1 a2 a3 a4 a5 a6 a7 a8 a9 a10 a11 a12 a13 a14 a15 => a4) b, fun f b => B16.rec (motive := fun _ => B16 α) (fun a0 a1 a2 a3 a4 a5 a6 a7 a8 a9 a10 a11 a12 a13 a14 a15 => ⟨a0, a1, a2, a3, f a4, a5, a6, a7, a8, a9, a10, a11, a12, a13, a14, a15⟩) b⟩
  | .d5 => ⟨fun b => B16.rec (motive := fun _ => α) (fun a0 a1 a2 a3 a4 a5 a6 a7 a8 a9 a10 a11 a12 a13 a14 a15 => a5) b, fun f b => B16.rec (motive := fun _ => B16 α) (fun a0 a1 a2 a3 a4 a5 a6 a7 a8 a9 a10 a11 a12 a13 a14 a15 => ⟨a0, a1, a2, a3, a4, f a5, a6, a7, a8, a9, a10, a11, a12, a13, a14, a15⟩) b⟩
  | .d6 => ⟨fun b => B16.rec (motive := fun _ => α) (fun a0 a1 a2 a3 a4 a5 a6 a7 a8 a9 a10 a11 a12 a13 a14 a15 => a6) b, fun f b => B16.rec (motive := fun _ => B16 α) (fun a0 a1 a2 a3 a4 a5 a6 a7 a8 a9 a10 a11 a12 a13 a14 a15 => ⟨a0, a1, a2, a3, a4, a5, f a6, a7, a8, a9, a10, a11, a12, a13, a14, a15⟩) b⟩
  | .d7 => ⟨fun b => B16.rec (motive := fun _ => α) (fun a0 a1 a2 a3 a4 a5 a6 a7 a8 a9 a10 a11 a12 a13 a14 a15 => a7) b, fun f b => B16.rec (motive := fun _ => B16 α) (fun a0 a1 a2 a3 a4 a5 a6 a7 a8 a9 a10 a11 a12 a13 a14 a15 => ⟨a0, a1, a2, a3, a4, a5, a6, f a7, a8, a9, a10, a11, a12, a13, a14, a15⟩) b⟩
  | .d8 => ⟨fun b => B16.rec (motive := fun _ => α) (fun a0 a1 a2 a3 a4 a5 a6 a7 a8 a9 a10 a11 a12 a13 a14 a15 => a8) b, fun f b => B16.rec (motive := fun _ => B16 α) (fun a0 a1 a2 a3 a4 a5 a6 a7 a8 a9 a10 a11 a12 a13 a14 a15 => ⟨a0, a1, a2, a3, a4, a5, a6, a7, f a8, a9, a10, a11, a12, a13, a14, a15⟩) b⟩
  | .d9 => ⟨fun b => B16.rec (motive := fun _ => α) (fun a0 a1 a2 a3 a4 a5 a6 a7 a8 a9 a10 a11 a12 a13 a14 a15 => a9) b, fun f b => B16.rec (motive := fun _ => B16 α) (fun a0 a1 a2 a3 a4 a5 a6 a7 a8 a9 a10 a11 a12 a13 a14 a15 => ⟨a0, a1, a2, a3, a4, a5, a6, a7, a8, f a9, a10, a11, a12, a13, a14, a15⟩) b⟩
  | .d10 => ⟨fun b => B16.rec (motive := fun _ => α) (fun a0 a1 a2 a3 a4 a5 a6 a7 a8 a9 a10 a11 a12 a13 a14 a15 => a10) b, fun f b => B16.rec (motive := fun _ => B16 α) (fun a0 a1 a2 a3 a4 a5 a6 a7 a8 a9 a10 a11 a12 a13 a14 a15 => ⟨a0, a1, a2, a3, a4, a5, a6, a7, a8, a9, f a10, a11, a12, a13, a14, a15⟩) b⟩
  | .d11 => ⟨fun b => B16.rec (motive := fun _ => α) (fun a0 a1 a2 a3 a4 a5 a6 a7 a8 a9 a10 a11 a12 a13 a14 a15 => a11) b, fun f b => B16.rec (motive := fun _ => B16 α) (fun a0 a1 a2 a3 a4 a5 a6 a7 a8 a9 a10 a11 a12 a13 a14 a15 => ⟨a0, a1, a2, a3, a4, a5, a6, a7, a8, a9, a10, f a11, a12, a13, a14, a15⟩) b⟩
  | .d12 => ⟨fun b => B16.rec (motive := fun _ => α) (fun a0 a1 a2 a3 a4 a5 a6 a7 a8 a9 a10 a11 a12 a13 a14 a15 => a12) b, fun f b => B16.rec (motive := fun _ => B16 α) (fun a0 a1 a2 a3 a4 a5 a6 a7 a8 a9 a10 a11 a12 a13 a14 a15 => ⟨a0, a1, a2, a3, a4, a5, a6, a7, a8, a9, a10, a11, f a12, a13, a14, a15⟩) b⟩
  | .d13 => ⟨fun b => B16.rec (motive := fun _ => α) (fun a0 a1 a2 a3 a4 a5 a6 a7 a8 a9 a10 a11 a12 a13 a14 a15 => a13) b, fun f b => B16.rec (motive := fun _ => B16 α) (fun a0 a1 a2 a3 a4 a5 a6 a7 a8 a9 a10 a11 a12 a13 a14 a15 => ⟨a0, a1, a2, a3, a4, a5, a6, a7, a8, a9, a10, a11, a12, f a13, a14, a15⟩) b⟩
  | .d14 => ⟨fun b => B16.rec (motive := fun _ => α) (fun a0 a1 a2 a3 a4 a5 a6 a7 a8 a9 a10 a11 a12 a13 a14 a15 => a14) b, fun f b => B16.rec (motive := fun _ => B16 α) (fun a0 a1 a2 a3 a4 a5 a6 a7 a8 a9 a10 a11 a12 a13 a14 a15 => ⟨a0, a1, a2, a3, a4, a5, a6, a7, a8, a9, a10, a11, a12, a13, f a14, a15⟩) b⟩
  | .d15 => ⟨fun b => B16.rec (motive := fun _ => α) (fun a0 a1 a2 a3 a4 a5 a6 a7 a8 a9 a10 a11 a12 a13 a14 a15 => a15) b, fun f b => B16.rec (motive := fun _ => B16 α) (fun a0 a1 a2 a3 a4 a5 a6 a7 a8 a9 a10 a11 a12 a13 a14 a15 => ⟨a0, a1, a2, a3, a4, a5, a6, a7, a8, a9, a10, a11, a12, a13, a14, f a15⟩) b⟩

theorem lensD_eq {α : Type} (d : Dig) (f : α → α) (b : B16 α) : (lensD d).get ((lensD d).upd f b) = f ((lensD d).get b) := by cases d <;> cases b <;> rfl
theorem lensD_ne {α : Type} (d e : Dig) (h : d ≠ e) (f : α → α) (b : B16 α) : (lensD e).get ((lensD d).upd f b) = (lensD e).get b := by
  cases b
  cases d <;> cases e <;> first | rfl | exact absurd rfl h

def lensN {α : Type} (n : Nat) : Lens (B16 α) α := lensD (digN n)

theorem lensN_get {α : Type} (n m : Nat) (hn : n < 16) (hm : m < 16) (f : α → α) (b : B16 α) : (lensN m).get ((lensN n).upd f b) = if m = n then f ((lensN n).get b) else (lensN m).get b := by
  by_cases e : m = n
  · subst e; rw [if_pos rfl]; exact lensD_eq _ _ _
  · rw [if_neg e]
    refine lensD_ne _ _ (fun q => e ?_) _ _
    have := congrArg Dig.no q
    rw [digN_no n hn, digN_no m hm] at this
    exact this.symm

def B16.all {α : Type} (x : α) : B16 α := ⟨x, x, x, x, x, x, x, x, x, x, x, x, x, x, x, x⟩
theorem lensN_all {α : Type} (n : Nat) (x : α) : (lensN n).get (B16.all x) = x := by
  unfold lensN
  cases digN n <;> rfl

structure Tree (α : Type) where
  lo : B16 (B16 (Option α))
  hi : B16 (B16 (B16 (Option α)))
  rest : OTree α

def Tree.leaf {α : Type} : Tree α := ⟨.all (.all none), .all (.all (.all none)), .leaf⟩

structure Slot (α : Type) where
  get : Tree α → Option α
  set : α → Tree α → Tree α

def slotLo {α : Type} (i j : Nat) : Slot α :=
  ⟨fun t => (lensN j).get ((lensN i).get t.lo), fun x t => Tree.rec (motive := fun _ => Tree α) (fun lo hi rest => ⟨(lensN i).upd ((lensN j).upd fun _ => some x) lo, hi, rest⟩) t⟩
def slotHi {α : Type} (i j k : Nat) : Slot α :=
  ⟨fun t => (lensN k).get ((lensN j).get ((lensN i).get t.hi)), fun x t => Tree.rec (motive := fun _ => Tree α) (fun lo hi rest => ⟨lo, (lensN i).upd ((lensN j).upd ((lensN k).upd fun _ => some x)) hi, rest⟩) t⟩
def slotRest {α : Type} (n : Nat) : Slot α := ⟨fun t => t.rest.get n, fun x t => ⟨t.lo, t.hi, t.rest.set n x⟩⟩

def slotOf {α : Type} (n : Nat) : Slot α :=
  cond (Nat.blt n 256) (slotLo (n / 16) (n % 16))
    (cond (Nat.blt n 4352) (slotHi ((n - 256) / 256) ((n - 256) / 16 % 16) ((n - 256) % 16)) (slotRest n))

def Tree.get {α : Type} (t : Tree α) (n : Nat) : Option α := (slotOf n).get t
def Tree.set {α : Type} (t : Tree α) (n : Nat) (x : α) : Tree α := (slotOf n).set x t

theorem blt_lt (a b : Nat) : Nat.blt a b = decide (a < b) := by
  rw [Bool.eq_iff_iff, decide_eq_true_eq]
  exact iff_of_eq Nat.blt_eq

theorem slotOf_lo {α : Type} (n : Nat) (h : n < 256) : (slotOf n : Slot α) = slotLo (n / 16) (n % 16) := by
  unfold slotOf; rw [blt_lt, decide_eq_true h, cond_true]
theorem slotOf_hi {α : Type} (n : Nat) (h : ¬ n < 256) (h2 : n < 4352) : (slotOf n : Slot α) = slotHi ((n - 256) / 256) ((n - 256) / 16 % 16) ((n - 256) % 16) := by
  unfold slotOf; rw [blt_lt, blt_lt, decide_eq_false h, decide_eq_true h2, cond_false, cond_true]
theorem slotOf_rest {α : Type} (n : Nat) (h : ¬ n < 256) (h2 : ¬ n < 4352) : (slotOf n : Slot α) = slotRest n := by
  unfold slotOf; rw [blt_lt, blt_lt, decide_eq_false h, decide_eq_false h2, cond_false, cond_false]

theorem Tree.get_leaf {α : Type} (n : Nat) : (Tree.leaf : Tree α).get n = none := by
  unfold Tree.get
  by_cases h : n < 256
  · rw [slotOf_lo n h]; simp only [slotLo, Tree.leaf, lensN_all]
  · by_cases h2 : n < 4352
    · rw [slotOf_hi n h h2]; simp only [slotHi, Tree.leaf, lensN_all]
    · rw [slotOf_rest n h h2]; exact OTree.get_leaf n

theorem Tree.get_set {α : Type} (t : Tree α) (n m : Nat) (x : α) : (t.set n x).get m = if m = n then some x else t.get m := by
  unfold Tree.get Tree.set
  cases t with
  | mk lo hi rest =>
  by_cases hn : n < 256
  · rw [slotOf_lo n hn]
    by_cases hm : m < 256
    · rw [slotOf_lo m hm]
      simp only [slotLo]
      rw [lensN_get _ _ (by omega) (by omega)]
      by_cases e : m / 16 = n / 16
      · rw [if_pos e, lensN_get _ _ (by omega) (by omega)]
        by_cases e2 : m % 16 = n % 16
        · rw [if_pos e2, if_pos (by omega)]
        · rw [if_neg e2, if_neg (by intro q; subst q; exact e2 rfl), e]
      · rw [if_neg e, if_neg (by intro q; subst q; exact e rfl)]
    · rw [if_neg (by omega)]
      by_cases hm2 : m < 4352
      · rw [slotOf_hi m hm hm2]; simp only [slotLo, slotHi]
      · rw [slotOf_rest m hm hm2]; rfl
  · by_cases hn2 : n < 4352
    · rw [slotOf_hi n hn hn2]
      by_cases hm : m < 256
      · rw [slotOf_lo m hm, if_neg (by omega)]; rfl
      · by_cases hm2 : m < 4352
        · rw [slotOf_hi m hm hm2]
          simp only [slotHi]
          rw [lensN_get _ _ (by omega) (by omega)]
          by_cases e : (m - 256) / 256 = (n - 256) / 256
          · rw [if_pos e, lensN_get _ _ (by omega) (by omega)]
            by_cases e1 : (m - 256) / 16 % 16 = (n - 256) / 16 % 16
            · rw [if_pos e1, lensN_get _ _ (by omega) (by omega)]
              by_cases e2 : (m - 256) % 16 = (n - 256) % 16
              · rw [if_pos e2, if_pos (by omega)]
              · rw [if_neg e2, if_neg (by intro q; subst q; exact e2 rfl), e1, e]
            · rw [if_neg e1, if_neg (by intro q; subst q; exact e1 rfl), e]
          · rw [if_neg e, if_neg (by intro q; subst q; exact e rfl)]
        · rw [slotOf_rest m hm hm2, if_neg (by omega)]; rfl
    · rw [slotOf_rest n hn hn2]
      by_cases hm : m < 256
      · rw [slotOf_lo m hm, if_neg (by omega)]; rfl
      · by_cases hm2 : m < 4352
        · rw [slotOf_hi m hm hm2, if_neg (by omega)]; simp only [slotRest, slotHi]
        · rw [slotOf_rest m hm hm2]; exact OTree.get_set _ _ _ _

structure CSt where
  tt : Tree Value
  n : Nat
  ht : Tree AObj
  nx : Nat
  asm : List (FuncId × List Value × Value)

def CSt.tm (s : CSt) (t : Nat) : Value := (s.tt.get t).getD undef
def CSt.st (s : CSt) : ASt := ⟨s.tm, s.n, s.ht.get, s.nx⟩

def Eff.tree (e : Eff) (nx : Nat) (t : Tree AObj) : Tree AObj :=
  match e with
  | .none => t
  | .new o => t.set nx o
  | .upd id o => t.set id o
  | .bump id o => t.set id o

theorem Eff.tree_get (e : Eff) (nx : Nat) (t : Tree AObj) : (e.tree nx t).get = e.H nx t.get := by
  funext m
  cases e <;> simp [Eff.tree, Eff.H, Tree.get_set, Heap.put]

def CSt.put (s : CSt) (dst : Option Tmp) (v : Value) (ht : Tree AObj) (nx : Nat) (asm : List (FuncId × List Value × Value)) : CSt :=
  match s with
  | ⟨tt, n, _, _, _⟩ => ⟨match dst with | some d => tt.set d v | none => tt, n, ht, nx, asm⟩

theorem CSt.put_st (s : CSt) (dst : Option Tmp) (v : Value) (ht : Tree AObj) (nx : Nat) (asm : List (FuncId × List Value × Value)) : (s.put dst v ht nx asm).st = ⟨tmPut s.st.tm dst v, s.n, ht.get, nx⟩ := by
  cases s
  cases dst with
  | none => rfl
  | some d =>
    simp only [CSt.put, CSt.st, tmPut]
    congr 1
    funext t
    simp only [CSt.tm, Tree.get_set]
    split <;> simp

inductive Job where
  | code (c : Code)
  | loop (c : Code)
  | scope (b c : Code)
  | ops (ops : Array Oper) (l : List Oper)
  | dops (ops : Array Oper) (l : List Oper)
  | call (f : FuncId) (args : List Value)

/-- One operation of a region whose order is drawn: the state ahead of it, its value, whether it touched an object. -/
structure DTr where
  s : CSt
  v : Value
  e : Bool

structure Out where
  x : AExit
  v : Value
  s : CSt
  tr : List DTr

def argTree : List Value → Nat → Tree Value → Tree Value
  | [], _, t => t
  | v :: l, i, t => argTree l (i + 1) (t.set i v)

def aResult (P : Program) (st : ASt) : ResultVar → Option Value
  | .tmp t => some (st.tm t)
  | .cell a t =>
    match st.tm a with
    | .pointer (some a) => readAt P st.H t a
    | _ => none

def aResultL (P : Program) (st : ASt) : List ResultVar → Option (List Value)
  | [] => some []
  | r :: l =>
    match aResult P st r, aResultL P st l with
    | some v, some vs => some (v :: vs)
    | _, _ => none

def aResults (P : Program) (st : ASt) (rs : Array ResultVar) : Option Value :=
  match aResultL P st rs.toList with
  | some [v] => some v
  | some l => some (.tuple l.toArray)
  | none => none

/-! ### a region whose order is drawn: what is looked at -/

def allIdx {α : Type} (f : Nat → α → Bool) : Nat → List α → Bool
  | _, [] => true
  | i, x :: l => f i x && allIdx f (i + 1) l

theorem allIdx_spec {α : Type} {f : Nat → α → Bool} : ∀ (l : List α) (k : Nat), allIdx f k l = true → ∀ i x, l[i]? = some x → f (k + i) x = true := by
  intro l
  induction l with
  | nil => intro k _ i x h; simp at h
  | cons y l ih =>
    intro k h i x hx
    simp only [allIdx, Bool.and_eq_true] at h
    cases i with
    | zero => simp only [List.getElem?_cons_zero, Option.some.injEq] at hx; subst hx; exact h.1
    | succ i =>
      have := ih (k + 1) h.2 i x (by simpa using hx)
      rwa [show k + 1 + i = k + (i + 1) by omega] at this

def depB (o : Oper) (j : Nat) : Bool := o.after.toList.any fun e => Region.binds .any e && e.on == j

theorem depB_iff {o : Oper} {j : Nat} : depB o j = true ↔ dep o j := by
  unfold depB dep
  rw [List.any_eq_true]
  constructor
  · rintro ⟨e, he, h⟩
    simp only [Bool.and_eq_true, beq_iff_eq] at h
    exact ⟨e, by simpa using he, h.1, h.2⟩
  · rintro ⟨e, he, h1, h2⟩
    exact ⟨e, by simpa using he, by simp [h1, h2]⟩

def statOk (ops : Array Oper) : Bool :=
  allIdx (fun i o => o.after.toList.all fun e => !Region.binds .any e || decide (e.on < i)) 0 ops.toList &&
  allIdx (fun i oi => allIdx (fun j oj => i == j || (match oi.dst, oj.dst with | some d, some d' => d != d' | _, _ => true)) 0 ops.toList) 0 ops.toList &&
  allIdx (fun i oi => allIdx (fun j oj => i == j || (match oj.dst with
    | some t => if (opTs oi).contains t || gdst ops oi == some t then (if j < i then depB oi j else depB oj i) else true
    | none => true)) 0 ops.toList) 0 ops.toList

/-! Two places, two numbers: told by numbers alone (a derived decision would hold unread terms against each other). -/

theorem nbeq {a b : Nat} (h : Nat.beq a b = true) : a = b := Nat.eq_of_beq_eq_true h

def beqON : Option Nat → Option Nat → Bool
  | none, none => true
  | some a, some b => Nat.beq a b
  | _, _ => false

theorem beqON_spec {a b : Option Nat} (h : beqON a b = true) : a = b := by
  cases a <;> cases b <;> simp only [beqON] at h <;> first | rfl | (cases h; done) | rw [nbeq h]

def beqA (a b : Addr) : Bool := Nat.beq a.block b.block && Nat.beq a.off b.off && beqON a.spot b.spot

theorem beqA_spec {a b : Addr} (h : beqA a b = true) : a = b := by
  simp only [beqA, Bool.and_eq_true] at h
  obtain ⟨⟨h1, h2⟩, h3⟩ := h
  cases a
  cases b
  simp only at h1 h2 h3
  rw [nbeq h1, nbeq h2, beqON_spec h3]

def beqOA : Option Addr → Option Addr → Bool
  | none, none => true
  | some a, some b => beqA a b
  | _, _ => false

theorem beqOA_spec {a b : Option Addr} (h : beqOA a b = true) : a = b := by
  cases a <;> cases b <;> simp only [beqOA] at h <;> first | rfl | (cases h; done) | rw [beqA_spec h]

def beqI : Int → Int → Bool
  | .ofNat a, .ofNat b => Nat.beq a b
  | .negSucc a, .negSucc b => Nat.beq a b
  | _, _ => false

theorem beqI_spec {a b : Int} (h : beqI a b = true) : a = b := by
  cases a <;> cases b <;> simp only [beqI] at h <;> first | (cases h; done) | rw [nbeq h]

def veq1 : Value → Value → Bool
  | .bool a, .bool b => a == b
  | .int k a, .int k' b => decide (k = k') && beqI a b
  | .string a, .string b => a.data.toList == b.data.toList
  | .nilFunc, .nilFunc => true
  | .nilIface, .nilIface => true
  | .pointer a, .pointer b => beqOA a b
  | .slice a l c, .slice a' l' c' => beqOA a a' && Nat.beq l l' && Nat.beq c c'
  | .map a, .map b => beqON a b
  | .func (.func f) a b, .func (.func g) a' b' => Nat.beq f g && a.toList.isEmpty && a'.toList.isEmpty && b.toList.isEmpty && b'.toList.isEmpty
  | _, _ => false

def veqL : List Value → List Value → Bool
  | [], [] => true
  | a :: l, b :: l' => veq1 a b && veqL l l'
  | _, _ => false

def veq : Value → Value → Bool
  | .agg a, .agg b => veqL a.toList b.toList
  | .tuple a, .tuple b => veqL a.toList b.toList
  | a, b => veq1 a b

theorem veq1_spec {a b : Value} (h : veq1 a b = true) : a = b := by
  unfold veq1 at h
  split at h
  case h_9 =>
    rename_i f a b g a' b'
    simp only [Bool.and_eq_true, List.isEmpty_iff] at h
    obtain ⟨⟨⟨⟨h0, h1⟩, h2⟩, h3⟩, h4⟩ := h
    obtain rfl := nbeq h0
    have e1 : a = #[] := by apply Array.ext'; simpa using h1
    have e2 : a' = #[] := by apply Array.ext'; simpa using h2
    have e3 : b = #[] := by apply Array.ext'; simpa using h3
    have e4 : b' = #[] := by apply Array.ext'; simpa using h4
    rw [e1, e2, e3, e4]
  case h_1 => rw [beq_iff_eq] at h; rw [h]
  case h_2 => simp only [Bool.and_eq_true, decide_eq_true_eq] at h; obtain ⟨rfl, h⟩ := h; rw [beqI_spec h]
  case h_3 x y =>
    rw [beq_iff_eq] at h
    obtain ⟨⟨x⟩⟩ := x
    obtain ⟨⟨y⟩⟩ := y
    simp only at h
    rw [h]
  case h_6 => rw [beqOA_spec h]
  case h_7 => simp only [Bool.and_eq_true] at h; obtain ⟨⟨h1, h2⟩, h3⟩ := h; rw [beqOA_spec h1, nbeq h2, nbeq h3]
  case h_8 => rw [beqON_spec h]
  case h_10 => cases h
  all_goals rfl

theorem veqL_spec : ∀ {a b : List Value}, veqL a b = true → a = b := by
  intro a
  induction a with
  | nil => intro b h; cases b with
    | nil => rfl
    | cons x y => simp [veqL] at h
  | cons x l ih =>
    intro b h
    cases b with
    | nil => simp [veqL] at h
    | cons y l' =>
      simp only [veqL, Bool.and_eq_true] at h
      rw [veq1_spec h.1, ih h.2]

theorem veq_spec {a b : Value} (h : veq a b = true) : a = b := by
  unfold veq at h
  split at h
  · rename_i x y; have := veqL_spec h; obtain ⟨x⟩ := x; obtain ⟨y⟩ := y; simp only at this; rw [this]
  · rename_i x y; have := veqL_spec h; obtain ⟨x⟩ := x; obtain ⟨y⟩ := y; simp only at this; rw [this]
  · exact veq1_spec h

def sameAns (r : Option (Value × Eff)) (v : Value) : Bool :=
  match r with
  | some (u, .none) => veq u v
  | _ => false

theorem sameAns_spec {r : Option (Value × Eff)} {v : Value} (h : sameAns r v = true) : r = some (v, .none) := by
  unfold sameAns at h
  split at h
  · rw [veq_spec h]
  · cases h

/-- The states at which an operation may come up: ahead of all that touches an object, and behind each such. -/
def dynOk (P : Program) (ops : Array Oper) (tr : List DTr) (s' : CSt) : Bool :=
  let es := (tr.zipIdx.filter fun x => x.1.e).map (·.2)
  let at_ (p : Nat) : CSt := match tr[p]? with | some d => d.s | none => s'
  -- one behind the other
  allIdx (fun j oj => !es.contains j || es.all fun i => !(decide (i < j) && es.all fun k => !(decide (i < k) && decide (k < j))) || depB oj i) 0 ops.toList &&
  allIdx (fun i oi => match tr[i]? with
    | some d => d.e || !wantsT ops d.s.tm oi || (0 :: es.map (· + 1)).all fun p =>
        es.any (fun j => depB oi j && decide (p ≤ j)) || es.any (fun e => decide (e < p) && (match ops[e]? with | some oe => depB oe i | none => false)) ||
        sameAns (aop P (at_ p).ht.get (at_ p).nx (evR (opTs oi) d.s.tm) oi) d.v
    | none => false) 0 ops.toList

def Eff.isNone : Eff → Bool
  | .none => true
  | _ => false

/-- 'ov': the calls whose answer is taken as told; each is kept ('asm'), to be shown apart. -/
def exec (P : Program) (xs : List Nat) (ov : FuncId → List Value → Option Value) : Nat → Job → CSt → Option Out
  | 0, _, _ => none
  | n + 1, job, s =>
    match job with
    | .code c =>
      match c with
      | .skip => some ⟨.normal, undef, s, []⟩
      | .label _ => some ⟨.normal, undef, s, []⟩
      | .exit id => some ⟨.exit id, undef, s, []⟩
      | .goto l => some ⟨.goto l, undef, s, []⟩
      | .ret => some ⟨.ret, undef, s, []⟩
      | .seq a b =>
        match exec P xs ov n (.code a) s with
        | some ⟨.normal, _, s', _⟩ => exec P xs ov n (.code b) s'
        | r => r
      | .cond c a b =>
        match s.st.ev c with
        | some (.bool true) => exec P xs ov n (.code a) s
        | some (.bool false) => exec P xs ov n (.code b) s
        | _ => none
      | .block id c =>
        match exec P xs ov n (.code c) s with
        | some ⟨.exit id', v, s', t⟩ => if id' = id then some ⟨.normal, v, s', t⟩ else some ⟨.exit id', v, s', t⟩
        | r => r
      | .loop c => exec P xs ov n (.loop c) s
      | .region _ ops draw =>
        if draw then
          if statOk ops then
            match exec P xs ov n (.dops ops ops.toList) s with
            | some ⟨_, _, s', tr⟩ => if dynOk P ops tr s' then some ⟨.normal, undef, s', []⟩ else none
            | none => none
          else none
        else exec P xs ov n (.ops ops ops.toList) s
      | .scope b => exec P xs ov n (.scope b b) s
      | _ => none
    | .loop c =>
      match exec P xs ov n (.code c) s with
      | some ⟨.normal, _, s', _⟩ => exec P xs ov n (.loop c) s'
      | r => r
    | .scope b c =>
      match exec P xs ov n (.code c) s with
      | some ⟨.goto l, v, s', t⟩ =>
        match findLabel b l with
        | some rest => exec P xs ov n (.scope b rest) s'
        | none => some ⟨.goto l, v, s', t⟩
      | r => r
    | .ops _ [] => some ⟨.normal, undef, s, []⟩
    | .ops ops (o :: l) =>
      if dstOk s.st o then
        if wants ops s.st o then
          match callee s.st o with
          | some (f, args) =>
            if xs.contains f then
              match args with
              | [x] => exec P xs ov n (.ops ops l) (s.put o.dst x s.ht s.nx s.asm)
              | _ => none
            else
              match exec P xs ov n (.call f args) s with
              | some ⟨_, v, s', _⟩ => exec P xs ov n (.ops ops l) (s.put o.dst v s'.ht s'.nx s'.asm)
              | none => none
          | none =>
            match aop P s.ht.get s.nx s.st.ev o with
            | some (v, e) => exec P xs ov n (.ops ops l) (s.put o.dst v (e.tree s.nx s.ht) (e.nx s.nx) s.asm)
            | none => none
        else exec P xs ov n (.ops ops l) (s.put o.dst undef s.ht s.nx s.asm)
      else none
    | .dops _ [] => some ⟨.normal, undef, s, []⟩
    | .dops ops (o :: l) =>
      if dstOk s.st o then
        if wantsT ops s.tm o then
          match calleeE (evR (opTs o) s.tm) o with
          | some (f, args) =>
            match exec P xs ov n (.call f args) s with
            | some ⟨_, v, s', _⟩ =>
              match exec P xs ov n (.dops ops l) (s.put o.dst v s'.ht s'.nx s'.asm) with
              | some ⟨x, u, s2, tr⟩ => some ⟨x, u, s2, ⟨s, v, true⟩ :: tr⟩
              | none => none
            | none => none
          | none =>
            match aop P s.ht.get s.nx (evR (opTs o) s.tm) o with
            | some (v, e) =>
              match exec P xs ov n (.dops ops l) (s.put o.dst v (e.tree s.nx s.ht) (e.nx s.nx) s.asm) with
              | some ⟨x, u, s2, tr⟩ => some ⟨x, u, s2, ⟨s, v, !e.isNone⟩ :: tr⟩
              | none => none
            | none => none
        else
          match exec P xs ov n (.dops ops l) (s.put o.dst undef s.ht s.nx s.asm) with
          | some ⟨x, u, s2, tr⟩ => some ⟨x, u, s2, ⟨s, undef, false⟩ :: tr⟩
          | none => none
      else none
    | .call f args =>
      match ov f args with
      | some v => some ⟨.ret, v, ⟨s.tt, s.n, s.ht, s.nx, (f, args, v) :: s.asm⟩, []⟩
      | none =>
      match P.funcs[f]? with
      | some fn =>
        match fn.body with
        | some c =>
          match exec P xs ov n (.code c) ⟨argTree args 0 .leaf, args.length + (fn.ntmps - args.length), s.ht, s.nx, s.asm⟩ with
          | some ⟨.normal, _, s', _⟩ => (aResults P s'.st fn.results).map fun v => ⟨.ret, v, s', []⟩
          | some ⟨.ret, _, s', _⟩ => (aResults P s'.st fn.results).map fun v => ⟨.ret, v, s', []⟩
          | _ => none
        | none => none
      | none => none

/-- Does a call answer true? -/
def saysTrue : Option Out → Bool
  | some ⟨_, .bool b, _, _⟩ => b
  | _ => false

end
end Go.Am
