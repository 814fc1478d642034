import Derived.WalkKit
set_option linter.unusedVariables false
set_option linter.unusedSimpArgs false
namespace Go.Am
open Go.RowKit
noncomputable section
inductive OTree (α : Type) where
 | leaf
 | node (v : Option α) (l r : OTree α)
def OTree.get {α : Type} : OTree α → Nat → Option α
 | .leaf, _ => none
 | .node v l r, n => cond (Nat.beq n 0) v (cond (Nat.beq (Nat.mod n 2) 1) (l.get (Nat.div n 2)) (r.get (Nat.sub (Nat.div n 2) 1)))
def OTree.put {α : Type} (x : Option α) : Nat → OTree α → Nat → OTree α
 | 0, t, _ => t
 | f + 1, .leaf, n => cond (Nat.beq n 0) (.node x .leaf .leaf) (cond (Nat.beq (Nat.mod n 2) 1) (.node none (OTree.put x f .leaf (Nat.div n 2)) .leaf) (.node none .leaf (OTree.put x f .leaf (Nat.sub (Nat.div n 2) 1))))
 | f + 1, .node v l r, n => cond (Nat.beq n 0) (.node x l r) (cond (Nat.beq (Nat.mod n 2) 1) (.node v (OTree.put x f l (Nat.div n 2)) r) (.node v l (OTree.put x f r (Nat.sub (Nat.div n 2) 1))))
theorem z0F {α : Type} (n : Nat) : (OTree.leaf : OTree α).get n = none := by simp [OTree.get]
theorem z85 {α : Type} (a b : Nat) (x y : α) : cond (Nat.beq a b) x y = if a = b then x else y := by
 rw [Bool.cond_eq_ite];by_cases h : a = b
 ·subst h; simp
 ·have : Nat.beq a b = false := by cases hb : Nat.beq a b with
   | false => rfl
   | true => exact absurd (Nat.eq_of_beq_eq_true hb) h
  simp [this, h]
theorem z0X {α : Type} (v : Option α) (l r : OTree α) (n : Nat) : (OTree.node v l r).get n = if n = 0 then v else if n % 2 = 1 then l.get (n / 2) else r.get (n / 2 - 1) := by
 simp only [OTree.get, z85];rfl
theorem z7v {α : Type} (x : Option α) (f n : Nat) : OTree.put x (f + 1) .leaf n = if n = 0 then .node x .leaf .leaf else if n % 2 = 1 then .node none (OTree.put x f .leaf (n / 2)) .leaf else .node none .leaf (OTree.put x f .leaf (n / 2 - 1)) := by
 simp only [OTree.put, z85];rfl
theorem z7u {α : Type} (x : Option α) (f : Nat) (v : Option α) (l r : OTree α) (n : Nat) : OTree.put x (f + 1) (.node v l r) n = if n = 0 then .node x l r else if n % 2 = 1 then .node v (OTree.put x f l (n / 2)) r else .node v l (OTree.put x f r (n / 2 - 1)) := by
 simp only [OTree.put, z85];rfl
theorem z8B {α : Type} (x : Option α) : ∀ (f : Nat) (t : OTree α) (n m : Nat), n < f → (OTree.put x f t n).get m = if m = n then x else t.get m := by
 intro f
 induction f with
 | zero => intro t n m h; omega
 | succ f ih =>
  intro t n m h;have hn : n = 0 ∨ n / 2 < f ∧ n / 2 - 1 < f := by omega
  cases t with
  | leaf =>
   rw [z7v, z0F];by_cases c0 : n = 0
   ·subst c0;rw [if_pos rfl, z0X, z0F, z0F];by_cases m0 : m = 0
    ·rw [if_pos m0, if_pos m0]
    ·rw [if_neg m0, if_neg m0]; split <;> rfl
   ·rw [if_neg c0];by_cases c1 : n % 2 = 1
    ·rw [if_pos c1, z0X, ih _ _ _ (by omega), z0F, z0F];by_cases e : m = n
     ·subst e; rw [if_neg c0, if_pos c1, if_pos rfl, if_pos rfl]
     ·rw [if_neg e];split
      ·rfl
      ·split
       ·rw [if_neg (by omega)]
       ·rfl
    ·rw [if_neg c1, z0X, ih _ _ _ (by omega), z0F, z0F];by_cases e : m = n
     ·subst e; rw [if_neg c0, if_neg c1, if_pos rfl, if_pos rfl]
     ·rw [if_neg e];split
      ·rfl
      ·split
       ·rfl
       ·rw [if_neg (by omega)]
  | node v l r =>
   rw [z7u, z0X];by_cases c0 : n = 0
   ·subst c0;rw [if_pos rfl, z0X];by_cases m0 : m = 0
    ·rw [if_pos m0, if_pos m0]
    ·rw [if_neg m0, if_neg m0, if_neg m0]
   ·rw [if_neg c0];by_cases c1 : n % 2 = 1
    ·rw [if_pos c1, z0X, ih _ _ _ (by omega)];by_cases e : m = n
     ·subst e; rw [if_neg c0, if_pos c1, if_pos rfl, if_pos rfl]
     ·rw [if_neg e];split
      ·rfl
      ·split
       ·rw [if_neg (by omega)]
       ·rfl
    ·rw [if_neg c1, z0X, ih _ _ _ (by omega)];by_cases e : m = n
     ·subst e; rw [if_neg c0, if_neg c1, if_pos rfl, if_pos rfl]
     ·rw [if_neg e];split
      ·rfl
      ·split
       ·rfl
       ·rw [if_neg (by omega)]
def OTree.set {α : Type} (t : OTree α) (n : Nat) (x : α) : OTree α := OTree.put (some x) (n + 1) t n
theorem z8A {α : Type} (t : OTree α) (n m : Nat) (x : α) : (t.set n x).get m = if m = n then some x else t.get m := z8B (some x) (n + 1) t n m (by omega)
def OTree.del {α : Type} (t : OTree α) (n : Nat) : OTree α := OTree.put none (n + 1) t n
structure B16 (α : Type) where
 (a0 a1 a2 a3 a4 a5 a6 a7 a8 a9 a10 a11 a12 a13 a14 a15 : α)
inductive Dig where
 | d0
 | d1
 | d2
 | d3
 | d4
 | d5
 | d6
 | d7
 | d8
 | d9
 | d10
 | d11
 | d12
 | d13
 | d14
 | d15
def zgL : Nat → Dig
 | 0 => .d0
 | 1 => .d1
 | 2 => .d2
 | 3 => .d3
 | 4 => .d4
 | 5 => .d5
 | 6 => .d6
 | 7 => .d7
 | 8 => .d8
 | 9 => .d9
 | 10 => .d10
 | 11 => .d11
 | 12 => .d12
 | 13 => .d13
 | 14 => .d14
 | _ => .d15
def Dig.no : Dig → Nat
 | .d0 => 0
 | .d1 => 1
 | .d2 => 2
 | .d3 => 3
 | .d4 => 4
 | .d5 => 5
 | .d6 => 6
 | .d7 => 7
 | .d8 => 8
 | .d9 => 9
 | .d10 => 10
 | .d11 => 11
 | .d12 => 12
 | .d13 => 13
 | .d14 => 14
 | .d15 => 15
theorem zcE (n : Nat) (h : n < 16) : (zgL n).no = n := by
 have : ∀ i : Fin 16, (zgL i.val).no = i.val := by decide
 exact this ⟨n, h⟩
structure Lens (β α : Type) where
 get : β → α
 upd : (α → α) → β → β
def za2 {α : Type} : Dig → Lens (B16 α) α
 | .d0 => ⟨fun b => B16.rec (motive := fun _ => α) (fun a0 a1 a2 a3 a4 a5 a6 a7 a8 a9 a10 a11 a12 a13 a14 a15 => a0) b, fun f b => B16.rec (motive := fun _ => B16 α) (fun a0 a1 a2 a3 a4 a5 a6 a7 a8 a9 a10 a11 a12 a13 a14 a15 => ⟨f a0, a1, a2, a3, a4, a5, a6, a7, a8, a9, a10, a11, a12, a13, a14, a15⟩) b⟩
 | .d1 => ⟨fun b => B16.rec (motive := fun _ => α) (fun a0 a1 a2 a3 a4 a5 a6 a7 a8 a9 a10 a11 a12 a13 a14 a15 => a1) b, fun f b => B16.rec (motive := fun _ => B16 α) (fun a0 a1 a2 a3 a4 a5 a6 a7 a8 a9 a10 a11 a12 a13 a14 a15 => ⟨a0, f a1, a2, a3, a4, a5, a6, a7, a8, a9, a10, a11, a12, a13, a14, a15⟩) b⟩
 | .d2 => ⟨fun b => B16.rec (motive := fun _ => α) (fun a0 a1 a2 a3 a4 a5 a6 a7 a8 a9 a10 a11 a12 a13 a14 a15 => a2) b, fun f b => B16.rec (motive := fun _ => B16 α) (fun a0 a1 a2 a3 a4 a5 a6 a7 a8 a9 a10 a11 a12 a13 a14 a15 => ⟨a0, a1, f a2, a3, a4, a5, a6, a7, a8, a9, a10, a11, a12, a13, a14, a15⟩) b⟩
 | .d3 => ⟨fun b => B16.rec (motive := fun _ => α) (fun a0 a1 a2 a3 a4 a5 a6 a7 a8 a9 a10 a11 a12 a13 a14 a15 => a3) b, fun f b => B16.rec (motive := fun _ => B16 α) (fun a0 a1 a2 a3 a4 a5 a6 a7 a8 a9 a10 a11 a12 a13 a14 a15 => ⟨a0, a1, a2, f a3, a4, a5, a6, a7, a8, a9, a10, a11, a12, a13, a14, a15⟩) b⟩
 | .d4 => ⟨fun b => B16.rec (motive := fun _ => α) (fun a0 a1 a2 a3 a4 a5 a6 a7 a8 a9 a10 a11 a12 a13 a14 a15 => a4) b, fun f b => B16.rec (motive := fun _ => B16 α) (fun a0 a1 a2 a3 a4 a5 a6 a7 a8 a9 a10 a11 a12 a13 a14 a15 => ⟨a0, a1, a2, a3, f a4, a5, a6, a7, a8, a9, a10, a11, a12, a13, a14, a15⟩) b⟩
 | .d5 => ⟨fun b => B16.rec (motive := fun _ => α) (fun a0 a1 a2 a3 a4 a5 a6 a7 a8 a9 a10 a11 a12 a13 a14 a15 => a5) b, fun f b => B16.rec (motive := fun _ => B16 α) (fun a0 a1 a2 a3 a4 a5 a6 a7 a8 a9 a10 a11 a12 a13 a14 a15 => ⟨a0, a1, a2, a3, a4, f a5, a6, a7, a8, a9, a10, a11, a12, a13, a14, a15⟩) b⟩
 | .d6 => ⟨fun b => B16.rec (motive := fun _ => α) (fun a0 a1 a2 a3 a4 a5 a6 a7 a8 a9 a10 a11 a12 a13 a14 a15 => a6) b, fun f b => B16.rec (motive := fun _ => B16 α) (fun a0 a1 a2 a3 a4 a5 a6 a7 a8 a9 a10 a11 a12 a13 a14 a15 => ⟨a0, a1, a2, a3, a4, a5, f a6, a7, a8, a9, a10, a11, a12, a13, a14, a15⟩) b⟩
 | .d7 => ⟨fun b => B16.rec (motive := fun _ => α) (fun a0 a1 a2 a3 a4 a5 a6 a7 a8 a9 a10 a11 a12 a13 a14 a15 => a7) b, fun f b => B16.rec (motive := fun _ => B16 α) (fun a0 a1 a2 a3 a4 a5 a6 a7 a8 a9 a10 a11 a12 a13 a14 a15 => ⟨a0, a1, a2, a3, a4, a5, a6, f a7, a8, a9, a10, a11, a12, a13, a14, a15⟩) b⟩
 | .d8 => ⟨fun b => B16.rec (motive := fun _ => α) (fun a0 a1 a2 a3 a4 a5 a6 a7 a8 a9 a10 a11 a12 a13 a14 a15 => a8) b, fun f b => B16.rec (motive := fun _ => B16 α) (fun a0 a1 a2 a3 a4 a5 a6 a7 a8 a9 a10 a11 a12 a13 a14 a15 => ⟨a0, a1, a2, a3, a4, a5, a6, a7, f a8, a9, a10, a11, a12, a13, a14, a15⟩) b⟩
 | .d9 => ⟨fun b => B16.rec (motive := fun _ => α) (fun a0 a1 a2 a3 a4 a5 a6 a7 a8 a9 a10 a11 a12 a13 a14 a15 => a9) b, fun f b => B16.rec (motive := fun _ => B16 α) (fun a0 a1 a2 a3 a4 a5 a6 a7 a8 a9 a10 a11 a12 a13 a14 a15 => ⟨a0, a1, a2, a3, a4, a5, a6, a7, a8, f a9, a10, a11, a12, a13, a14, a15⟩) b⟩
 | .d10 => ⟨fun b => B16.rec (motive := fun _ => α) (fun a0 a1 a2 a3 a4 a5 a6 a7 a8 a9 a10 a11 a12 a13 a14 a15 => a10) b, fun f b => B16.rec (motive := fun _ => B16 α) (fun a0 a1 a2 a3 a4 a5 a6 a7 a8 a9 a10 a11 a12 a13 a14 a15 => ⟨a0, a1, a2, a3, a4, a5, a6, a7, a8, a9, f a10, a11, a12, a13, a14, a15⟩) b⟩
 | .d11 => ⟨fun b => B16.rec (motive := fun _ => α) (fun a0 a1 a2 a3 a4 a5 a6 a7 a8 a9 a10 a11 a12 a13 a14 a15 => a11) b, fun f b => B16.rec (motive := fun _ => B16 α) (fun a0 a1 a2 a3 a4 a5 a6 a7 a8 a9 a10 a11 a12 a13 a14 a15 => ⟨a0, a1, a2, a3, a4, a5, a6, a7, a8, a9, a10, f a11, a12, a13, a14, a15⟩) b⟩
 | .d12 => ⟨fun b => B16.rec (motive := fun _ => α) (fun a0 a1 a2 a3 a4 a5 a6 a7 a8 a9 a10 a11 a12 a13 a14 a15 => a12) b, fun f b => B16.rec (motive := fun _ => B16 α) (fun a0 a1 a2 a3 a4 a5 a6 a7 a8 a9 a10 a11 a12 a13 a14 a15 => ⟨a0, a1, a2, a3, a4, a5, a6, a7, a8, a9, a10, a11, f a12, a13, a14, a15⟩) b⟩
 | .d13 => ⟨fun b => B16.rec (motive := fun _ => α) (fun a0 a1 a2 a3 a4 a5 a6 a7 a8 a9 a10 a11 a12 a13 a14 a15 => a13) b, fun f b => B16.rec (motive := fun _ => B16 α) (fun a0 a1 a2 a3 a4 a5 a6 a7 a8 a9 a10 a11 a12 a13 a14 a15 => ⟨a0, a1, a2, a3, a4, a5, a6, a7, a8, a9, a10, a11, a12, f a13, a14, a15⟩) b⟩
 | .d14 => ⟨fun b => B16.rec (motive := fun _ => α) (fun a0 a1 a2 a3 a4 a5 a6 a7 a8 a9 a10 a11 a12 a13 a14 a15 => a14) b, fun f b => B16.rec (motive := fun _ => B16 α) (fun a0 a1 a2 a3 a4 a5 a6 a7 a8 a9 a10 a11 a12 a13 a14 a15 => ⟨a0, a1, a2, a3, a4, a5, a6, a7, a8, a9, a10, a11, a12, a13, f a14, a15⟩) b⟩
 | .d15 => ⟨fun b => B16.rec (motive := fun _ => α) (fun a0 a1 a2 a3 a4 a5 a6 a7 a8 a9 a10 a11 a12 a13 a14 a15 => a15) b, fun f b => B16.rec (motive := fun _ => B16 α) (fun a0 a1 a2 a3 a4 a5 a6 a7 a8 a9 a10 a11 a12 a13 a14 a15 => ⟨a0, a1, a2, a3, a4, a5, a6, a7, a8, a9, a10, a11, a12, a13, a14, f a15⟩) b⟩
theorem zdV {α : Type} (d : Dig) (f : α → α) (b : B16 α) : (za2 d).get ((za2 d).upd f b) = f ((za2 d).get b) := by cases d <;> cases b <;> rfl
theorem zdU {α : Type} (d e : Dig) (h : d ≠ e) (f : α → α) (b : B16 α) : (za2 e).get ((za2 d).upd f b) = (za2 e).get b := by
 cases b;cases d <;> cases e <;> first | rfl | exact absurd rfl h
def z3f {α : Type} (n : Nat) : Lens (B16 α) α := za2 (zgL n)
theorem z48 {α : Type} (n m : Nat) (hn : n < 16) (hm : m < 16) (f : α → α) (b : B16 α) : (z3f m).get ((z3f n).upd f b) = if m = n then f ((z3f n).get b) else (z3f m).get b := by
 by_cases e : m = n
 ·subst e; rw [if_pos rfl]; exact zdV _ _ _
 ·rw [if_neg e];refine zdU _ _ (fun q => e ?_) _ _;have := congrArg Dig.no q;rw [zcE n hn, zcE m hm] at this;exact this.symm
def B16.all {α : Type} (x : α) : B16 α := ⟨x, x, x, x, x, x, x, x, x, x, x, x, x, x, x, x⟩
theorem z95 {α : Type} (n : Nat) (x : α) : (z3f n).get (B16.all x) = x := by
 unfold z3f;cases zgL n <;> rfl
structure Tree (α : Type) where
 lo : B16 (B16 (Option α))
 hi : B16 (B16 (B16 (Option α)))
 rest : OTree α
def Tree.leaf {α : Type} : Tree α := ⟨.all (.all none), .all (.all (.all none)), .leaf⟩
structure Slot (α : Type) where
 get : Tree α → Option α
 set : α → Tree α → Tree α
 del : Tree α → Tree α
def z8J {α : Type} (i j : Nat) : Slot α :=
 ⟨fun t => (z3f j).get ((z3f i).get t.lo), fun x t => Tree.rec (motive := fun _ => Tree α) (fun lo hi rest => ⟨(z3f i).upd ((z3f j).upd fun _ => some x) lo, hi, rest⟩) t,
  fun t => Tree.rec (motive := fun _ => Tree α) (fun lo hi rest => ⟨(z3f i).upd ((z3f j).upd fun _ => none) lo, hi, rest⟩) t⟩
def z7y {α : Type} (i j k : Nat) : Slot α :=
 ⟨fun t => (z3f k).get ((z3f j).get ((z3f i).get t.hi)), fun x t => Tree.rec (motive := fun _ => Tree α) (fun lo hi rest => ⟨lo, (z3f i).upd ((z3f j).upd ((z3f k).upd fun _ => some x)) hi, rest⟩) t,
  fun t => Tree.rec (motive := fun _ => Tree α) (fun lo hi rest => ⟨lo, (z3f i).upd ((z3f j).upd ((z3f k).upd fun _ => none)) hi, rest⟩) t⟩
def z7Y {α : Type} (n : Nat) : Slot α := ⟨fun t => t.rest.get n, fun x t => ⟨t.lo, t.hi, t.rest.set n x⟩, fun t => ⟨t.lo, t.hi, t.rest.del n⟩⟩
def z5N {α : Type} (n : Nat) : Slot α :=
 cond (Nat.blt n 256) (z8J (n / 16) (n % 16))
  (cond (Nat.blt n 4352) (z7y ((n - 256) / 256) ((n - 256) / 16 % 16) ((n - 256) % 16)) (z7Y n))
def Tree.get {α : Type} (t : Tree α) (n : Nat) : Option α := (z5N n).get t
def Tree.set {α : Type} (t : Tree α) (n : Nat) (x : α) : Tree α := (z5N n).set x t
theorem z8O (a b : Nat) : Nat.blt a b = decide (a < b) := by
 rw [Bool.eq_iff_iff, decide_eq_true_eq];exact iff_of_eq Nat.blt_eq
theorem z46 {α : Type} (n : Nat) (h : n < 256) : (z5N n : Slot α) = z8J (n / 16) (n % 16) := by
 unfold z5N; rw [z8O, decide_eq_true h, cond_true]
theorem z47 {α : Type} (n : Nat) (h : ¬ n < 256) (h2 : n < 4352) : (z5N n : Slot α) = z7y ((n - 256) / 256) ((n - 256) / 16 % 16) ((n - 256) % 16) := by
 unfold z5N; rw [z8O, z8O, decide_eq_false h, decide_eq_true h2, cond_false, cond_true]
theorem z31 {α : Type} (n : Nat) (h : ¬ n < 256) (h2 : ¬ n < 4352) : (z5N n : Slot α) = z7Y n := by
 unfold z5N; rw [z8O, z8O, decide_eq_false h, decide_eq_false h2, cond_false, cond_false]
theorem z8x {α : Type} (n : Nat) : (Tree.leaf : Tree α).get n = none := by
 unfold Tree.get;by_cases h : n < 256
 ·rw [z46 n h]; simp only [z8J, Tree.leaf, z95]
 ·by_cases h2 : n < 4352
  ·rw [z47 n h h2]; simp only [z7y, Tree.leaf, z95]
  ·rw [z31 n h h2]; exact z0F n
theorem z9N {α : Type} (t : Tree α) (n m : Nat) (x : α) : (t.set n x).get m = if m = n then some x else t.get m := by
 unfold Tree.get Tree.set;cases t with
 | mk lo hi rest =>
 by_cases hn : n < 256
 ·rw [z46 n hn];by_cases hm : m < 256
  ·rw [z46 m hm];simp only [z8J];rw [z48 _ _ (by omega) (by omega)];by_cases e : m / 16 = n / 16
   ·rw [if_pos e, z48 _ _ (by omega) (by omega)];by_cases e2 : m % 16 = n % 16
    ·rw [if_pos e2, if_pos (by omega)]
    ·rw [if_neg e2, if_neg (by intro q; subst q; exact e2 rfl), e]
   ·rw [if_neg e, if_neg (by intro q; subst q; exact e rfl)]
  ·rw [if_neg (by omega)];by_cases hm2 : m < 4352
   ·rw [z47 m hm hm2]; simp only [z8J, z7y]
   ·rw [z31 m hm hm2]; rfl
 ·by_cases hn2 : n < 4352
  ·rw [z47 n hn hn2];by_cases hm : m < 256
   ·rw [z46 m hm, if_neg (by omega)]; rfl
   ·by_cases hm2 : m < 4352
    ·rw [z47 m hm hm2];simp only [z7y];rw [z48 _ _ (by omega) (by omega)];by_cases e : (m - 256) / 256 = (n - 256) / 256
     ·rw [if_pos e, z48 _ _ (by omega) (by omega)];by_cases e1 : (m - 256) / 16 % 16 = (n - 256) / 16 % 16
      ·rw [if_pos e1, z48 _ _ (by omega) (by omega)];by_cases e2 : (m - 256) % 16 = (n - 256) % 16
       ·rw [if_pos e2, if_pos (by omega)]
       ·rw [if_neg e2, if_neg (by intro q; subst q; exact e2 rfl), e1, e]
      ·rw [if_neg e1, if_neg (by intro q; subst q; exact e1 rfl), e]
     ·rw [if_neg e, if_neg (by intro q; subst q; exact e rfl)]
    ·rw [z31 m hm hm2, if_neg (by omega)]; rfl
  ·rw [z31 n hn hn2];by_cases hm : m < 256
   ·rw [z46 m hm, if_neg (by omega)]; rfl
   ·by_cases hm2 : m < 4352
    ·rw [z47 m hm hm2, if_neg (by omega)]; simp only [z7Y, z7y]
    ·rw [z31 m hm hm2]; exact z8A _ _ _ _
end
end Go.Am
