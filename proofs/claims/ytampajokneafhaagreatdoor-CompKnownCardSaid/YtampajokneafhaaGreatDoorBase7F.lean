/-
  What is asked of the program once, by the fast machine: names, its table, remainders, and the sixth chapter's known call.
-/
import Derived.Test.YtampajokneafhaaGreatDoorRows
import Derived.Test.YtampajokneafhaaGreatDoorAmTC
import Derived.Lib.Hide
namespace Go.Proofs.YtampajokneafhaaGreatDoor
set_option linter.unusedSimpArgs false
set_option linter.unusedVariables false
open Go.Am Go.RowKit

theorem names_ok : (Tryz.prog.funcs.toList.all fun fn => !(fn.name == "runtime.NumGoroutine")) = true := by kernel_rfl

/-- No entry is met. -/
def XS : List Nat := []

theorem fit : Fit Tryz.prog XS := ⟨fun f fn hf => by
    have := List.all_eq_true.1 names_ok fn (by simpa using Array.mem_of_getElem? hf)
    simpa using this,
  fun f _ hf => (by cases hf),
  fun f _ hf => (by cases hf),
  by kernel_rfl,
  Nat.le_of_ble_eq_true (by kernel_rfl),
  fun f hf => (by cases hf)⟩

def noCk : FuncId × List Value × Value → Bool := fun _ => false
def noOv : Nat → FuncId → List Value → Option Value := fun _ _ _ => none

/-- The table by which the lowest one of a number's bits is found. -/
noncomputable def T6 : Go.Am.Tables := [(0, [.int .u8 0, .int .u8 1, .int .u8 56, .int .u8 2, .int .u8 57, .int .u8 49, .int .u8 28, .int .u8 3, .int .u8 61, .int .u8 58, .int .u8 42, .int .u8 50, .int .u8 38, .int .u8 29, .int .u8 17, .int .u8 4, .int .u8 62, .int .u8 47, .int .u8 59, .int .u8 36, .int .u8 45, .int .u8 43, .int .u8 51, .int .u8 22, .int .u8 53, .int .u8 39, .int .u8 33, .int .u8 30, .int .u8 24, .int .u8 18, .int .u8 12, .int .u8 5, .int .u8 63, .int .u8 55, .int .u8 48, .int .u8 27, .int .u8 60, .int .u8 41, .int .u8 37, .int .u8 16, .int .u8 46, .int .u8 35, .int .u8 44, .int .u8 21, .int .u8 52, .int .u8 32, .int .u8 23, .int .u8 11, .int .u8 54, .int .u8 26, .int .u8 40, .int .u8 15, .int .u8 34, .int .u8 20, .int .u8 31, .int .u8 10, .int .u8 25, .int .u8 14, .int .u8 19, .int .u8 9, .int .u8 13, .int .u8 8, .int .u8 7, .int .u8 6])]
theorem flat5 : flatAll Tryz.prog [("math/bits.deBruijn64tab", Rows.laid_math_bits_deBruijn64tab)] = some T6 := by kernel_rfl
theorem plain5 : (([("math/bits.deBruijn64tab", Rows.laid_math_bits_deBruijn64tab)] : List (String × DataW Unit)).all fun x => x.2.handleName?.isNone) = true := by kernel_rfl

/-! ### remainders -/

theorem tmod_lt (a n : Int) (h0 : 0 < n) (h : a.tmod n < 0) : a.tmod n + n = a % n := by
  have e : a % n = _ := @Int.emod_eq_tmod a n
  have h3 := Int.emod_nonneg a (by omega : n ≠ 0)
  split at e <;> omega

theorem tmod_ge (a n : Int) (h0 : 0 < n) (h : ¬ a.tmod n < 0) : a.tmod n = a % n := by
  have h1 := Int.tmod_lt_of_pos a h0
  have hd := Int.mul_tdiv_add_tmod a n
  have : a % n = (n * a.tdiv n + a.tmod n) % n := by rw [hd]
  rw [this, Int.mul_add_emod_self_left, Int.emod_eq_of_lt (by omega) h1]

set_option maxHeartbeats 400000 in
theorem within_calls (a n : Int) (h0 : 0 < n) (h1 : n ≤ 4611686018427387904) (w : World) : Calls Tryz.prog 15 #[.int .i64 a, .int .i64 n] w fun e w' => e = .returned (.int .i64 (a % n)) ∧ Below w.heap.size w w' := by
  have g1 := Int.tmod_lt_of_pos a h0
  have g2 := Int.lt_tmod_of_pos a h0
  have hn : (n == 0) = false := by rw [beq_eq_false_iff_ne]; omega
  by_cases hk : a.tmod n < 0
  · have e := tmod_lt a n h0 hk
    have E := Lib.hid e
    clear e
    go_enter Tryz.func15, Tryz.ntmps15
    go_wp2
    go_ret
    exact ⟨by rw [← E.out]; rfl, Below.refl _ _⟩
  · have e := tmod_ge a n h0 hk
    have E := Lib.hid e
    clear e
    go_enter Tryz.func15, Tryz.ntmps15
    go_wp2
    go_ret
    exact ⟨by rw [← E.out]; rfl, Below.refl _ _⟩

theorem entersWithin : Enters Tryz.prog 15 := ⟨Tryz.f15, Tryz.func15, by kernel_rfl, by kernel_rfl⟩

theorem within_told (W0 : World) (a n k : Int) (h0 : 0 < n) (h1 : n ≤ 4611686018427387904) (hk : a % n = k) : AsTold Tryz.prog W0 (15, [.int .i64 a, .int .i64 n], .int .i64 k) := by
  subst hk
  exact told_of_calls entersWithin rfl rfl (fun w => within_calls a n h0 h1 w)

/-! ### the known call -/

theorem known_run : chkS (execF Tryz.prog XS noOv 1000000 (.call 12 []) .leaf 0 (tabTree T6) NG []) = some (true, []) := by kernel_rfl
theorem known_told (W0 : World) (hT : Tabs T6 W0) : AsTold Tryz.prog W0 (12, [], .bool true) :=
  fit.toldS rfl (chk_fast known_run) (fun _ _ _ hx => by cases hx) hT

end Go.Proofs.YtampajokneafhaaGreatDoor
