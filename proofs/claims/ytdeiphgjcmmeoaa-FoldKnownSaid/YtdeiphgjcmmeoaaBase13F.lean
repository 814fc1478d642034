/-
  What is asked of the program once, by the fast machine: names, remainders, and the thirteenth chapter's known call.
-/
import Derived.Test.YtdeiphgjcmmeoaaRows
import Derived.Test.YtdeiphgjcmmeoaaAmTC
import Derived.Lib.Hide
namespace Go.Proofs.Ytdeiphgjcmmeoaa
set_option linter.unusedSimpArgs false
set_option linter.unusedVariables false
open Go.Am Go.RowKit

theorem names_ok : (Try.prog.funcs.toList.all fun fn => !(fn.name == "runtime.NumGoroutine")) = true := by kernel_rfl
/-- No entry is met. -/
def XS : List Nat := []

theorem fit : Fit Try.prog XS := ⟨fun f fn hf => by
    have := List.all_eq_true.1 names_ok fn (by simpa using Array.mem_of_getElem? hf)
    simpa using this,
  fun f _ hf => (by cases hf),
  fun f _ hf => (by cases hf),
  by kernel_rfl,
  Nat.le_of_ble_eq_true (by kernel_rfl),
  fun f hf => (by cases hf)⟩

def noCk : FuncId × List Value × Value → Bool := fun _ => false
def noOv : Nat → FuncId → List Value → Option Value := fun _ _ _ => none

/-- No table is read. -/
noncomputable def T8 : Go.Am.Tables := []

/-! ### remainders -/

theorem tmod_lt (a n : Int) (h0 : 0 < n) (h : a.tmod n < 0) : a.tmod n + n = a % n := by
  have e : a % n = _ := @Int.emod_eq_tmod a n
  have h3 := Int.emod_nonneg a (by omega : n ≠ 0)
  split at e <;> omega

theorem tmod_ge (a n : Int) (h0 : 0 < n) (h : ¬ a.tmod n < 0) : a.tmod n = a % n := by
  have h1 := Int.tmod_lt_of_pos a h0
  have hd := Int.mul_tdiv_add_tmod a n
  have : a % n = (n * a.tdiv n + a.tmod n) % n := by rw [hd]
  rw [this, Int.mul_add_emod_self_left, Int.emod_eq_of_lt (by omega) h1]

set_option maxHeartbeats 400000 in
theorem within_calls (a n : Int) (h0 : 0 < n) (h1 : n ≤ 4611686018427387904) (w : World) : Calls Try.prog 13 #[.int .i64 a, .int .i64 n] w fun e w' => e = .returned (.int .i64 (a % n)) ∧ BelD w.heap.size w w' := by
  have g1 := Int.tmod_lt_of_pos a h0
  have g2 := Int.lt_tmod_of_pos a h0
  have hn : (n == 0) = false := by rw [beq_eq_false_iff_ne]; omega
  by_cases hk : a.tmod n < 0
  · have e := tmod_lt a n h0 hk
    have E := Lib.hid e
    clear e
    go_enter Try.func13, Try.ntmps13
    go_wp2
    go_ret
    exact ⟨by rw [← E.out]; rfl, BelD.refl _ _⟩
  · have e := tmod_ge a n h0 hk
    have E := Lib.hid e
    clear e
    go_enter Try.func13, Try.ntmps13
    go_wp2
    go_ret
    exact ⟨by rw [← E.out]; rfl, BelD.refl _ _⟩

theorem entersWithin : Enters Try.prog 13 := ⟨Try.f13, Try.func13, by kernel_rfl, by kernel_rfl⟩

theorem within_told (W0 : World) (a n k : Int) (h0 : 0 < n) (h1 : n ≤ 4611686018427387904) (hk : a % n = k) : AsTold Try.prog W0 (13, [.int .i64 a, .int .i64 n], .int .i64 k) := by
  subst hk
  exact told_of_calls entersWithin rfl rfl (fun w => within_calls a n h0 h1 w)

/-! ### the known call -/

theorem known_run : (chkS (execF Try.prog XS noOv 1000000 (.call 11 []) .leaf 0 (tabTree T8) NG [])) = some (true, []) := by kernel_rfl
theorem known_told (W0 : World) (hT : Tabs T8 W0) : AsTold Try.prog W0 (11, [], .bool true) :=
  fit.toldS rfl (chk_fast known_run) (fun _ _ _ hx => by cases hx) hT

end Go.Proofs.Ytdeiphgjcmmeoaa
