import Derived.Test.YtmhikbgegdphnaaGreatRows
import Derived.Test.YtmhikbgegdphnaaGreatQAmTC
import Derived.Lib.Hide
namespace Go.Proofs.YtmhikbgegdphnaaGreat
set_option linter.unusedSimpArgs false
set_option linter.unusedVariables false
open Go.Am Go.RowKit
theorem names_ok : (Tryz.prog.funcs.toList.all fun fn => !(fn.name == "runtime.NumGoroutine")) = true := by kernel_rfl
def XS : List Nat := []
theorem fit : Fit Tryz.prog XS := ⟨fun f fn hf => by
    have := List.all_eq_true.1 names_ok fn (by simpa using Array.mem_of_getElem? hf)
    simpa using this,
  fun f _ hf => (by cases hf),
  fun f _ hf => (by cases hf),
  by kernel_rfl,
  Nat.le_of_ble_eq_true (by kernel_rfl),
  fun f hf => (by cases hf)⟩
def noOv : Nat → FuncId → List Value → Option Value := fun _ _ _ => none
noncomputable def T8 : Go.Am.Tables := []
theorem tmod_lt (a n : Int) (h0 : 0 < n) (h : a.tmod n < 0) : a.tmod n + n = a % n := by
  have e : a % n = _ := @Int.emod_eq_tmod a n
  have h3 := Int.emod_nonneg a (by omega : n ≠ 0)
  split at e <;> omega
theorem tmod_ge (a n : Int) (h0 : 0 < n) (h : ¬ a.tmod n < 0) : a.tmod n = a % n := by
  have h1 := Int.tmod_lt_of_pos a h0
  have hd := Int.mul_tdiv_add_tmod a n
  have : a % n = (n * a.tdiv n + a.tmod n) % n := by rw [hd]
  rw [this, Int.mul_add_emod_self_left, Int.emod_eq_of_lt (by omega) h1]
set_option maxHeartbeats 400000 in
theorem within_calls (a n : Int) (h0 : 0 < n) (h1 : n ≤ 4611686018427387904) (w : World) : Calls Tryz.prog 16 #[.int .i64 a, .int .i64 n] w fun e w' => e = .returned (.int .i64 (a % n)) ∧ Below w.heap.size w w' := by
  have g1 := Int.tmod_lt_of_pos a h0
  have g2 := Int.lt_tmod_of_pos a h0
  have hn : (n == 0) = false := by rw [beq_eq_false_iff_ne]; omega
  by_cases hk : a.tmod n < 0
  · have e := tmod_lt a n h0 hk
    have E := Lib.hid e
    clear e
    go_enter Tryz.func16, Tryz.ntmps16
    go_wp2
    go_ret
    exact ⟨by rw [← E.out]; rfl, Below.refl _ _⟩
  · have e := tmod_ge a n h0 hk
    have E := Lib.hid e
    clear e
    go_enter Tryz.func16, Tryz.ntmps16
    go_wp2
    go_ret
    exact ⟨by rw [← E.out]; rfl, Below.refl _ _⟩
theorem entersWithin : Enters Tryz.prog 16 := ⟨Tryz.f16, Tryz.func16, by kernel_rfl, by kernel_rfl⟩
theorem within_told (W0 : World) (a n k : Int) (h0 : 0 < n) (h1 : n ≤ 4611686018427387904) (hk : a % n = k) : AsTold Tryz.prog W0 (16, [.int .i64 a, .int .i64 n], .int .i64 k) := by
  subst hk
  exact told_of_calls entersWithin rfl rfl (fun w => within_calls a n h0 h1 w)
set_option maxHeartbeats 400000 in
theorem within1_calls (a n : Int) (h0 : 0 < n) (h1 : n ≤ 4611686018427387904) (w : World) : Calls Tryz.prog 29 #[.int .i64 a, .int .i64 n] w fun e w' => e = .returned (.int .i64 (a % n)) ∧ Below w.heap.size w w' := by
  have g1 := Int.tmod_lt_of_pos a h0
  have g2 := Int.lt_tmod_of_pos a h0
  have hn : (n == 0) = false := by rw [beq_eq_false_iff_ne]; omega
  by_cases hk : a.tmod n < 0
  · have e := tmod_lt a n h0 hk
    have E := Lib.hid e
    clear e
    go_enter Tryz.func29, Tryz.ntmps29
    go_wp2
    go_ret
    exact ⟨by rw [← E.out]; rfl, Below.refl _ _⟩
  · have e := tmod_ge a n h0 hk
    have E := Lib.hid e
    clear e
    go_enter Tryz.func29, Tryz.ntmps29
    go_wp2
    go_ret
    exact ⟨by rw [← E.out]; rfl, Below.refl _ _⟩
theorem entersWithin1 : Enters Tryz.prog 29 := ⟨Tryz.f29, Tryz.func29, by kernel_rfl, by kernel_rfl⟩
theorem within1_told (W0 : World) (a n k : Int) (h0 : 0 < n) (h1 : n ≤ 4611686018427387904) (hk : a % n = k) : AsTold Tryz.prog W0 (29, [.int .i64 a, .int .i64 n], .int .i64 k) := by
  subst hk
  exact told_of_calls entersWithin1 rfl rfl (fun w => within1_calls a n h0 h1 w)
theorem known_run : chkS (execF Tryz.prog XS noOv 1000000 (.call 12 []) .leaf 0 (tabTree T8) NG []) = some (true, []) := by kernel_rfl
theorem known_told (W0 : World) (hT : Tabs T8 W0) : AsTold Tryz.prog W0 (12, [], .bool true) :=
  fit.toldS rfl (chk_fast known_run) (fun _ _ _ hx => by cases hx) hT
end Go.Proofs.YtmhikbgegdphnaaGreat
