/-
  What is asked of the program once, by the fast machine: names, its table, the place of a byte, remainders, and the eighth chapter's known call.
-/
import Derived.Test.YtnaaiejphofhpaaDoorRows
import Derived.Test.YtnaaiejphofhpaaDoorAmTC
import Derived.Lib.Hide
namespace Go.Proofs.YtnaaiejphofhpaaDoor
set_option linter.unusedSimpArgs false
set_option linter.unusedVariables false
open Go.Am Go.RowKit

theorem names_ok : (Tryd.prog.funcs.toList.all fun fn => !(fn.name == "runtime.NumGoroutine")) = true := by kernel_rfl
theorem extNoEscape : IdExt Tryd.prog 57 := by
  intro x w
  have h : Tryd.prog.funcs[57]? = some Tryd.f57 := Tryd.func57
  simp only [callFunc, Sem.run_bind, run_program, Result.andThen_ok, h]
  rfl
theorem idxEntry : IdxExt Tryd.prog 96 := by
  intro s c w
  rw [run_callFunc_extern Tryd.func96 (by kernel_rfl) (by kernel_rfl) (by kernel_rfl) (e := Extern.BytealgIndexByte.indexByte) (by kernel_rfl), Lib.run_indexByteString]
  rfl

/-- The entries that are met: one passed through, one that tells the place of a byte. -/
def XS : List Nat := [57, 1500000000 + 96]

theorem XS_mem {f : Nat} (h : XS.contains f = true) : f = 57 ∨ f = 1500000000 + 96 := by
  simpa [XS] using h

theorem fit : Fit Tryd.prog XS := ⟨fun f fn hf => by
    have := List.all_eq_true.1 names_ok fn (by simpa using Array.mem_of_getElem? hf)
    simpa using this,
  fun f hl hf => by
    have hl' : f < 1500000000 := hl
    rcases XS_mem hf with e | e
    · subst e; exact extNoEscape
    · exfalso; omega,
  fun f hl hf => by
    have hl' : f < 1500000000 := hl
    have hf' : XS.contains (1500000000 + f) = true := hf
    rcases XS_mem hf' with e | e
    · exfalso; omega
    · have : f = 96 := by omega
      subst this; exact idxEntry,
  by kernel_rfl,
  Nat.le_of_ble_eq_true (by kernel_rfl),
  fun f hf => by
    show f < 2000000000
    rcases XS_mem hf with e | e <;> omega⟩

def noCk : FuncId × List Value × Value → Bool := fun _ => false
def noOv : Nat → FuncId → List Value → Option Value := fun _ _ _ => none

/-- No table is read. -/
noncomputable def T8 : Go.Am.Tables := []

/-! ### remainders -/

theorem tmod_lt (a n : Int) (h0 : 0 < n) (h : a.tmod n < 0) : a.tmod n + n = a % n := by
  have e : a % n = _ := @Int.emod_eq_tmod a n
  have h3 := Int.emod_nonneg a (by omega : n ≠ 0)
  split at e <;> omega

theorem tmod_ge (a n : Int) (h0 : 0 < n) (h : ¬ a.tmod n < 0) : a.tmod n = a % n := by
  have h1 := Int.tmod_lt_of_pos a h0
  have hd := Int.mul_tdiv_add_tmod a n
  have : a % n = (n * a.tdiv n + a.tmod n) % n := by rw [hd]
  rw [this, Int.mul_add_emod_self_left, Int.emod_eq_of_lt (by omega) h1]

set_option maxHeartbeats 400000 in
theorem within_calls (a n : Int) (h0 : 0 < n) (h1 : n ≤ 4611686018427387904) (w : World) : Calls Tryd.prog 7 #[.int .i64 a, .int .i64 n] w fun e w' => e = .returned (.int .i64 (a % n)) ∧ Below w.heap.size w w' := by
  have g1 := Int.tmod_lt_of_pos a h0
  have g2 := Int.lt_tmod_of_pos a h0
  have hn : (n == 0) = false := by rw [beq_eq_false_iff_ne]; omega
  by_cases hk : a.tmod n < 0
  · have e := tmod_lt a n h0 hk
    have E := Lib.hid e
    clear e
    go_enter Tryd.func7, Tryd.ntmps7
    go_wp2
    go_ret
    exact ⟨by rw [← E.out]; rfl, Below.refl _ _⟩
  · have e := tmod_ge a n h0 hk
    have E := Lib.hid e
    clear e
    go_enter Tryd.func7, Tryd.ntmps7
    go_wp2
    go_ret
    exact ⟨by rw [← E.out]; rfl, Below.refl _ _⟩

theorem entersWithin : Enters Tryd.prog 7 := ⟨Tryd.f7, Tryd.func7, by kernel_rfl, by kernel_rfl⟩

theorem within_told (W0 : World) (a n k : Int) (h0 : 0 < n) (h1 : n ≤ 4611686018427387904) (hk : a % n = k) : AsTold Tryd.prog W0 (7, [.int .i64 a, .int .i64 n], .int .i64 k) := by
  subst hk
  exact told_of_calls entersWithin rfl rfl (fun w => within_calls a n h0 h1 w)

/-! ### the known call -/

theorem known_run : chkS (execF Tryd.prog XS noOv 1000000 (.call 6 []) .leaf 0 (tabTree T8) NG []) = some (true, []) := by kernel_rfl
theorem known_told (W0 : World) (hT : Tabs T8 W0) : AsTold Tryd.prog W0 (6, [], .bool true) :=
  fit.toldS rfl (chk_fast known_run) (fun _ _ _ hx => by cases hx) hT

end Go.Proofs.YtnaaiejphofhpaaDoor
