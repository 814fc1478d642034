/-
  What is asked of the program once, by the slow machine (few texts): names, remainders, and the second chapter's known call.
-/
import Derived.Test.YtigincejpjajpaaRows
import Derived.Test.YtigincejpjajpaaAmN
import Derived.Lib.Hide
namespace Go.Am
def hdC : Code → Code | .seq a _ => a | c => c
def tlC : Code → Code | .seq _ b => b | c => c
def bodyOf (fn : Func) : Code := match fn.body with | some c => c | none => .skip
end Go.Am
namespace Go.Proofs.Ytigincejpjajpaa
set_option linter.unusedSimpArgs false
set_option linter.unusedVariables false
open Go.Am Go.RowKit

theorem names_ok : (Try.prog.funcs.toList.all fun fn => !(fn.name == "runtime.NumGoroutine")) = true := by kernel_rfl
/-- No entry is met. -/
def XS : List Nat := []

theorem fit : Fit Try.prog XS := ⟨fun f fn hf => by
    have := List.all_eq_true.1 names_ok fn (by simpa using Array.mem_of_getElem? hf)
    simpa using this,
  fun f _ hf => (by cases hf),
  fun f _ hf => (by cases hf),
  by kernel_rfl,
  Nat.le_of_ble_eq_true (by kernel_rfl),
  fun f hf => (by cases hf)⟩

/-! ### remainders -/

theorem tmod_lt (a n : Int) (h0 : 0 < n) (h : a.tmod n < 0) : a.tmod n + n = a % n := by
  have e : a % n = _ := @Int.emod_eq_tmod a n
  have h3 := Int.emod_nonneg a (by omega : n ≠ 0)
  split at e <;> omega

theorem tmod_ge (a n : Int) (h0 : 0 < n) (h : ¬ a.tmod n < 0) : a.tmod n = a % n := by
  have h1 := Int.tmod_lt_of_pos a h0
  have hd := Int.mul_tdiv_add_tmod a n
  have : a % n = (n * a.tdiv n + a.tmod n) % n := by rw [hd]
  rw [this, Int.mul_add_emod_self_left, Int.emod_eq_of_lt (by omega) h1]

set_option maxHeartbeats 400000 in
theorem within_calls (a n : Int) (h0 : 0 < n) (h1 : n ≤ 4611686018427387904) (w : World) : Calls Try.prog 14 #[.int .i64 a, .int .i64 n] w fun e w' => e = .returned (.int .i64 (a % n)) ∧ Below w.heap.size w w' := by
  have g1 := Int.tmod_lt_of_pos a h0
  have g2 := Int.lt_tmod_of_pos a h0
  have hn : (n == 0) = false := by rw [beq_eq_false_iff_ne]; omega
  by_cases hk : a.tmod n < 0
  · have e := tmod_lt a n h0 hk
    have E := Lib.hid e
    clear e
    go_enter Try.func14, Try.ntmps14
    go_wp2
    go_ret
    exact ⟨by rw [← E.out]; rfl, Below.refl _ _⟩
  · have e := tmod_ge a n h0 hk
    have E := Lib.hid e
    clear e
    go_enter Try.func14, Try.ntmps14
    go_wp2
    go_ret
    exact ⟨by rw [← E.out]; rfl, Below.refl _ _⟩

theorem entersWithin : Enters Try.prog 14 := ⟨Try.f14, Try.func14, by kernel_rfl, by kernel_rfl⟩

theorem within_told (W0 : World) (a n k : Int) (h0 : 0 < n) (h1 : n ≤ 4611686018427387904) (hk : a % n = k) : AsTold Try.prog W0 (14, [.int .i64 a, .int .i64 n], .int .i64 k) := by
  subst hk
  exact told_of_calls entersWithin rfl rfl (fun w => within_calls a n h0 h1 w)

/-! ### the known call -/

/-- One outcome of the slow machine, that is true. -/
def chk1 (o : Option Out) : Bool := match o with | some o => (match o.v with | .bool b => b | _ => false) && o.s.asm.isEmpty | none => false

theorem slow_yes {W0 : World} {ov : FuncId → List Value → Option Value} {n : Nat} {f : FuncId} {args : List Value} (h : chk1 (exec Try.prog XS ov n (.call f args) ⟨.leaf, 0, tabTree [], NG, []⟩) = true) :
    Enters Try.prog f ∧ ACalls Try.prog W0 f args NG (tabTree []).get fun v _ _ => v = .bool true := by
  unfold chk1 at h
  cases he : exec Try.prog XS ov n (.call f args) ⟨.leaf, 0, tabTree [], NG, []⟩ with
  | none => rw [he] at h; cases h
  | some out =>
    rw [he] at h
    simp only [Bool.and_eq_true] at h
    obtain ⟨h1, h2⟩ := h
    have hX : ∀ f, XS.contains f = true → IdExt Try.prog f := fun f hf => (by cases hf)
    obtain ⟨a, b⟩ := exec_sound (W0 := W0) fit.names hX fit.mixed n _ _ out he (fun x hx => by rw [List.isEmpty_iff.1 h2] at hx; cases hx)
    have hv : out.v = .bool true := by
      cases hov : out.v <;> simp [hov] at h1
      rw [h1]
    refine ⟨a, fun C w args' hR ha => (b C w args' hR ha).mono ?_⟩
    rintro e w' ⟨v, v', C', nx', H', h3, ⟨e1, _⟩, h4⟩
    exact ⟨v, v', C', nx', H', h3, e1.trans hv, h4⟩

theorem known_run : chk1 (exec Try.prog XS (fun _ _ => none) 1000000 (.call 12 []) ⟨.leaf, 0, tabTree [], NG, []⟩) = true := by kernel_rfl
theorem known_told (W0 : World) : AsTold Try.prog W0 (12, [], .bool true) := by
  refine told_of_callsB (slow_yes (W0 := W0) known_run).1 rfl rfl (fun w hb => ?_)
  refine (calls_of_told rfl w Tabs.nil (slow_yes known_run).2).mono ?_
  rintro e w' ⟨v, v', rfl, rfl, hv, hb⟩
  exact ⟨by rw [hv rfl], hb⟩

end Go.Proofs.Ytigincejpjajpaa
