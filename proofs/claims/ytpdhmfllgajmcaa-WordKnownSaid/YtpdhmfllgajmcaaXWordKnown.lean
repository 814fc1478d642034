/-
  The law WordKnown of chapter 1 holds for every number: each of its twelve texts is refused just where it should be.
-/
import Derived.Test.YtpdhmfllgajmcaaXBase
import Derived.Test.YtpdhmfllgajmcaaAmR
namespace Go.Proofs.Ytpdhmfllgajmcaa.wordKnown
open Go.Am Go.RowKit Go.ChangeShapes Go.WideShapes Go.ChangeAt

def ovK (k : Nat) : FuncId → List Value → Option Value := fun f args =>
  if f = 13 then some (.bool true)
  else if f = 18 then
    match args with
    | [_, .int _ (.ofNat n)] => if n = 12 then some (.int .i64 (.ofNat k)) else none
    | _ => none
  else none

theorem case_k (which : Int) (k : Nat) (hk : which % 12 = k)
    (h : chk (exec Try.prog [48] (ovK k) 1000000 (.call 8 [.int .i64 which]) ⟨.leaf, 0, .leaf, 0, []⟩) = some (true, [(18, [.int .i64 which, .int .i64 12], .int .i64 (.ofNat k)), (13, [], .bool true)])) (w : World) :
    Calls Try.prog 8 #[.int .i64 which] w fun e w' => e = .returned (.bool true) ∧ Below w.heap.size w w' :=
  fit.calls (args := [.int .i64 which]) rfl h (fun W x hx => by
    simp only [List.mem_cons, List.not_mem_nil, or_false] at hx
    rcases hx with rfl | rfl
    · exact within_told W which 12 k (by omega) (by omega) hk
    · exact known_told W) w

theorem f0 (which : Int) : chk (exec Try.prog [48] (ovK 0) 1000000 (.call 8 [.int .i64 which]) ⟨.leaf, 0, .leaf, 0, []⟩) = some (true, [(18, [.int .i64 which, .int .i64 12], .int .i64 (.ofNat 0)), (13, [], .bool true)]) := by kernel_rfl
theorem f1 (which : Int) : chk (exec Try.prog [48] (ovK 1) 1000000 (.call 8 [.int .i64 which]) ⟨.leaf, 0, .leaf, 0, []⟩) = some (true, [(18, [.int .i64 which, .int .i64 12], .int .i64 (.ofNat 1)), (13, [], .bool true)]) := by kernel_rfl
theorem f2 (which : Int) : chk (exec Try.prog [48] (ovK 2) 1000000 (.call 8 [.int .i64 which]) ⟨.leaf, 0, .leaf, 0, []⟩) = some (true, [(18, [.int .i64 which, .int .i64 12], .int .i64 (.ofNat 2)), (13, [], .bool true)]) := by kernel_rfl
theorem f3 (which : Int) : chk (exec Try.prog [48] (ovK 3) 1000000 (.call 8 [.int .i64 which]) ⟨.leaf, 0, .leaf, 0, []⟩) = some (true, [(18, [.int .i64 which, .int .i64 12], .int .i64 (.ofNat 3)), (13, [], .bool true)]) := by kernel_rfl
theorem f4 (which : Int) : chk (exec Try.prog [48] (ovK 4) 1000000 (.call 8 [.int .i64 which]) ⟨.leaf, 0, .leaf, 0, []⟩) = some (true, [(18, [.int .i64 which, .int .i64 12], .int .i64 (.ofNat 4)), (13, [], .bool true)]) := by kernel_rfl
theorem f5 (which : Int) : chk (exec Try.prog [48] (ovK 5) 1000000 (.call 8 [.int .i64 which]) ⟨.leaf, 0, .leaf, 0, []⟩) = some (true, [(18, [.int .i64 which, .int .i64 12], .int .i64 (.ofNat 5)), (13, [], .bool true)]) := by kernel_rfl
theorem f6 (which : Int) : chk (exec Try.prog [48] (ovK 6) 1000000 (.call 8 [.int .i64 which]) ⟨.leaf, 0, .leaf, 0, []⟩) = some (true, [(18, [.int .i64 which, .int .i64 12], .int .i64 (.ofNat 6)), (13, [], .bool true)]) := by kernel_rfl
theorem f7 (which : Int) : chk (exec Try.prog [48] (ovK 7) 1000000 (.call 8 [.int .i64 which]) ⟨.leaf, 0, .leaf, 0, []⟩) = some (true, [(18, [.int .i64 which, .int .i64 12], .int .i64 (.ofNat 7)), (13, [], .bool true)]) := by kernel_rfl
theorem f8 (which : Int) : chk (exec Try.prog [48] (ovK 8) 1000000 (.call 8 [.int .i64 which]) ⟨.leaf, 0, .leaf, 0, []⟩) = some (true, [(18, [.int .i64 which, .int .i64 12], .int .i64 (.ofNat 8)), (13, [], .bool true)]) := by kernel_rfl
theorem f9 (which : Int) : chk (exec Try.prog [48] (ovK 9) 1000000 (.call 8 [.int .i64 which]) ⟨.leaf, 0, .leaf, 0, []⟩) = some (true, [(18, [.int .i64 which, .int .i64 12], .int .i64 (.ofNat 9)), (13, [], .bool true)]) := by kernel_rfl
theorem f10 (which : Int) : chk (exec Try.prog [48] (ovK 10) 1000000 (.call 8 [.int .i64 which]) ⟨.leaf, 0, .leaf, 0, []⟩) = some (true, [(18, [.int .i64 which, .int .i64 12], .int .i64 (.ofNat 10)), (13, [], .bool true)]) := by kernel_rfl
theorem f11 (which : Int) : chk (exec Try.prog [48] (ovK 11) 1000000 (.call 8 [.int .i64 which]) ⟨.leaf, 0, .leaf, 0, []⟩) = some (true, [(18, [.int .i64 which, .int .i64 12], .int .i64 (.ofNat 11)), (13, [], .bool true)]) := by kernel_rfl

theorem walk (which : Int) (w : World) : Calls Try.prog 8 #[.int .i64 which] w fun e w' => e = .returned (.bool true) ∧ Below w.heap.size w w' := by
  have h0 := Int.emod_nonneg which (by omega : (12 : Int) ≠ 0)
  have h1 := Int.emod_lt_of_pos which (by omega : (0 : Int) < 12)
  obtain ⟨k, hk⟩ : ∃ k : Nat, which % 12 = k := ⟨(which % 12).toNat, by omega⟩
  have hlt : k < 12 := by omega
  rcases (by omega : k = 0 ∨ k = 1 ∨ k = 2 ∨ k = 3 ∨ k = 4 ∨ k = 5 ∨ k = 6 ∨ k = 7 ∨ k = 8 ∨ k = 9 ∨ k = 10 ∨ k = 11) with rfl | rfl | rfl | rfl | rfl | rfl | rfl | rfl | rfl | rfl | rfl | rfl
  · exact case_k which 0 hk (f0 which) w
  · exact case_k which 1 hk (f1 which) w
  · exact case_k which 2 hk (f2 which) w
  · exact case_k which 3 hk (f3 which) w
  · exact case_k which 4 hk (f4 which) w
  · exact case_k which 5 hk (f5 which) w
  · exact case_k which 6 hk (f6 which) w
  · exact case_k which 7 hk (f7 which) w
  · exact case_k which 8 hk (f8 which) w
  · exact case_k which 9 hk (f9 which) w
  · exact case_k which 10 hk (f10 which) w
  · exact case_k which 11 hk (f11 which) w

theorem own : ownKnob Try.prog.godebug = none := by kernel_rfl
theorem laidOut : laidOutB Try.prog = true := by kernel_rfl

set_option maxRecDepth 100000 in
theorem lifted (os : Os) (started : os.Started) (H : Type) (enc : TypeId × Value → H) :
    ReturnsInHanded {} Try.checked os 8 .any (Rows.wordKnownSpec.pre6 enc Try.prog Try.f8 Rows.wordKnownRow.domain false) (Rows.wordKnownSpec.post enc Try.prog Try.f8 false true false false) := by
  refine returnsInHanded_of_change (C := Try.checked) own started (by kernel_rfl) Try.func8
    (ChangeSpec.witness6 (enc := enc) (C := Try.checked) false ⟨#[], #[.int .i64 0], []⟩ 8 (by kernel_rfl) (by kernel_rfl) (by kernel_rfl) (by kernel_rfl)) ?_
  intro W base args ds gs before hval0 hW _ _
  have hval : ∀ (j : Nat) t v, Try.f8.params[j]? = some t → args[j]? = some v → Value.okWide Try.prog W .any base t v := hval0
  have hW' := hW
  obtain ⟨p, q, hA0, hV, rfl, _, _⟩ := hW
  have hA : DataW.TrodAll enc Try.prog W 0 (fun _ => true) true Try.f8.params.toList args.toList ds p := hA0
  rw [Try.params8] at hA hval
  obtain ⟨v0, vs0, d0, ds0, p0, q0, hargs, rfl, rfl, h0, r0⟩ := trodAll_cons hA
  obtain ⟨rfl, rfl, rfl⟩ := trodAll_nil r0
  obtain rfl : args = #[v0] := by cases args; simp_all
  obtain ⟨rfl, rfl⟩ := trodVars_none hV
  obtain ⟨a0, rfl, rfl, rfl, _⟩ := open_int Try.underlying3 (hval 0 3 v0 rfl rfl) h0
  clear hA0 hval0
  refine (walk a0 W).mono fun e W' ⟨he, hg⟩ => ?_
  subst he
  exact ⟨_, rfl, law_post laidOut (by kernel_rfl) rfl Try.underlying4 rfl hW' rfl hg⟩

theorem over : Rows.wordKnownRow.holds Try.pinned (OpenSpec.ofChange Rows.wordKnownSpec) :=
  OpenClaim.holds_of_wide 8 Try.f8 rfl rfl rfl rfl rfl rfl rfl ⟨rfl, rfl, rfl, rfl, rfl⟩ rfl rfl rfl rfl rfl (by kernel_rfl) Try.func8 (by kernel_rfl)
    (of_decide_eq_true (by kernel_rfl)) (by unfold Func.isWrapper; first | (rw [if_pos (by decide +kernel)]; kernel_rfl) | (rw [if_neg (by decide +kernel)]; exact ⟨rfl, rfl⟩))
    (fun os started H enc _ => lifted os started H enc)

theorem proved : Rows.WordKnownSaid := over
#print axioms proved

end Go.Proofs.Ytpdhmfllgajmcaa.wordKnown
