/-
  The law AutoKnown of chapter 3 holds for every number: of each of its five machines what is left is just so.
-/
import Derived.Test.YtoepjjpinaadeaaGreatBase3
import Derived.Test.YtoepjjpinaadeaaGreatAmR
namespace Go.Proofs.YtoepjjpinaadeaaGreat.autoKnown
open Go.Am Go.RowKit Go.ChangeShapes Go.WideShapes Go.ChangeAt

def ovK (k : Nat) : Nat → FuncId → List Value → Option Value := fun _ f args =>
  if f = 12 then some (.bool true)
  else if f = 16 then
    match args with
    | [_, .int _ (.ofNat n)] => if n = 5 then some (.int .i64 (.ofNat k)) else none
    | _ => none
  else none

theorem case_k (which : Int) (k : Nat) (hk : which % 5 = k)
    (h : chkS (execS Tryz.prog [] (ovK k) 1000000 (.call 7 [.int .i64 which]) ⟨.leaf, 0, .leaf, 0, []⟩) = some (true, [(16, [.int .i64 which, .int .i64 5], .int .i64 (.ofNat k)), (12, [], .bool true)])) (w : World) :
    Calls Tryz.prog 7 #[.int .i64 which] w fun e w' => e = .returned (.bool true) ∧ Below w.heap.size w w' :=
  fit.callsS (args := [.int .i64 which]) rfl h (fun W x hx => by
    simp only [List.mem_cons, List.not_mem_nil, or_false] at hx
    rcases hx with rfl | rfl
    · exact within_told W which 5 k (by omega) (by omega) hk
    · exact known_told W) w

theorem f0 (which : Int) : chkS (execS Tryz.prog [] (ovK 0) 1000000 (.call 7 [.int .i64 which]) ⟨.leaf, 0, .leaf, 0, []⟩) = some (true, [(16, [.int .i64 which, .int .i64 5], .int .i64 (.ofNat 0)), (12, [], .bool true)]) := by kernel_rfl
theorem f1 (which : Int) : chkS (execS Tryz.prog [] (ovK 1) 1000000 (.call 7 [.int .i64 which]) ⟨.leaf, 0, .leaf, 0, []⟩) = some (true, [(16, [.int .i64 which, .int .i64 5], .int .i64 (.ofNat 1)), (12, [], .bool true)]) := by kernel_rfl
theorem f2 (which : Int) : chkS (execS Tryz.prog [] (ovK 2) 1000000 (.call 7 [.int .i64 which]) ⟨.leaf, 0, .leaf, 0, []⟩) = some (true, [(16, [.int .i64 which, .int .i64 5], .int .i64 (.ofNat 2)), (12, [], .bool true)]) := by kernel_rfl
theorem f3 (which : Int) : chkS (execS Tryz.prog [] (ovK 3) 1000000 (.call 7 [.int .i64 which]) ⟨.leaf, 0, .leaf, 0, []⟩) = some (true, [(16, [.int .i64 which, .int .i64 5], .int .i64 (.ofNat 3)), (12, [], .bool true)]) := by kernel_rfl
theorem f4 (which : Int) : chkS (execS Tryz.prog [] (ovK 4) 1000000 (.call 7 [.int .i64 which]) ⟨.leaf, 0, .leaf, 0, []⟩) = some (true, [(16, [.int .i64 which, .int .i64 5], .int .i64 (.ofNat 4)), (12, [], .bool true)]) := by kernel_rfl

theorem walk (which : Int) (w : World) : Calls Tryz.prog 7 #[.int .i64 which] w fun e w' => e = .returned (.bool true) ∧ Below w.heap.size w w' := by
  have h0 := Int.emod_nonneg which (by omega : (5 : Int) ≠ 0)
  have h1 := Int.emod_lt_of_pos which (by omega : (0 : Int) < 5)
  obtain ⟨k, hk⟩ : ∃ k : Nat, which % 5 = k := ⟨(which % 5).toNat, by omega⟩
  have hlt : k < 5 := by omega
  rcases (by omega : k = 0 ∨ k = 1 ∨ k = 2 ∨ k = 3 ∨ k = 4) with rfl | rfl | rfl | rfl | rfl
  · exact case_k which 0 hk (f0 which) w
  · exact case_k which 1 hk (f1 which) w
  · exact case_k which 2 hk (f2 which) w
  · exact case_k which 3 hk (f3 which) w
  · exact case_k which 4 hk (f4 which) w

theorem own : ownKnob Tryz.prog.godebug = none := by kernel_rfl
theorem laidOut : laidOutB Tryz.prog = true := by kernel_rfl

set_option maxRecDepth 100000 in
theorem lifted (os : Os) (started : os.Started) (H : Type) (enc : TypeId × Value → H) :
    ReturnsInHanded {} Tryz.checked os 7 .any (Rows.autoKnownSpec.pre6 enc Tryz.prog Tryz.f7 Rows.autoKnownRow.domain false) (Rows.autoKnownSpec.post enc Tryz.prog Tryz.f7 false true false false) := by
  refine returnsInHanded_of_change (C := Tryz.checked) own started (by kernel_rfl) Tryz.func7
    (ChangeSpec.witness6 (enc := enc) (C := Tryz.checked) false ⟨#[], #[.int .i64 0], []⟩ 8 (by kernel_rfl) (by kernel_rfl) (by kernel_rfl) (by kernel_rfl)) ?_
  intro W base args ds gs before hval0 hW _ _
  have hval : ∀ (j : Nat) t v, Tryz.f7.params[j]? = some t → args[j]? = some v → Value.okWide Tryz.prog W .any base t v := hval0
  have hW' := hW
  obtain ⟨p, q, hA0, hV, rfl, _, _⟩ := hW
  have hA : DataW.TrodAll enc Tryz.prog W 0 (fun _ => true) true Tryz.f7.params.toList args.toList ds p := hA0
  rw [Tryz.params7] at hA hval
  obtain ⟨v0, vs0, d0, ds0, p0, q0, hargs, rfl, rfl, h0, r0⟩ := trodAll_cons hA
  obtain ⟨rfl, rfl, rfl⟩ := trodAll_nil r0
  obtain rfl : args = #[v0] := by cases args; simp_all
  obtain ⟨rfl, rfl⟩ := trodVars_none hV
  obtain ⟨a0, rfl, rfl, rfl, _⟩ := open_int Tryz.underlying3 (hval 0 3 v0 rfl rfl) h0
  clear hA0 hval0
  refine (walk a0 W).mono fun e W' ⟨he, hg⟩ => ?_
  subst he
  exact ⟨_, rfl, law_post laidOut (by kernel_rfl) rfl Tryz.underlying4 rfl hW' rfl hg⟩

theorem over : Rows.autoKnownRow.holds Tryz.pinned (OpenSpec.ofChange Rows.autoKnownSpec) :=
  OpenClaim.holds_of_wide 7 Tryz.f7 rfl rfl rfl rfl rfl rfl rfl ⟨rfl, rfl, rfl, rfl, rfl⟩ rfl rfl rfl rfl rfl (by kernel_rfl) Tryz.func7 (by kernel_rfl)
    (of_decide_eq_true (by kernel_rfl)) (by unfold Func.isWrapper; first | (rw [if_pos (by decide +kernel)]; kernel_rfl) | (rw [if_neg (by decide +kernel)]; exact ⟨rfl, rfl⟩))
    (fun os started H enc _ => lifted os started H enc)

theorem proved : Rows.AutoKnownSaid := over
#print axioms proved

end Go.Proofs.YtoepjjpinaadeaaGreat.autoKnown
