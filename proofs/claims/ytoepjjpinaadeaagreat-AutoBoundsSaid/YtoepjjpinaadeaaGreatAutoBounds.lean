/-
  The law AutoBounds of chapter 3 holds for every two numbers: as many states, marks as may be may be; one more may not.
-/
import Derived.Test.YtoepjjpinaadeaaGreatBase3
import Derived.Test.YtoepjjpinaadeaaGreatAmR
namespace Go.Proofs.YtoepjjpinaadeaaGreat.autoBounds
open Go.Am Go.RowKit Go.ChangeShapes Go.WideShapes Go.ChangeAt

def ovB (k g : Nat) : Nat → FuncId → List Value → Option Value := fun i f _ =>
  if f = 12 then some (.bool true)
  else if f = 16 then some (.int .i64 (.ofNat (if i = 1 then k else g)))
  else none

theorem case_kg (a b : Int) (k g : Nat) (hk : a % 5 = k) (hg : b % 5 = g)
    (h : chkS (execS Tryz.prog [] (ovB k g) 1000000 (.call 9 [.int .i64 a, .int .i64 b]) ⟨.leaf, 0, .leaf, 0, []⟩) = some (true, [(16, [.int .i64 b, .int .i64 5], .int .i64 (.ofNat g)), (16, [.int .i64 a, .int .i64 5], .int .i64 (.ofNat k)), (12, [], .bool true)])) (w : World) :
    Calls Tryz.prog 9 #[.int .i64 a, .int .i64 b] w fun e w' => e = .returned (.bool true) ∧ Below w.heap.size w w' :=
  fit.callsS (args := [.int .i64 a, .int .i64 b]) rfl h (fun W x hx => by
    simp only [List.mem_cons, List.not_mem_nil, or_false] at hx
    rcases hx with rfl | rfl | rfl
    · exact within_told W b 5 g (by omega) (by omega) hg
    · exact within_told W a 5 k (by omega) (by omega) hk
    · exact known_told W) w

theorem f00 (a b : Int) : chkS (execS Tryz.prog [] (ovB 0 0) 1000000 (.call 9 [.int .i64 a, .int .i64 b]) ⟨.leaf, 0, .leaf, 0, []⟩) = some (true, [(16, [.int .i64 b, .int .i64 5], .int .i64 (.ofNat 0)), (16, [.int .i64 a, .int .i64 5], .int .i64 (.ofNat 0)), (12, [], .bool true)]) := by kernel_rfl
theorem f01 (a b : Int) : chkS (execS Tryz.prog [] (ovB 0 1) 1000000 (.call 9 [.int .i64 a, .int .i64 b]) ⟨.leaf, 0, .leaf, 0, []⟩) = some (true, [(16, [.int .i64 b, .int .i64 5], .int .i64 (.ofNat 1)), (16, [.int .i64 a, .int .i64 5], .int .i64 (.ofNat 0)), (12, [], .bool true)]) := by kernel_rfl
theorem f02 (a b : Int) : chkS (execS Tryz.prog [] (ovB 0 2) 1000000 (.call 9 [.int .i64 a, .int .i64 b]) ⟨.leaf, 0, .leaf, 0, []⟩) = some (true, [(16, [.int .i64 b, .int .i64 5], .int .i64 (.ofNat 2)), (16, [.int .i64 a, .int .i64 5], .int .i64 (.ofNat 0)), (12, [], .bool true)]) := by kernel_rfl
theorem f03 (a b : Int) : chkS (execS Tryz.prog [] (ovB 0 3) 1000000 (.call 9 [.int .i64 a, .int .i64 b]) ⟨.leaf, 0, .leaf, 0, []⟩) = some (true, [(16, [.int .i64 b, .int .i64 5], .int .i64 (.ofNat 3)), (16, [.int .i64 a, .int .i64 5], .int .i64 (.ofNat 0)), (12, [], .bool true)]) := by kernel_rfl
theorem f04 (a b : Int) : chkS (execS Tryz.prog [] (ovB 0 4) 1000000 (.call 9 [.int .i64 a, .int .i64 b]) ⟨.leaf, 0, .leaf, 0, []⟩) = some (true, [(16, [.int .i64 b, .int .i64 5], .int .i64 (.ofNat 4)), (16, [.int .i64 a, .int .i64 5], .int .i64 (.ofNat 0)), (12, [], .bool true)]) := by kernel_rfl
theorem f10 (a b : Int) : chkS (execS Tryz.prog [] (ovB 1 0) 1000000 (.call 9 [.int .i64 a, .int .i64 b]) ⟨.leaf, 0, .leaf, 0, []⟩) = some (true, [(16, [.int .i64 b, .int .i64 5], .int .i64 (.ofNat 0)), (16, [.int .i64 a, .int .i64 5], .int .i64 (.ofNat 1)), (12, [], .bool true)]) := by kernel_rfl
theorem f11 (a b : Int) : chkS (execS Tryz.prog [] (ovB 1 1) 1000000 (.call 9 [.int .i64 a, .int .i64 b]) ⟨.leaf, 0, .leaf, 0, []⟩) = some (true, [(16, [.int .i64 b, .int .i64 5], .int .i64 (.ofNat 1)), (16, [.int .i64 a, .int .i64 5], .int .i64 (.ofNat 1)), (12, [], .bool true)]) := by kernel_rfl
theorem f12 (a b : Int) : chkS (execS Tryz.prog [] (ovB 1 2) 1000000 (.call 9 [.int .i64 a, .int .i64 b]) ⟨.leaf, 0, .leaf, 0, []⟩) = some (true, [(16, [.int .i64 b, .int .i64 5], .int .i64 (.ofNat 2)), (16, [.int .i64 a, .int .i64 5], .int .i64 (.ofNat 1)), (12, [], .bool true)]) := by kernel_rfl
theorem f13 (a b : Int) : chkS (execS Tryz.prog [] (ovB 1 3) 1000000 (.call 9 [.int .i64 a, .int .i64 b]) ⟨.leaf, 0, .leaf, 0, []⟩) = some (true, [(16, [.int .i64 b, .int .i64 5], .int .i64 (.ofNat 3)), (16, [.int .i64 a, .int .i64 5], .int .i64 (.ofNat 1)), (12, [], .bool true)]) := by kernel_rfl
theorem f14 (a b : Int) : chkS (execS Tryz.prog [] (ovB 1 4) 1000000 (.call 9 [.int .i64 a, .int .i64 b]) ⟨.leaf, 0, .leaf, 0, []⟩) = some (true, [(16, [.int .i64 b, .int .i64 5], .int .i64 (.ofNat 4)), (16, [.int .i64 a, .int .i64 5], .int .i64 (.ofNat 1)), (12, [], .bool true)]) := by kernel_rfl
theorem f20 (a b : Int) : chkS (execS Tryz.prog [] (ovB 2 0) 1000000 (.call 9 [.int .i64 a, .int .i64 b]) ⟨.leaf, 0, .leaf, 0, []⟩) = some (true, [(16, [.int .i64 b, .int .i64 5], .int .i64 (.ofNat 0)), (16, [.int .i64 a, .int .i64 5], .int .i64 (.ofNat 2)), (12, [], .bool true)]) := by kernel_rfl
theorem f21 (a b : Int) : chkS (execS Tryz.prog [] (ovB 2 1) 1000000 (.call 9 [.int .i64 a, .int .i64 b]) ⟨.leaf, 0, .leaf, 0, []⟩) = some (true, [(16, [.int .i64 b, .int .i64 5], .int .i64 (.ofNat 1)), (16, [.int .i64 a, .int .i64 5], .int .i64 (.ofNat 2)), (12, [], .bool true)]) := by kernel_rfl
theorem f22 (a b : Int) : chkS (execS Tryz.prog [] (ovB 2 2) 1000000 (.call 9 [.int .i64 a, .int .i64 b]) ⟨.leaf, 0, .leaf, 0, []⟩) = some (true, [(16, [.int .i64 b, .int .i64 5], .int .i64 (.ofNat 2)), (16, [.int .i64 a, .int .i64 5], .int .i64 (.ofNat 2)), (12, [], .bool true)]) := by kernel_rfl
theorem f23 (a b : Int) : chkS (execS Tryz.prog [] (ovB 2 3) 1000000 (.call 9 [.int .i64 a, .int .i64 b]) ⟨.leaf, 0, .leaf, 0, []⟩) = some (true, [(16, [.int .i64 b, .int .i64 5], .int .i64 (.ofNat 3)), (16, [.int .i64 a, .int .i64 5], .int .i64 (.ofNat 2)), (12, [], .bool true)]) := by kernel_rfl
theorem f24 (a b : Int) : chkS (execS Tryz.prog [] (ovB 2 4) 1000000 (.call 9 [.int .i64 a, .int .i64 b]) ⟨.leaf, 0, .leaf, 0, []⟩) = some (true, [(16, [.int .i64 b, .int .i64 5], .int .i64 (.ofNat 4)), (16, [.int .i64 a, .int .i64 5], .int .i64 (.ofNat 2)), (12, [], .bool true)]) := by kernel_rfl
theorem f30 (a b : Int) : chkS (execS Tryz.prog [] (ovB 3 0) 1000000 (.call 9 [.int .i64 a, .int .i64 b]) ⟨.leaf, 0, .leaf, 0, []⟩) = some (true, [(16, [.int .i64 b, .int .i64 5], .int .i64 (.ofNat 0)), (16, [.int .i64 a, .int .i64 5], .int .i64 (.ofNat 3)), (12, [], .bool true)]) := by kernel_rfl
theorem f31 (a b : Int) : chkS (execS Tryz.prog [] (ovB 3 1) 1000000 (.call 9 [.int .i64 a, .int .i64 b]) ⟨.leaf, 0, .leaf, 0, []⟩) = some (true, [(16, [.int .i64 b, .int .i64 5], .int .i64 (.ofNat 1)), (16, [.int .i64 a, .int .i64 5], .int .i64 (.ofNat 3)), (12, [], .bool true)]) := by kernel_rfl
theorem f32 (a b : Int) : chkS (execS Tryz.prog [] (ovB 3 2) 1000000 (.call 9 [.int .i64 a, .int .i64 b]) ⟨.leaf, 0, .leaf, 0, []⟩) = some (true, [(16, [.int .i64 b, .int .i64 5], .int .i64 (.ofNat 2)), (16, [.int .i64 a, .int .i64 5], .int .i64 (.ofNat 3)), (12, [], .bool true)]) := by kernel_rfl
theorem f33 (a b : Int) : chkS (execS Tryz.prog [] (ovB 3 3) 1000000 (.call 9 [.int .i64 a, .int .i64 b]) ⟨.leaf, 0, .leaf, 0, []⟩) = some (true, [(16, [.int .i64 b, .int .i64 5], .int .i64 (.ofNat 3)), (16, [.int .i64 a, .int .i64 5], .int .i64 (.ofNat 3)), (12, [], .bool true)]) := by kernel_rfl
theorem f34 (a b : Int) : chkS (execS Tryz.prog [] (ovB 3 4) 1000000 (.call 9 [.int .i64 a, .int .i64 b]) ⟨.leaf, 0, .leaf, 0, []⟩) = some (true, [(16, [.int .i64 b, .int .i64 5], .int .i64 (.ofNat 4)), (16, [.int .i64 a, .int .i64 5], .int .i64 (.ofNat 3)), (12, [], .bool true)]) := by kernel_rfl
theorem f40 (a b : Int) : chkS (execS Tryz.prog [] (ovB 4 0) 1000000 (.call 9 [.int .i64 a, .int .i64 b]) ⟨.leaf, 0, .leaf, 0, []⟩) = some (true, [(16, [.int .i64 b, .int .i64 5], .int .i64 (.ofNat 0)), (16, [.int .i64 a, .int .i64 5], .int .i64 (.ofNat 4)), (12, [], .bool true)]) := by kernel_rfl
theorem f41 (a b : Int) : chkS (execS Tryz.prog [] (ovB 4 1) 1000000 (.call 9 [.int .i64 a, .int .i64 b]) ⟨.leaf, 0, .leaf, 0, []⟩) = some (true, [(16, [.int .i64 b, .int .i64 5], .int .i64 (.ofNat 1)), (16, [.int .i64 a, .int .i64 5], .int .i64 (.ofNat 4)), (12, [], .bool true)]) := by kernel_rfl
theorem f42 (a b : Int) : chkS (execS Tryz.prog [] (ovB 4 2) 1000000 (.call 9 [.int .i64 a, .int .i64 b]) ⟨.leaf, 0, .leaf, 0, []⟩) = some (true, [(16, [.int .i64 b, .int .i64 5], .int .i64 (.ofNat 2)), (16, [.int .i64 a, .int .i64 5], .int .i64 (.ofNat 4)), (12, [], .bool true)]) := by kernel_rfl
theorem f43 (a b : Int) : chkS (execS Tryz.prog [] (ovB 4 3) 1000000 (.call 9 [.int .i64 a, .int .i64 b]) ⟨.leaf, 0, .leaf, 0, []⟩) = some (true, [(16, [.int .i64 b, .int .i64 5], .int .i64 (.ofNat 3)), (16, [.int .i64 a, .int .i64 5], .int .i64 (.ofNat 4)), (12, [], .bool true)]) := by kernel_rfl
theorem f44 (a b : Int) : chkS (execS Tryz.prog [] (ovB 4 4) 1000000 (.call 9 [.int .i64 a, .int .i64 b]) ⟨.leaf, 0, .leaf, 0, []⟩) = some (true, [(16, [.int .i64 b, .int .i64 5], .int .i64 (.ofNat 4)), (16, [.int .i64 a, .int .i64 5], .int .i64 (.ofNat 4)), (12, [], .bool true)]) := by kernel_rfl

theorem walk (a b : Int) (w : World) : Calls Tryz.prog 9 #[.int .i64 a, .int .i64 b] w fun e w' => e = .returned (.bool true) ∧ Below w.heap.size w w' := by
  have h0 := Int.emod_nonneg a (by omega : (5 : Int) ≠ 0)
  have h1 := Int.emod_lt_of_pos a (by omega : (0 : Int) < 5)
  have i0 := Int.emod_nonneg b (by omega : (5 : Int) ≠ 0)
  have i1 := Int.emod_lt_of_pos b (by omega : (0 : Int) < 5)
  obtain ⟨k, hk⟩ : ∃ k : Nat, a % 5 = k := ⟨(a % 5).toNat, by omega⟩
  obtain ⟨g, hg⟩ : ∃ g : Nat, b % 5 = g := ⟨(b % 5).toNat, by omega⟩
  rcases (by omega : k = 0 ∨ k = 1 ∨ k = 2 ∨ k = 3 ∨ k = 4) with rfl | rfl | rfl | rfl | rfl <;>
    rcases (by omega : g = 0 ∨ g = 1 ∨ g = 2 ∨ g = 3 ∨ g = 4) with rfl | rfl | rfl | rfl | rfl
  · exact case_kg a b 0 0 hk hg (f00 a b) w
  · exact case_kg a b 0 1 hk hg (f01 a b) w
  · exact case_kg a b 0 2 hk hg (f02 a b) w
  · exact case_kg a b 0 3 hk hg (f03 a b) w
  · exact case_kg a b 0 4 hk hg (f04 a b) w
  · exact case_kg a b 1 0 hk hg (f10 a b) w
  · exact case_kg a b 1 1 hk hg (f11 a b) w
  · exact case_kg a b 1 2 hk hg (f12 a b) w
  · exact case_kg a b 1 3 hk hg (f13 a b) w
  · exact case_kg a b 1 4 hk hg (f14 a b) w
  · exact case_kg a b 2 0 hk hg (f20 a b) w
  · exact case_kg a b 2 1 hk hg (f21 a b) w
  · exact case_kg a b 2 2 hk hg (f22 a b) w
  · exact case_kg a b 2 3 hk hg (f23 a b) w
  · exact case_kg a b 2 4 hk hg (f24 a b) w
  · exact case_kg a b 3 0 hk hg (f30 a b) w
  · exact case_kg a b 3 1 hk hg (f31 a b) w
  · exact case_kg a b 3 2 hk hg (f32 a b) w
  · exact case_kg a b 3 3 hk hg (f33 a b) w
  · exact case_kg a b 3 4 hk hg (f34 a b) w
  · exact case_kg a b 4 0 hk hg (f40 a b) w
  · exact case_kg a b 4 1 hk hg (f41 a b) w
  · exact case_kg a b 4 2 hk hg (f42 a b) w
  · exact case_kg a b 4 3 hk hg (f43 a b) w
  · exact case_kg a b 4 4 hk hg (f44 a b) w

theorem own : ownKnob Tryz.prog.godebug = none := by kernel_rfl
theorem laidOut : laidOutB Tryz.prog = true := by kernel_rfl

set_option maxRecDepth 100000 in
theorem lifted (os : Os) (started : os.Started) (H : Type) (enc : TypeId × Value → H) :
    ReturnsInHanded {} Tryz.checked os 9 .any (Rows.autoBoundsSpec.pre6 enc Tryz.prog Tryz.f9 Rows.autoBoundsRow.domain false) (Rows.autoBoundsSpec.post enc Tryz.prog Tryz.f9 false true false false) := by
  refine returnsInHanded_of_change (C := Tryz.checked) own started (by kernel_rfl) Tryz.func9
    (ChangeSpec.witness6 (enc := enc) (C := Tryz.checked) false ⟨#[], #[.int .i64 0, .int .i64 0], []⟩ 8 (by kernel_rfl) (by kernel_rfl) (by kernel_rfl) (by kernel_rfl)) ?_
  intro W base args ds gs before hval0 hW _ _
  have hval : ∀ (j : Nat) t v, Tryz.f9.params[j]? = some t → args[j]? = some v → Value.okWide Tryz.prog W .any base t v := hval0
  have hW' := hW
  obtain ⟨p, q, hA0, hV, rfl, _, _⟩ := hW
  have hA : DataW.TrodAll enc Tryz.prog W 0 (fun _ => true) true Tryz.f9.params.toList args.toList ds p := hA0
  rw [Tryz.params9] at hA hval
  obtain ⟨v0, vs0, d0, ds0, p0, q0, hargs, rfl, rfl, h0, r0⟩ := trodAll_cons hA
  obtain ⟨v1, vs1, d1, ds1, p1, q1, rfl, rfl, rfl, h1, r1⟩ := trodAll_cons r0
  obtain ⟨rfl, rfl, rfl⟩ := trodAll_nil r1
  obtain rfl : args = #[v0, v1] := by cases args; simp_all
  obtain ⟨rfl, rfl⟩ := trodVars_none hV
  obtain ⟨a0, rfl, rfl, rfl, w0⟩ := open_int Tryz.underlying3 (hval 0 3 v0 rfl rfl) h0
  obtain ⟨a1, rfl, rfl, rfl, w1⟩ := open_int Tryz.underlying3 (hval 1 3 v1 rfl rfl) h1
  clear hA0 hval0
  refine (walk a0 a1 W).mono fun e W' ⟨he, hg⟩ => ?_
  subst he
  exact ⟨_, rfl, law_post laidOut (by kernel_rfl) rfl Tryz.underlying4 rfl hW' rfl hg⟩

theorem over : Rows.autoBoundsRow.holds Tryz.pinned (OpenSpec.ofChange Rows.autoBoundsSpec) :=
  OpenClaim.holds_of_wide 9 Tryz.f9 rfl rfl rfl rfl rfl rfl rfl ⟨rfl, rfl, rfl, rfl, rfl⟩ rfl rfl rfl rfl rfl (by kernel_rfl) Tryz.func9 (by kernel_rfl)
    (of_decide_eq_true (by kernel_rfl)) (by unfold Func.isWrapper; first | (rw [if_pos (by decide +kernel)]; kernel_rfl) | (rw [if_neg (by decide +kernel)]; exact ⟨rfl, rfl⟩))
    (fun os started H enc _ => lifted os started H enc)

theorem proved : Rows.AutoBoundsSaid := over
#print axioms proved

end Go.Proofs.YtoepjjpinaadeaaGreat.autoBounds
