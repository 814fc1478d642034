/-
  FoldKnown HOLDS: whatever number comes in, the call answers true; the argument reads as it did; no variable is listed.
  Conditions: none beyond the row's own.
-/
import Derived.Test.YtdeiphgjcmmeoaaFoldKnownA
import Derived.Test.YtdeiphgjcmmeoaaFoldKnownB
import Derived.Test.YtdeiphgjcmmeoaaFoldKnownC
import Derived.Test.YtdeiphgjcmmeoaaFoldKnownD
import Derived.Test.YtdeiphgjcmmeoaaAmR
namespace Go.Proofs.Ytdeiphgjcmmeoaa.foldKnown
set_option linter.unusedSimpArgs false
set_option linter.unusedVariables false
open Go.ChangeShapes Go.WideShapes Go.ChangeAt Go.Am Go.RowKit

theorem case_k {m : Nat} {o : Nat → FuncId → List Value → Option Value} (a : Int) (k : Nat) (hk : a % 4 = k) (w : World) (hT : Tabs T8 w)
    (h : sift noCk (chkS (execF Try.prog XS o 1000000 (.call 3 [.int .i64 a]) .leaf 0 (tabTree T8) NG [])) = some (true, repA m [(13, [.int .i64 a, .int .i64 4], .int .i64 (.ofNat k)), (11, [], .bool true)])) :
    Calls Try.prog 3 #[.int .i64 a] w fun e w' => e = .returned (.bool true) ∧ BelD w.heap.size w w' := by
  refine fit.callsT rfl h w hT (fun x hx => by cases hx) (fun y hy => ?_)
  replace hy := repA_mem m hy
  simp only [List.mem_cons, List.not_mem_nil, or_false] at hy
  rcases hy with rfl | rfl
  · exact within_told w a 4 _ (by omega) (by omega) hk
  · exact known_told w hT

theorem walk (a : Int) (w : World) (hT : Tabs T8 w) : Calls Try.prog 3 #[.int .i64 a] w fun e w' => e = .returned (.bool true) ∧ BelD w.heap.size w w' := by
  have h0a := Int.emod_nonneg a (by omega : (4 : Int) ≠ 0)
  have h1a := Int.emod_lt_of_pos a (by omega : (0 : Int) < 4)
  obtain ⟨k, hk⟩ : ∃ k : Nat, a % 4 = k := ⟨(a % 4).toNat, by omega⟩
  rcases (by omega : k = 0 ∨ k = 1 ∨ k = 2 ∨ k = 3) with rfl | rfl | rfl | rfl
  · exact case_k a 0 hk w hT (e0 a)
  · exact case_k a 1 hk w hT (e1 a)
  · exact case_k a 2 hk w hT (e2 a)
  · exact case_k a 3 hk w hT (e3 a)

theorem own : ownKnob Try.prog.godebug = none := by kernel_rfl
theorem laidOut : laidOutB Try.prog = true := by kernel_rfl

set_option maxRecDepth 100000 in
theorem lifted (os : Os) (started : os.Started) (H : Type) (enc : TypeId × Value → H) :
    ReturnsInHanded {} Try.checked os 3 .any (Rows.foldKnownSpec.pre6 enc Try.prog Try.f3 Rows.foldKnownRow.domain false) (Rows.foldKnownSpec.post enc Try.prog Try.f3 false true false false) := by
  refine returnsInHanded_of_change (C := Try.checked) own started (by kernel_rfl) Try.func3
    (ChangeSpec.witness6 (enc := enc) (C := Try.checked) false ⟨#[], #[.int .i64 0], []⟩ 8 (by kernel_rfl) (by kernel_rfl) (by kernel_rfl) (by kernel_rfl)) ?_
  intro W base args ds gs before hval0 hW _ _
  have hval : ∀ (j : Nat) t v, Try.f3.params[j]? = some t → args[j]? = some v → Value.okWide Try.prog W .any base t v := hval0
  have hW' := hW
  obtain ⟨p, q, hA0, hV, rfl, _, _⟩ := hW
  have hA : DataW.TrodAll enc Try.prog W 0 (fun _ => true) true Try.f3.params.toList args.toList ds p := hA0
  rw [Try.params3] at hA hval
  obtain ⟨v0, vs0, d0, ds0, p0, q0, hargs, rfl, rfl, h0, r0⟩ := trodAll_cons hA
  obtain ⟨rfl, rfl, rfl⟩ := trodAll_nil r0
  obtain rfl : args = #[v0] := by cases args; simp_all
  obtain ⟨rfl, rfl⟩ := trodVars_none hV
  obtain ⟨a0, rfl, rfl, rfl, _⟩ := open_int Try.underlying3 (hval 0 3 v0 rfl rfl) h0
  clear hA0 hval0
  refine (walk a0 W Tabs.nil).mono fun e W' ⟨he, hg⟩ => ?_
  subst he
  exact ⟨_, rfl, law_post laidOut (by kernel_rfl) rfl Try.underlying4 rfl hW' rfl hg⟩

theorem over : Rows.foldKnownRow.holds Try.pinned (OpenSpec.ofChange Rows.foldKnownSpec) :=
  OpenClaim.holds_of_wide 3 Try.f3 rfl rfl rfl rfl rfl rfl rfl ⟨rfl, rfl, rfl, rfl, rfl⟩ rfl rfl rfl rfl rfl (by kernel_rfl) Try.func3 (by kernel_rfl)
    (of_decide_eq_true (by kernel_rfl)) (by unfold Func.isWrapper; first | (rw [if_pos (by decide +kernel)]; kernel_rfl) | (rw [if_neg (by decide +kernel)]; exact ⟨rfl, rfl⟩))
    (fun os started H enc _ => lifted os started H enc)

theorem proved : Rows.FoldKnownSaid := over
#print axioms proved

end Go.Proofs.Ytdeiphgjcmmeoaa.foldKnown
