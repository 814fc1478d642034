/-
  The law AutoSingles of chapter 3 holds for every three numbers: rules that are there twice are one way still; one more that leads elsewhere is not.
-/
import Derived.Test.YtnoakjddgllbfaaGreatAutoSingles00
import Derived.Test.YtnoakjddgllbfaaGreatAutoSingles01
import Derived.Test.YtnoakjddgllbfaaGreatAutoSingles10
import Derived.Test.YtnoakjddgllbfaaGreatAutoSingles11
import Derived.Test.YtnoakjddgllbfaaGreatAutoSingles12
import Derived.Test.YtnoakjddgllbfaaGreatAutoSingles20
import Derived.Test.YtnoakjddgllbfaaGreatAutoSingles21
import Derived.Test.YtnoakjddgllbfaaGreatAutoSingles22
import Derived.Test.YtnoakjddgllbfaaGreatAutoSingles23
namespace Go.Proofs.YtnoakjddgllbfaaGreat.autoSingles
set_option linter.unusedSimpArgs false
set_option linter.unusedVariables false
open Go.Am Go.RowKit Go.ChangeShapes Go.WideShapes Go.ChangeAt

theorem walk (s a k : Int) (w : World) : Calls Tryz.prog 4 #[.int .i64 s, .int .i64 a, .int .i64 k] w fun e w' => e = .returned (.bool true) ∧ Below w.heap.size w w' := by
  have a1 := Int.emod_nonneg s (by omega : (3 : Int) ≠ 0)
  have a2 := Int.emod_lt_of_pos s (by omega : (0 : Int) < 3)
  have k1 := Int.emod_nonneg k (by omega : (5 : Int) ≠ 0)
  have k2 := Int.emod_lt_of_pos k (by omega : (0 : Int) < 5)
  obtain ⟨N, hN⟩ : ∃ N : Nat, s % ((3 : Nat) : Int) = N := ⟨(s % 3).toNat, by omega⟩
  obtain ⟨K, hK⟩ : ∃ K : Nat, k % ((5 : Nat) : Int) = K := ⟨(k % 5).toNat, by omega⟩
  have c1 := Int.emod_nonneg a (by omega : ((N + 2 : Nat) : Int) ≠ 0)
  have c2 := Int.emod_lt_of_pos a (by omega : (0 : Int) < ((N + 2 : Nat) : Int))
  obtain ⟨p, hp⟩ : ∃ p : Nat, a % ((N + 2 : Nat) : Int) = p := ⟨(a % ((N + 2 : Nat) : Int)).toNat, by omega⟩
  have hp' : p < N + 2 := by omega
  have hN3 : N < 3 := by omega
  rcases (by omega : N = 0 ∨ N = 1 ∨ N = 2) with rfl | rfl | rfl
  · rcases (by omega : p = 0 ∨ p = 1) with rfl | rfl <;> rcases (by omega : K = 0 ∨ K = 1 ∨ K = 2 ∨ K = 3 ∨ K = 4) with rfl | rfl | rfl | rfl | rfl
    · exact case s a k 0 0 0 hN3 hN hp hK (r000 s a k) w
    · exact case s a k 0 0 1 hN3 hN hp hK (r001 s a k) w
    · exact case s a k 0 0 2 hN3 hN hp hK (r002 s a k) w
    · exact case s a k 0 0 3 hN3 hN hp hK (r003 s a k) w
    · exact case s a k 0 0 4 hN3 hN hp hK (r004 s a k) w
    · exact case s a k 0 1 0 hN3 hN hp hK (r010 s a k) w
    · exact case s a k 0 1 1 hN3 hN hp hK (r011 s a k) w
    · exact case s a k 0 1 2 hN3 hN hp hK (r012 s a k) w
    · exact case s a k 0 1 3 hN3 hN hp hK (r013 s a k) w
    · exact case s a k 0 1 4 hN3 hN hp hK (r014 s a k) w
  · rcases (by omega : p = 0 ∨ p = 1 ∨ p = 2) with rfl | rfl | rfl <;> rcases (by omega : K = 0 ∨ K = 1 ∨ K = 2 ∨ K = 3 ∨ K = 4) with rfl | rfl | rfl | rfl | rfl
    · exact case s a k 1 0 0 hN3 hN hp hK (r100 s a k) w
    · exact case s a k 1 0 1 hN3 hN hp hK (r101 s a k) w
    · exact case s a k 1 0 2 hN3 hN hp hK (r102 s a k) w
    · exact case s a k 1 0 3 hN3 hN hp hK (r103 s a k) w
    · exact case s a k 1 0 4 hN3 hN hp hK (r104 s a k) w
    · exact case s a k 1 1 0 hN3 hN hp hK (r110 s a k) w
    · exact case s a k 1 1 1 hN3 hN hp hK (r111 s a k) w
    · exact case s a k 1 1 2 hN3 hN hp hK (r112 s a k) w
    · exact case s a k 1 1 3 hN3 hN hp hK (r113 s a k) w
    · exact case s a k 1 1 4 hN3 hN hp hK (r114 s a k) w
    · exact case s a k 1 2 0 hN3 hN hp hK (r120 s a k) w
    · exact case s a k 1 2 1 hN3 hN hp hK (r121 s a k) w
    · exact case s a k 1 2 2 hN3 hN hp hK (r122 s a k) w
    · exact case s a k 1 2 3 hN3 hN hp hK (r123 s a k) w
    · exact case s a k 1 2 4 hN3 hN hp hK (r124 s a k) w
  · rcases (by omega : p = 0 ∨ p = 1 ∨ p = 2 ∨ p = 3) with rfl | rfl | rfl | rfl <;> rcases (by omega : K = 0 ∨ K = 1 ∨ K = 2 ∨ K = 3 ∨ K = 4) with rfl | rfl | rfl | rfl | rfl
    · exact case s a k 2 0 0 hN3 hN hp hK (r200 s a k) w
    · exact case s a k 2 0 1 hN3 hN hp hK (r201 s a k) w
    · exact case s a k 2 0 2 hN3 hN hp hK (r202 s a k) w
    · exact case s a k 2 0 3 hN3 hN hp hK (r203 s a k) w
    · exact case s a k 2 0 4 hN3 hN hp hK (r204 s a k) w
    · exact case s a k 2 1 0 hN3 hN hp hK (r210 s a k) w
    · exact case s a k 2 1 1 hN3 hN hp hK (r211 s a k) w
    · exact case s a k 2 1 2 hN3 hN hp hK (r212 s a k) w
    · exact case s a k 2 1 3 hN3 hN hp hK (r213 s a k) w
    · exact case s a k 2 1 4 hN3 hN hp hK (r214 s a k) w
    · exact case s a k 2 2 0 hN3 hN hp hK (r220 s a k) w
    · exact case s a k 2 2 1 hN3 hN hp hK (r221 s a k) w
    · exact case s a k 2 2 2 hN3 hN hp hK (r222 s a k) w
    · exact case s a k 2 2 3 hN3 hN hp hK (r223 s a k) w
    · exact case s a k 2 2 4 hN3 hN hp hK (r224 s a k) w
    · exact case s a k 2 3 0 hN3 hN hp hK (r230 s a k) w
    · exact case s a k 2 3 1 hN3 hN hp hK (r231 s a k) w
    · exact case s a k 2 3 2 hN3 hN hp hK (r232 s a k) w
    · exact case s a k 2 3 3 hN3 hN hp hK (r233 s a k) w
    · exact case s a k 2 3 4 hN3 hN hp hK (r234 s a k) w

theorem own : ownKnob Tryz.prog.godebug = none := by kernel_rfl
theorem laidOut : laidOutB Tryz.prog = true := by kernel_rfl

set_option maxRecDepth 100000 in
theorem lifted (os : Os) (started : os.Started) (H : Type) (enc : TypeId × Value → H) :
    ReturnsInHanded {} Tryz.checked os 4 .any (Rows.autoSinglesSpec.pre6 enc Tryz.prog Tryz.f4 Rows.autoSinglesRow.domain false) (Rows.autoSinglesSpec.post enc Tryz.prog Tryz.f4 false true false false) := by
  refine returnsInHanded_of_change (C := Tryz.checked) own started (by kernel_rfl) Tryz.func4
    (ChangeSpec.witness6 (enc := enc) (C := Tryz.checked) false ⟨#[], #[.int .i64 0, .int .i64 0, .int .i64 0], []⟩ 8 (by kernel_rfl) (by kernel_rfl) (by kernel_rfl) (by kernel_rfl)) ?_
  intro W base args ds gs before hval0 hW _ _
  have hval : ∀ (j : Nat) t v, Tryz.f4.params[j]? = some t → args[j]? = some v → Value.okWide Tryz.prog W .any base t v := hval0
  have hW' := hW
  obtain ⟨p, q, hA0, hV, rfl, _, _⟩ := hW
  have hA : DataW.TrodAll enc Tryz.prog W 0 (fun _ => true) true Tryz.f4.params.toList args.toList ds p := hA0
  rw [Tryz.params4] at hA hval
  obtain ⟨v0, vs0, d0, ds0, p0, q0, hargs, rfl, rfl, h0, r0⟩ := trodAll_cons hA
  obtain ⟨v1, vs1, d1, ds1, p1, q1, rfl, rfl, rfl, h1, r1⟩ := trodAll_cons r0
  obtain ⟨v2, vs2, d2, ds2, p2, q2, rfl, rfl, rfl, h2, r2⟩ := trodAll_cons r1
  obtain ⟨rfl, rfl, rfl⟩ := trodAll_nil r2
  obtain rfl : args = #[v0, v1, v2] := by cases args; simp_all
  obtain ⟨rfl, rfl⟩ := trodVars_none hV
  obtain ⟨a0, rfl, rfl, rfl, w0⟩ := open_int Tryz.underlying3 (hval 0 3 v0 rfl rfl) h0
  obtain ⟨a1, rfl, rfl, rfl, w1⟩ := open_int Tryz.underlying3 (hval 1 3 v1 rfl rfl) h1
  obtain ⟨a2, rfl, rfl, rfl, w2⟩ := open_int Tryz.underlying3 (hval 2 3 v2 rfl rfl) h2
  clear hA0 hval0
  refine (walk a0 a1 a2 W).mono fun e W' ⟨he, hg⟩ => ?_
  subst he
  exact ⟨_, rfl, law_post laidOut (by kernel_rfl) rfl Tryz.underlying4 rfl hW' rfl hg⟩

theorem over : Rows.autoSinglesRow.holds Tryz.pinned (OpenSpec.ofChange Rows.autoSinglesSpec) :=
  OpenClaim.holds_of_wide 4 Tryz.f4 rfl rfl rfl rfl rfl rfl rfl ⟨rfl, rfl, rfl, rfl, rfl⟩ rfl rfl rfl rfl rfl (by kernel_rfl) Tryz.func4 (by kernel_rfl)
    (of_decide_eq_true (by kernel_rfl)) (by unfold Func.isWrapper; first | (rw [if_pos (by decide +kernel)]; kernel_rfl) | (rw [if_neg (by decide +kernel)]; exact ⟨rfl, rfl⟩))
    (fun os started H enc _ => lifted os started H enc)

theorem proved : Rows.AutoSinglesSaid := over
#print axioms proved

end Go.Proofs.YtnoakjddgllbfaaGreat.autoSingles
