/-
  The law AutoWhole of chapter 3 holds for every three numbers: a machine that has each rule there may be is whole and has one way alone; without any one of them it is not whole.
-/
import Derived.Test.YtnoakjddgllbfaaGreatAutoWholeK3
import Derived.Test.YtnoakjddgllbfaaGreatAutoWholeK4n0
import Derived.Test.YtnoakjddgllbfaaGreatAutoWholeK4n1
import Derived.Test.YtnoakjddgllbfaaGreatAutoWholeK4n2
import Derived.Test.YtnoakjddgllbfaaGreatAutoWholeK5n0
import Derived.Test.YtnoakjddgllbfaaGreatAutoWholeK5n1
import Derived.Test.YtnoakjddgllbfaaGreatAutoWholeK5n2
import Derived.Test.YtnoakjddgllbfaaGreatAutoWholeK6n0
import Derived.Test.YtnoakjddgllbfaaGreatAutoWholeK6n1
import Derived.Test.YtnoakjddgllbfaaGreatAutoWholeK6n2
import Derived.Test.YtnoakjddgllbfaaGreatAutoWholeK7n0
import Derived.Test.YtnoakjddgllbfaaGreatAutoWholeK7n1
import Derived.Test.YtnoakjddgllbfaaGreatAutoWholeK7n2
import Derived.Test.YtnoakjddgllbfaaGreatAutoWholeR
namespace Go.Proofs.YtnoakjddgllbfaaGreat.autoWhole
set_option linter.unusedSimpArgs false
set_option linter.unusedVariables false
open Go.Am Go.RowKit Go.ChangeShapes Go.WideShapes Go.ChangeAt

theorem allK3 (W0 : World) (n s d : Int) : Done W0 (sK 3 n s d []).st := split W0 n s d (sK 3 n s d []) fun N G D hN hG hD => by
  rcases (by omega : N = 0 ∨ N = 1 ∨ N = 2) with rfl | rfl | rfl <;> rcases (by omega : G = 0 ∨ G = 1) with rfl | rfl <;> rcases (by omega : D = 0 ∨ D = 1 ∨ D = 2) with rfl | rfl | rfl
  · exact rK3000 n s d
  · exact rK3001 n s d
  · exact rK3002 n s d
  · exact rK3010 n s d
  · exact rK3011 n s d
  · exact rK3012 n s d
  · exact rK3100 n s d
  · exact rK3101 n s d
  · exact rK3102 n s d
  · exact rK3110 n s d
  · exact rK3111 n s d
  · exact rK3112 n s d
  · exact rK3200 n s d
  · exact rK3201 n s d
  · exact rK3202 n s d
  · exact rK3210 n s d
  · exact rK3211 n s d
  · exact rK3212 n s d
theorem allK4 (W0 : World) (n s d : Int) : Done W0 (sK 4 n s d []).st := split W0 n s d (sK 4 n s d []) fun N G D hN hG hD => by
  rcases (by omega : N = 0 ∨ N = 1 ∨ N = 2) with rfl | rfl | rfl <;> rcases (by omega : G = 0 ∨ G = 1) with rfl | rfl <;> rcases (by omega : D = 0 ∨ D = 1 ∨ D = 2) with rfl | rfl | rfl
  · exact rK4000 n s d
  · exact rK4001 n s d
  · exact rK4002 n s d
  · exact rK4010 n s d
  · exact rK4011 n s d
  · exact rK4012 n s d
  · exact rK4100 n s d
  · exact rK4101 n s d
  · exact rK4102 n s d
  · exact rK4110 n s d
  · exact rK4111 n s d
  · exact rK4112 n s d
  · exact rK4200 n s d
  · exact rK4201 n s d
  · exact rK4202 n s d
  · exact rK4210 n s d
  · exact rK4211 n s d
  · exact rK4212 n s d
theorem allK5 (W0 : World) (n s d : Int) : Done W0 (sK 5 n s d []).st := split W0 n s d (sK 5 n s d []) fun N G D hN hG hD => by
  rcases (by omega : N = 0 ∨ N = 1 ∨ N = 2) with rfl | rfl | rfl <;> rcases (by omega : G = 0 ∨ G = 1) with rfl | rfl <;> rcases (by omega : D = 0 ∨ D = 1 ∨ D = 2) with rfl | rfl | rfl
  · exact rK5000 n s d
  · exact rK5001 n s d
  · exact rK5002 n s d
  · exact rK5010 n s d
  · exact rK5011 n s d
  · exact rK5012 n s d
  · exact rK5100 n s d
  · exact rK5101 n s d
  · exact rK5102 n s d
  · exact rK5110 n s d
  · exact rK5111 n s d
  · exact rK5112 n s d
  · exact rK5200 n s d
  · exact rK5201 n s d
  · exact rK5202 n s d
  · exact rK5210 n s d
  · exact rK5211 n s d
  · exact rK5212 n s d
theorem allK6 (W0 : World) (n s d : Int) : Done W0 (sK 6 n s d []).st := split W0 n s d (sK 6 n s d []) fun N G D hN hG hD => by
  rcases (by omega : N = 0 ∨ N = 1 ∨ N = 2) with rfl | rfl | rfl <;> rcases (by omega : G = 0 ∨ G = 1) with rfl | rfl <;> rcases (by omega : D = 0 ∨ D = 1 ∨ D = 2) with rfl | rfl | rfl
  · exact rK6000 n s d
  · exact rK6001 n s d
  · exact rK6002 n s d
  · exact rK6010 n s d
  · exact rK6011 n s d
  · exact rK6012 n s d
  · exact rK6100 n s d
  · exact rK6101 n s d
  · exact rK6102 n s d
  · exact rK6110 n s d
  · exact rK6111 n s d
  · exact rK6112 n s d
  · exact rK6200 n s d
  · exact rK6201 n s d
  · exact rK6202 n s d
  · exact rK6210 n s d
  · exact rK6211 n s d
  · exact rK6212 n s d
theorem allK7 (W0 : World) (n s d : Int) : Done W0 (sK 7 n s d []).st := split W0 n s d (sK 7 n s d []) fun N G D hN hG hD => by
  rcases (by omega : N = 0 ∨ N = 1 ∨ N = 2) with rfl | rfl | rfl <;> rcases (by omega : G = 0 ∨ G = 1) with rfl | rfl <;> rcases (by omega : D = 0 ∨ D = 1 ∨ D = 2) with rfl | rfl | rfl
  · exact rK7000 n s d
  · exact rK7001 n s d
  · exact rK7002 n s d
  · exact rK7010 n s d
  · exact rK7011 n s d
  · exact rK7012 n s d
  · exact rK7100 n s d
  · exact rK7101 n s d
  · exact rK7102 n s d
  · exact rK7110 n s d
  · exact rK7111 n s d
  · exact rK7112 n s d
  · exact rK7200 n s d
  · exact rK7201 n s d
  · exact rK7202 n s d
  · exact rK7210 n s d
  · exact rK7211 n s d
  · exact rK7212 n s d
theorem allR (W0 : World) (n s d : Int) : Done W0 (sR n s d []).st := split W0 n s d (sR n s d []) fun N G D hN hG hD => by
  rcases (by omega : N = 0 ∨ N = 1 ∨ N = 2) with rfl | rfl | rfl <;> rcases (by omega : G = 0 ∨ G = 1) with rfl | rfl <;> rcases (by omega : D = 0 ∨ D = 1 ∨ D = 2) with rfl | rfl | rfl
  · exact rR000 n s d
  · exact rR001 n s d
  · exact rR002 n s d
  · exact rR010 n s d
  · exact rR011 n s d
  · exact rR012 n s d
  · exact rR100 n s d
  · exact rR101 n s d
  · exact rR102 n s d
  · exact rR110 n s d
  · exact rR111 n s d
  · exact rR112 n s d
  · exact rR200 n s d
  · exact rR201 n s d
  · exact rR202 n s d
  · exact rR210 n s d
  · exact rR211 n s d
  · exact rR212 n s d

theorem walk (n s d : Int) (w : World) : Calls Tryz.prog 3 #[.int .i64 n, .int .i64 s, .int .i64 d] w fun e w' => e = .returned (.bool true) ∧ Below w.heap.size w w' :=
  fit.calls_of_trip (args := [.int .i64 n, .int .i64 s, .int .i64 d]) rfl Tryz.func3 (by kernel_rfl) (fun W => start W n s d (fun k h1 h2 => by
    rcases (by omega : k = 3 ∨ k = 4 ∨ k = 5 ∨ k = 6 ∨ k = 7) with rfl | rfl | rfl | rfl | rfl
    · exact allK3 W n s d
    · exact allK4 W n s d
    · exact allK5 W n s d
    · exact allK6 W n s d
    · exact allK7 W n s d) (allR W n s d)) w

theorem own : ownKnob Tryz.prog.godebug = none := by kernel_rfl
theorem laidOut : laidOutB Tryz.prog = true := by kernel_rfl

set_option maxRecDepth 100000 in
theorem lifted (os : Os) (started : os.Started) (H : Type) (enc : TypeId × Value → H) :
    ReturnsInHanded {} Tryz.checked os 3 .any (Rows.autoWholeSpec.pre6 enc Tryz.prog Tryz.f3 Rows.autoWholeRow.domain false) (Rows.autoWholeSpec.post enc Tryz.prog Tryz.f3 false true false false) := by
  refine returnsInHanded_of_change (C := Tryz.checked) own started (by kernel_rfl) Tryz.func3
    (ChangeSpec.witness6 (enc := enc) (C := Tryz.checked) false ⟨#[], #[.int .i64 0, .int .i64 0, .int .i64 0], []⟩ 8 (by kernel_rfl) (by kernel_rfl) (by kernel_rfl) (by kernel_rfl)) ?_
  intro W base args ds gs before hval0 hW _ _
  have hval : ∀ (j : Nat) t v, Tryz.f3.params[j]? = some t → args[j]? = some v → Value.okWide Tryz.prog W .any base t v := hval0
  have hW' := hW
  obtain ⟨p, q, hA0, hV, rfl, _, _⟩ := hW
  have hA : DataW.TrodAll enc Tryz.prog W 0 (fun _ => true) true Tryz.f3.params.toList args.toList ds p := hA0
  rw [Tryz.params3] at hA hval
  obtain ⟨v0, vs0, d0, ds0, p0, q0, hargs, rfl, rfl, h0, r0⟩ := trodAll_cons hA
  obtain ⟨v1, vs1, d1, ds1, p1, q1, rfl, rfl, rfl, h1, r1⟩ := trodAll_cons r0
  obtain ⟨v2, vs2, d2, ds2, p2, q2, rfl, rfl, rfl, h2, r2⟩ := trodAll_cons r1
  obtain ⟨rfl, rfl, rfl⟩ := trodAll_nil r2
  obtain rfl : args = #[v0, v1, v2] := by cases args; simp_all
  obtain ⟨rfl, rfl⟩ := trodVars_none hV
  obtain ⟨a0, rfl, rfl, rfl, w0⟩ := open_int Tryz.underlying3 (hval 0 3 v0 rfl rfl) h0
  obtain ⟨a1, rfl, rfl, rfl, w1⟩ := open_int Tryz.underlying3 (hval 1 3 v1 rfl rfl) h1
  obtain ⟨a2, rfl, rfl, rfl, w2⟩ := open_int Tryz.underlying3 (hval 2 3 v2 rfl rfl) h2
  clear hA0 hval0
  refine (walk a0 a1 a2 W).mono fun e W' ⟨he, hg⟩ => ?_
  subst he
  exact ⟨_, rfl, law_post laidOut (by kernel_rfl) rfl Tryz.underlying4 rfl hW' rfl hg⟩

theorem over : Rows.autoWholeRow.holds Tryz.pinned (OpenSpec.ofChange Rows.autoWholeSpec) :=
  OpenClaim.holds_of_wide 3 Tryz.f3 rfl rfl rfl rfl rfl rfl rfl ⟨rfl, rfl, rfl, rfl, rfl⟩ rfl rfl rfl rfl rfl (by kernel_rfl) Tryz.func3 (by kernel_rfl)
    (of_decide_eq_true (by kernel_rfl)) (by unfold Func.isWrapper; first | (rw [if_pos (by decide +kernel)]; kernel_rfl) | (rw [if_neg (by decide +kernel)]; exact ⟨rfl, rfl⟩))
    (fun os started H enc _ => lifted os started H enc)

theorem proved : Rows.AutoWholeSaid := over
#print axioms proved

end Go.Proofs.YtnoakjddgllbfaaGreat.autoWhole
