/-
  SchemaModels HOLDS: whatever numbers come in, the call answers true; the arguments read as they did; the listed tables start as the program's text lays them (the card ties them).
  Conditions: none beyond the row's own.
-/
import Derived.Test.YtnaaiejphofhpaaDoorSchemaModelsA
import Derived.Test.YtnaaiejphofhpaaDoorSchemaModelsB
import Derived.Test.YtnaaiejphofhpaaDoorSchemaModelsC
import Derived.Test.YtnaaiejphofhpaaDoorSchemaModelsD
import Derived.Test.YtnaaiejphofhpaaDoorSchemaModelsE
import Derived.Test.YtnaaiejphofhpaaDoorSchemaModelsF
import Derived.Test.YtnaaiejphofhpaaDoorSchemaModelsG
import Derived.Test.YtnaaiejphofhpaaDoorSchemaModelsH
import Derived.Test.YtnaaiejphofhpaaDoorSchemaModelsI
import Derived.Test.YtnaaiejphofhpaaDoorCards
import Derived.Test.YtnaaiejphofhpaaDoorTie
import Derived.Test.YtnaaiejphofhpaaDoorAmR
import Derived.LaidMore
import Derived.LaidHandle
import Derived.LaidLaws
import Derived.SevenTiedAt
import Derived.ProofKit
import Derived.OpenShut
import Derived.Lay
import Derived.LaidOnce
import Derived.MakeChecks
namespace Go.Proofs.YtnaaiejphofhpaaDoor.schemaModels
set_option linter.unusedSimpArgs false
set_option linter.unusedVariables false
open Go.ChangeShapes Go.WideShapes Go.ChangeAt Go.Am Go.RowKit

theorem case_k {m : Nat} {o : Nat → FuncId → List Value → Option Value} (a b : Int) (k x : Nat) (hk : a % 15 = k) (hx : b % 6 = x) (w : World) (hT : Tabs T8 w)
    (h : sift noCk (chkS (execF Tryd.prog XS o 1000000 (.call 5 [.int .i64 a, .int .i64 b]) .leaf 0 (tabTree T8) NG [])) = some (true, repA m [(7, [.int .i64 b, .int .i64 6], .int .i64 (.ofNat x)), (7, [.int .i64 a, .int .i64 15], .int .i64 (.ofNat k)), (6, [], .bool true)])) :
    Calls Tryd.prog 5 #[.int .i64 a, .int .i64 b] w fun e w' => e = .returned (.bool true) ∧ Below w.heap.size w w' := by
  refine fit.callsT rfl h w hT (fun x hx => by cases hx) (fun y hy => ?_)
  replace hy := repA_mem m hy
  simp only [List.mem_cons, List.not_mem_nil, or_false] at hy
  rcases hy with rfl | rfl | rfl
  · exact within_told w b 6 _ (by omega) (by omega) hx
  · exact within_told w a 15 _ (by omega) (by omega) hk
  · exact known_told w hT

theorem walk (a b : Int) (w : World) (hT : Tabs T8 w) : Calls Tryd.prog 5 #[.int .i64 a, .int .i64 b] w fun e w' => e = .returned (.bool true) ∧ Below w.heap.size w w' := by
  have h0a := Int.emod_nonneg a (by omega : (15 : Int) ≠ 0)
  have h1a := Int.emod_lt_of_pos a (by omega : (0 : Int) < 15)
  obtain ⟨k, hk⟩ : ∃ k : Nat, a % 15 = k := ⟨(a % 15).toNat, by omega⟩
  have h0b := Int.emod_nonneg b (by omega : (6 : Int) ≠ 0)
  have h1b := Int.emod_lt_of_pos b (by omega : (0 : Int) < 6)
  obtain ⟨x, hx⟩ : ∃ k : Nat, b % 6 = k := ⟨(b % 6).toNat, by omega⟩
  rcases (by omega : k = 0 ∨ k = 1 ∨ k = 2 ∨ k = 3 ∨ k = 4 ∨ k = 5 ∨ k = 6 ∨ k = 7 ∨ k = 8 ∨ k = 9 ∨ k = 10 ∨ k = 11 ∨ k = 12 ∨ k = 13 ∨ k = 14) with rfl | rfl | rfl | rfl | rfl | rfl | rfl | rfl | rfl | rfl | rfl | rfl | rfl | rfl | rfl
  · rcases (by omega : x = 0 ∨ x = 1 ∨ x = 2 ∨ x = 3 ∨ x = 4 ∨ x = 5) with rfl | rfl | rfl | rfl | rfl | rfl
    · exact case_k a b 0 0 hk hx w hT (e0_0 a b)
    · exact case_k a b 0 1 hk hx w hT (e0_1 a b)
    · exact case_k a b 0 2 hk hx w hT (e0_2 a b)
    · exact case_k a b 0 3 hk hx w hT (e0_3 a b)
    · exact case_k a b 0 4 hk hx w hT (e0_4 a b)
    · exact case_k a b 0 5 hk hx w hT (e0_5 a b)
  · rcases (by omega : x = 0 ∨ x = 1 ∨ x = 2 ∨ x = 3 ∨ x = 4 ∨ x = 5) with rfl | rfl | rfl | rfl | rfl | rfl
    · exact case_k a b 1 0 hk hx w hT (e1_0 a b)
    · exact case_k a b 1 1 hk hx w hT (e1_1 a b)
    · exact case_k a b 1 2 hk hx w hT (e1_2 a b)
    · exact case_k a b 1 3 hk hx w hT (e1_3 a b)
    · exact case_k a b 1 4 hk hx w hT (e1_4 a b)
    · exact case_k a b 1 5 hk hx w hT (e1_5 a b)
  · rcases (by omega : x = 0 ∨ x = 1 ∨ x = 2 ∨ x = 3 ∨ x = 4 ∨ x = 5) with rfl | rfl | rfl | rfl | rfl | rfl
    · exact case_k a b 2 0 hk hx w hT (e2_0 a b)
    · exact case_k a b 2 1 hk hx w hT (e2_1 a b)
    · exact case_k a b 2 2 hk hx w hT (e2_2 a b)
    · exact case_k a b 2 3 hk hx w hT (e2_3 a b)
    · exact case_k a b 2 4 hk hx w hT (e2_4 a b)
    · exact case_k a b 2 5 hk hx w hT (e2_5 a b)
  · rcases (by omega : x = 0 ∨ x = 1 ∨ x = 2 ∨ x = 3 ∨ x = 4 ∨ x = 5) with rfl | rfl | rfl | rfl | rfl | rfl
    · exact case_k a b 3 0 hk hx w hT (e3_0 a b)
    · exact case_k a b 3 1 hk hx w hT (e3_1 a b)
    · exact case_k a b 3 2 hk hx w hT (e3_2 a b)
    · exact case_k a b 3 3 hk hx w hT (e3_3 a b)
    · exact case_k a b 3 4 hk hx w hT (e3_4 a b)
    · exact case_k a b 3 5 hk hx w hT (e3_5 a b)
  · rcases (by omega : x = 0 ∨ x = 1 ∨ x = 2 ∨ x = 3 ∨ x = 4 ∨ x = 5) with rfl | rfl | rfl | rfl | rfl | rfl
    · exact case_k a b 4 0 hk hx w hT (e4_0 a b)
    · exact case_k a b 4 1 hk hx w hT (e4_1 a b)
    · exact case_k a b 4 2 hk hx w hT (e4_2 a b)
    · exact case_k a b 4 3 hk hx w hT (e4_3 a b)
    · exact case_k a b 4 4 hk hx w hT (e4_4 a b)
    · exact case_k a b 4 5 hk hx w hT (e4_5 a b)
  · rcases (by omega : x = 0 ∨ x = 1 ∨ x = 2 ∨ x = 3 ∨ x = 4 ∨ x = 5) with rfl | rfl | rfl | rfl | rfl | rfl
    · exact case_k a b 5 0 hk hx w hT (e5_0 a b)
    · exact case_k a b 5 1 hk hx w hT (e5_1 a b)
    · exact case_k a b 5 2 hk hx w hT (e5_2 a b)
    · exact case_k a b 5 3 hk hx w hT (e5_3 a b)
    · exact case_k a b 5 4 hk hx w hT (e5_4 a b)
    · exact case_k a b 5 5 hk hx w hT (e5_5 a b)
  · rcases (by omega : x = 0 ∨ x = 1 ∨ x = 2 ∨ x = 3 ∨ x = 4 ∨ x = 5) with rfl | rfl | rfl | rfl | rfl | rfl
    · exact case_k a b 6 0 hk hx w hT (e6_0 a b)
    · exact case_k a b 6 1 hk hx w hT (e6_1 a b)
    · exact case_k a b 6 2 hk hx w hT (e6_2 a b)
    · exact case_k a b 6 3 hk hx w hT (e6_3 a b)
    · exact case_k a b 6 4 hk hx w hT (e6_4 a b)
    · exact case_k a b 6 5 hk hx w hT (e6_5 a b)
  · rcases (by omega : x = 0 ∨ x = 1 ∨ x = 2 ∨ x = 3 ∨ x = 4 ∨ x = 5) with rfl | rfl | rfl | rfl | rfl | rfl
    · exact case_k a b 7 0 hk hx w hT (e7_0 a b)
    · exact case_k a b 7 1 hk hx w hT (e7_1 a b)
    · exact case_k a b 7 2 hk hx w hT (e7_2 a b)
    · exact case_k a b 7 3 hk hx w hT (e7_3 a b)
    · exact case_k a b 7 4 hk hx w hT (e7_4 a b)
    · exact case_k a b 7 5 hk hx w hT (e7_5 a b)
  · rcases (by omega : x = 0 ∨ x = 1 ∨ x = 2 ∨ x = 3 ∨ x = 4 ∨ x = 5) with rfl | rfl | rfl | rfl | rfl | rfl
    · exact case_k a b 8 0 hk hx w hT (e8_0 a b)
    · exact case_k a b 8 1 hk hx w hT (e8_1 a b)
    · exact case_k a b 8 2 hk hx w hT (e8_2 a b)
    · exact case_k a b 8 3 hk hx w hT (e8_3 a b)
    · exact case_k a b 8 4 hk hx w hT (e8_4 a b)
    · exact case_k a b 8 5 hk hx w hT (e8_5 a b)
  · rcases (by omega : x = 0 ∨ x = 1 ∨ x = 2 ∨ x = 3 ∨ x = 4 ∨ x = 5) with rfl | rfl | rfl | rfl | rfl | rfl
    · exact case_k a b 9 0 hk hx w hT (e9_0 a b)
    · exact case_k a b 9 1 hk hx w hT (e9_1 a b)
    · exact case_k a b 9 2 hk hx w hT (e9_2 a b)
    · exact case_k a b 9 3 hk hx w hT (e9_3 a b)
    · exact case_k a b 9 4 hk hx w hT (e9_4 a b)
    · exact case_k a b 9 5 hk hx w hT (e9_5 a b)
  · rcases (by omega : x = 0 ∨ x = 1 ∨ x = 2 ∨ x = 3 ∨ x = 4 ∨ x = 5) with rfl | rfl | rfl | rfl | rfl | rfl
    · exact case_k a b 10 0 hk hx w hT (e10_0 a b)
    · exact case_k a b 10 1 hk hx w hT (e10_1 a b)
    · exact case_k a b 10 2 hk hx w hT (e10_2 a b)
    · exact case_k a b 10 3 hk hx w hT (e10_3 a b)
    · exact case_k a b 10 4 hk hx w hT (e10_4 a b)
    · exact case_k a b 10 5 hk hx w hT (e10_5 a b)
  · rcases (by omega : x = 0 ∨ x = 1 ∨ x = 2 ∨ x = 3 ∨ x = 4 ∨ x = 5) with rfl | rfl | rfl | rfl | rfl | rfl
    · exact case_k a b 11 0 hk hx w hT (e11_0 a b)
    · exact case_k a b 11 1 hk hx w hT (e11_1 a b)
    · exact case_k a b 11 2 hk hx w hT (e11_2 a b)
    · exact case_k a b 11 3 hk hx w hT (e11_3 a b)
    · exact case_k a b 11 4 hk hx w hT (e11_4 a b)
    · exact case_k a b 11 5 hk hx w hT (e11_5 a b)
  · rcases (by omega : x = 0 ∨ x = 1 ∨ x = 2 ∨ x = 3 ∨ x = 4 ∨ x = 5) with rfl | rfl | rfl | rfl | rfl | rfl
    · exact case_k a b 12 0 hk hx w hT (e12_0 a b)
    · exact case_k a b 12 1 hk hx w hT (e12_1 a b)
    · exact case_k a b 12 2 hk hx w hT (e12_2 a b)
    · exact case_k a b 12 3 hk hx w hT (e12_3 a b)
    · exact case_k a b 12 4 hk hx w hT (e12_4 a b)
    · exact case_k a b 12 5 hk hx w hT (e12_5 a b)
  · rcases (by omega : x = 0 ∨ x = 1 ∨ x = 2 ∨ x = 3 ∨ x = 4 ∨ x = 5) with rfl | rfl | rfl | rfl | rfl | rfl
    · exact case_k a b 13 0 hk hx w hT (e13_0 a b)
    · exact case_k a b 13 1 hk hx w hT (e13_1 a b)
    · exact case_k a b 13 2 hk hx w hT (e13_2 a b)
    · exact case_k a b 13 3 hk hx w hT (e13_3 a b)
    · exact case_k a b 13 4 hk hx w hT (e13_4 a b)
    · exact case_k a b 13 5 hk hx w hT (e13_5 a b)
  · rcases (by omega : x = 0 ∨ x = 1 ∨ x = 2 ∨ x = 3 ∨ x = 4 ∨ x = 5) with rfl | rfl | rfl | rfl | rfl | rfl
    · exact case_k a b 14 0 hk hx w hT (e14_0 a b)
    · exact case_k a b 14 1 hk hx w hT (e14_1 a b)
    · exact case_k a b 14 2 hk hx w hT (e14_2 a b)
    · exact case_k a b 14 3 hk hx w hT (e14_3 a b)
    · exact case_k a b 14 4 hk hx w hT (e14_4 a b)
    · exact case_k a b 14 5 hk hx w hT (e14_5 a b)

theorem own : ownKnob Tryd.prog.godebug = none := by kernel_rfl
theorem laidOut : laidOutB Tryd.prog = true := by kernel_rfl

set_option maxRecDepth 100000 in
theorem lifted (os : Os) (started : os.Started) (H : Type) (enc : TypeId × Value → H) :
    ReturnsInHanded {} Tryd.checked os 5 .any (fun w args => (Rows.schemaModelsSpec.pre enc Tryd.prog Tryd.f5 [] false w args ∧ laidMetH Tryd.prog [("unicode/utf8.acceptRanges", Rows.laid_unicode_utf8_acceptRanges), ("unicode/utf8.first", Rows.laid_unicode_utf8_first)] w) ∧ sizedMet enc Tryd.prog Tryd.f5 (OpenSpec.ofChange Rows.schemaModelsSpec) false w args)
      (Rows.schemaModelsSpec.post enc Tryd.prog Tryd.f5 false true false false) := by
  refine returnsInHanded_of_change_and (C := Tryd.checked) (X := fun w _ => laidMetH Tryd.prog [("unicode/utf8.acceptRanges", Rows.laid_unicode_utf8_acceptRanges), ("unicode/utf8.first", Rows.laid_unicode_utf8_first)] w) (fun _ _ _ hh h => h.of_heap hh) own started (by kernel_rfl) Tryd.func5
    (ChangeSpec.witness_shaped (enc := enc) (C := Tryd.checked) (os := os) (X := fun w _ => laidMetH Tryd.prog [("unicode/utf8.acceptRanges", Rows.laid_unicode_utf8_acceptRanges), ("unicode/utf8.first", Rows.laid_unicode_utf8_first)] w) false (World.laidAll Tryd.prog os [("unicode/utf8.acceptRanges", Rows.laid_unicode_utf8_acceptRanges), ("unicode/utf8.first", Rows.laid_unicode_utf8_first)]) #[.int .i64 0, .int .i64 0] 8 (World.laidAll_os _ _ _) (World.shaped_of_ZipB (by kernel_rfl) (by kernel_rfl)) (by kernel_rfl) (by kernel_rfl) (by kernel_rfl)
      (by rw [MakeChecks.laidMetH_plain _ _ _ (by kernel_rfl)]; exact laidMet_laidAll _ (by kernel_rfl) (by kernel_rfl))) ?_
  intro W base args ds gs before hval0 hW _ _ hL _
  have hval : ∀ (j : Nat) t v, Tryd.f5.params[j]? = some t → args[j]? = some v → Value.okWide Tryd.prog W .any base t v := hval0
  have hW' := hW
  obtain ⟨p, q, hA0, hV, rfl, _, _⟩ := hW
  have hA : DataW.TrodAll enc Tryd.prog W 0 (fun _ => true) true Tryd.f5.params.toList args.toList ds p := hA0
  rw [Tryd.params5] at hA hval
  obtain ⟨v0, vs0, d0, ds0, p0, q0, hargs, rfl, rfl, h0, r0⟩ := trodAll_cons hA
  obtain ⟨v1, vs1, d1, ds1, p1, q1, rfl, rfl, rfl, h1, r1⟩ := trodAll_cons r0
  obtain ⟨rfl, rfl, rfl⟩ := trodAll_nil r1
  obtain rfl : args = #[v0, v1] := by cases args; simp_all
  obtain ⟨rfl, rfl⟩ := trodVars_none hV
  obtain ⟨a0, rfl, rfl, rfl, _⟩ := open_int Tryd.underlying3 (hval 0 3 v0 rfl rfl) h0
  obtain ⟨a1, rfl, rfl, rfl, _⟩ := open_int Tryd.underlying3 (hval 1 3 v1 rfl rfl) h1
  clear hA0 hval0
  refine (walk a0 a1 W Tabs.nil).mono fun e W' ⟨he, hg⟩ => ?_
  subst he
  exact ⟨_, rfl, law_post laidOut (by kernel_rfl) rfl Tryd.underlying4 rfl hW' rfl hg⟩

theorem over : Rows.schemaModelsRow.holds Tryd.pinned (OpenSpec.ofChange Rows.schemaModelsSpec) :=
  OpenClaim.holds_of_wide 5 Tryd.f5 rfl rfl rfl rfl rfl rfl rfl ⟨rfl, rfl, rfl, rfl, rfl⟩ rfl rfl rfl rfl rfl (by kernel_rfl) Tryd.func5 (by kernel_rfl)
    (of_decide_eq_true (by kernel_rfl)) (by unfold Func.isWrapper; first | (rw [if_pos (by decide +kernel)]; kernel_rfl) | (rw [if_neg (by decide +kernel)]; exact ⟨rfl, rfl⟩))
    (fun os started H enc _ => lifted os started H enc)

/-- THE CARD. -/
theorem proved : Rows.SchemaModelsCardSaid :=
  Claim7.holds_tied_plain_at .later [] [.data, .pinned] true Rows.schemaModelsCard.stood.harness false
    over (fun _ h => by cases h) (by kernel_rfl) (fun _ h => by cases h) schemaModels_row_tie rfl ⟨rfl, rfl⟩ (by kernel_rfl) rfl
    (fun f fn hf hfn => by
      obtain rfl : f = 5 := Option.some.inj ((show Tryd.prog.funcNamed "canopy/canopylaw8.SchemaModels" = some 5 by kernel_rfl).symm.trans hf) |>.symm
      obtain rfl : fn = Tryd.f5 := (Option.some.inj (Tryd.func5.symm.trans hfn)).symm
      exact ⟨by kernel_rfl, fun j t ht => by
        rw [Tryd.params5] at ht
        have h3 : t = 3 := by
          rcases j with _ | _ | j
          · simpa using ht.symm
          · simpa using ht.symm
          · simp at ht
        subst h3
        exact (show Tryd.prog.wantsStandIn 3 = false by kernel_rfl)⟩)
    (by kernel_rfl)
#print axioms proved

end Go.Proofs.YtnaaiejphofhpaaDoor.schemaModels
