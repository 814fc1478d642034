/-
  ExprDeep HOLDS: whatever two numbers come in, the call answers true; the arguments read as they did; the listed table starts as the program's text lays it (the card ties it).
  Conditions: none beyond the row's own.
-/
import Derived.Test.YtapkonmljbmojaaDoorExprDeepA
import Derived.Test.YtapkonmljbmojaaDoorExprDeepB
import Derived.Test.YtapkonmljbmojaaDoorExprDeepC
import Derived.Test.YtapkonmljbmojaaDoorExprDeepD
import Derived.Test.YtapkonmljbmojaaDoorExprDeepE
import Derived.Test.YtapkonmljbmojaaDoorExprDeepF
import Derived.Test.YtapkonmljbmojaaDoorExprDeepG
import Derived.Test.YtapkonmljbmojaaDoorExprDeepH
import Derived.Test.YtapkonmljbmojaaDoorExprDeepI
import Derived.Test.YtapkonmljbmojaaDoorExprDeepJ
import Derived.Test.YtapkonmljbmojaaDoorCards
import Derived.Test.YtapkonmljbmojaaDoorTie
import Derived.Test.YtapkonmljbmojaaDoorAmR
import Derived.LaidMore
import Derived.LaidHandle
import Derived.LaidLaws
import Derived.SevenTiedAt
import Derived.ProofKit
import Derived.OpenShut
namespace Go.Proofs.YtapkonmljbmojaaDoor.exprDeep
set_option linter.unusedSimpArgs false
set_option linter.unusedVariables false
open Go.ChangeShapes Go.WideShapes Go.ChangeAt Go.Am Go.RowKit

abbrev Done (W0 : World) (c : Code) (s : CSt) : Prop := Trip Tryd.prog W0 c s.st fun x s' => (x = .normal ∨ x = .ret) ∧ ∃ v, aResults Tryd.prog s' Tryd.f5.results = some v ∧ v = .bool true

theorem no_told {W0 : World} : ∀ x ∈ ([] : Asm), AsTold Tryd.prog W0 x := fun x hx => by cases hx

theorem last (W0 : World) (g : Nat → Value) (a b : Int × Int × Int) (ha : a ∈ kinds) (hb : b ∈ stars) : Done W0 c9 (s9 g (.int .i64 a.1) (.int .i64 b.1) a.2.1 a.2.2 b.2.1 b.2.2) :=
  fit.lastF (yes_iff (List.all_eq_true.1 (List.all_eq_true.1 (q9 g) a ha) b hb)) no_told

/-- The second text. -/
theorem second (W0 : World) (g : Nat → Value) (a b : Int × Int × Int) (ha : a ∈ kinds) (hb : b ∈ stars) (V : Value)
    (h : ∀ (g : Nat → Value) (K J : Value) (p e : Int), pickW 94 w8 [] 4000 (execF Tryd.prog XS ovN 1000000 (.code (hdC c8)) (s8 g K J V p e).tt (s8 g K J V p e).n (s8 g K J V p e).ht (s8 g K J V p e).nx (s8 g K J V p e).asm) = some ([.bool false, K, J, .int .i64 p, .int .i64 e, .int .i64 b.2.1, .int .i64 b.2.2], List.map some [], [])) : Done W0 c8 (s8 g (.int .i64 a.1) (.int .i64 b.1) V a.2.1 a.2.2) :=
  fit.pieceG (by kernel_rfl) (h g _ _ _ _) no_told fun g => last W0 g a b ha hb

/-- The first text. -/
theorem first (W0 : World) (g : Nat → Value) (a b : Int × Int × Int) (ha : a ∈ kinds) (hb : b ∈ stars) (U V : Value)
    (h7 : ∀ (g : Nat → Value) (K J V : Value), pickW 94 w7 [0, 16] 2500 (execF Tryd.prog XS ovN 1000000 (.code (hdC c7)) (s5 g K J U V).tt (s5 g K J U V).n (s5 g K J U V).ht (s5 g K J U V).nx (s5 g K J U V).asm) = some ([.bool false, sl, K, J, V, .int .i64 a.2.1, .int .i64 a.2.2], List.map some [o0, o16], []))
    (h : ∀ (g : Nat → Value) (K J : Value) (p e : Int), pickW 94 w8 [] 4000 (execF Tryd.prog XS ovN 1000000 (.code (hdC c8)) (s8 g K J V p e).tt (s8 g K J V p e).n (s8 g K J V p e).ht (s8 g K J V p e).nx (s8 g K J V p e).asm) = some ([.bool false, K, J, .int .i64 p, .int .i64 e, .int .i64 b.2.1, .int .i64 b.2.2], List.map some [], [])) : Done W0 c7 (s5 g (.int .i64 a.1) (.int .i64 b.1) U V) :=
  fit.pieceG (by kernel_rfl) (h7 g _ _ _) no_told fun g => second W0 g a b ha hb V h

theorem walkK (W0 : World) (g : Nat → Value) (a : Int × Int × Int) (ha : a ∈ kinds) (U : Value) (y : Nat) (hy : y < 15)
    (h7 : ∀ (g : Nat → Value) (K J V : Value), pickW 94 w7 [0, 16] 2500 (execF Tryd.prog XS ovN 1000000 (.code (hdC c7)) (s5 g K J U V).tt (s5 g K J U V).n (s5 g K J U V).ht (s5 g K J U V).nx (s5 g K J U V).asm) = some ([.bool false, sl, K, J, V, .int .i64 a.2.1, .int .i64 a.2.2], List.map some [o0, o16], [])) : Done W0 c6 (s5 g (.int .i64 a.1) (.int .i64 (wrapF .i64 (addI 10 ((y : Int))))) U bs) := by
  rcases (by omega : y = 0 ∨ y = 1 ∨ y = 2 ∨ y = 3 ∨ y = 4 ∨ y = 5 ∨ y = 6 ∨ y = 7 ∨ y = 8 ∨ y = 9 ∨ y = 10 ∨ y = 11 ∨ y = 12 ∨ y = 13 ∨ y = 14) with rfl | rfl | rfl | rfl | rfl | rfl | rfl | rfl | rfl | rfl | rfl | rfl | rfl | rfl | rfl
  · exact fit.pieceG (by kernel_rfl) (t10 g _ _) no_told fun g => first W0 g a (10, 0, 0) ha (by decide) U (.string ⟨#[98, 42, 42, 42, 42, 42, 42, 42, 42, 42, 42]⟩) h7 r10
  · exact fit.pieceG (by kernel_rfl) (t11 g _ _) no_told fun g => first W0 g a (11, 0, 0) ha (by decide) U (.string ⟨#[98, 42, 42, 42, 42, 42, 42, 42, 42, 42, 42, 42]⟩) h7 r11
  · exact fit.pieceG (by kernel_rfl) (t12 g _ _) no_told fun g => first W0 g a (12, 0, 0) ha (by decide) U (.string ⟨#[98, 42, 42, 42, 42, 42, 42, 42, 42, 42, 42, 42, 42]⟩) h7 r12
  · exact fit.pieceG (by kernel_rfl) (t13 g _ _) no_told fun g => first W0 g a (13, 0, 0) ha (by decide) U (.string ⟨#[98, 42, 42, 42, 42, 42, 42, 42, 42, 42, 42, 42, 42, 42]⟩) h7 r13
  · exact fit.pieceG (by kernel_rfl) (t14 g _ _) no_told fun g => first W0 g a (14, 0, 0) ha (by decide) U (.string ⟨#[98, 42, 42, 42, 42, 42, 42, 42, 42, 42, 42, 42, 42, 42, 42]⟩) h7 r14
  · exact fit.pieceG (by kernel_rfl) (t15 g _ _) no_told fun g => first W0 g a (15, 0, 0) ha (by decide) U (.string ⟨#[98, 42, 42, 42, 42, 42, 42, 42, 42, 42, 42, 42, 42, 42, 42, 42]⟩) h7 r15
  · exact fit.pieceG (by kernel_rfl) (t16 g _ _) no_told fun g => first W0 g a (16, 0, 0) ha (by decide) U (.string ⟨#[98, 42, 42, 42, 42, 42, 42, 42, 42, 42, 42, 42, 42, 42, 42, 42, 42]⟩) h7 r16
  · exact fit.pieceG (by kernel_rfl) (t17 g _ _) no_told fun g => first W0 g a (17, 0, 0) ha (by decide) U (.string ⟨#[98, 42, 42, 42, 42, 42, 42, 42, 42, 42, 42, 42, 42, 42, 42, 42, 42, 42]⟩) h7 r17
  · exact fit.pieceG (by kernel_rfl) (t18 g _ _) no_told fun g => first W0 g a (18, 0, 0) ha (by decide) U (.string ⟨#[98, 42, 42, 42, 42, 42, 42, 42, 42, 42, 42, 42, 42, 42, 42, 42, 42, 42, 42]⟩) h7 r18
  · exact fit.pieceG (by kernel_rfl) (t19 g _ _) no_told fun g => first W0 g a (19, 0, 0) ha (by decide) U (.string ⟨#[98, 42, 42, 42, 42, 42, 42, 42, 42, 42, 42, 42, 42, 42, 42, 42, 42, 42, 42, 42]⟩) h7 r19
  · exact fit.pieceG (by kernel_rfl) (t20 g _ _) no_told fun g => first W0 g a (20, 0, 3) ha (by decide) U (.string ⟨#[98, 42, 42, 42, 42, 42, 42, 42, 42, 42, 42, 42, 42, 42, 42, 42, 42, 42, 42, 42, 42]⟩) h7 r20
  · exact fit.pieceG (by kernel_rfl) (t21 g _ _) no_told fun g => first W0 g a (21, 0, 3) ha (by decide) U (.string ⟨#[98, 42, 42, 42, 42, 42, 42, 42, 42, 42, 42, 42, 42, 42, 42, 42, 42, 42, 42, 42, 42, 42]⟩) h7 r21
  · exact fit.pieceG (by kernel_rfl) (t22 g _ _) no_told fun g => first W0 g a (22, 0, 3) ha (by decide) U (.string ⟨#[98, 42, 42, 42, 42, 42, 42, 42, 42, 42, 42, 42, 42, 42, 42, 42, 42, 42, 42, 42, 42, 42, 42]⟩) h7 r22
  · exact fit.pieceG (by kernel_rfl) (t23 g _ _) no_told fun g => first W0 g a (23, 0, 3) ha (by decide) U (.string ⟨#[98, 42, 42, 42, 42, 42, 42, 42, 42, 42, 42, 42, 42, 42, 42, 42, 42, 42, 42, 42, 42, 42, 42, 42]⟩) h7 r23
  · exact fit.pieceG (by kernel_rfl) (t24 g _ _) no_told fun g => first W0 g a (24, 0, 3) ha (by decide) U (.string ⟨#[98, 42, 42, 42, 42, 42, 42, 42, 42, 42, 42, 42, 42, 42, 42, 42, 42, 42, 42, 42, 42, 42, 42, 42, 42]⟩) h7 r24

theorem walkJ (W0 : World) (g : Nat → Value) (x y : Nat) (hx : x < 15) (hy : y < 15) : Done W0 c5 (s5 g (.int .i64 (wrapF .i64 (addI 35 ((x : Int))))) (.int .i64 (wrapF .i64 (addI 10 ((y : Int))))) bs bs) := by
  rcases (by omega : x = 0 ∨ x = 1 ∨ x = 2 ∨ x = 3 ∨ x = 4 ∨ x = 5 ∨ x = 6 ∨ x = 7 ∨ x = 8 ∨ x = 9 ∨ x = 10 ∨ x = 11 ∨ x = 12 ∨ x = 13 ∨ x = 14) with rfl | rfl | rfl | rfl | rfl | rfl | rfl | rfl | rfl | rfl | rfl | rfl | rfl | rfl | rfl
  · exact fit.pieceG (by kernel_rfl) (l35 g _) no_told fun g => walkK W0 g (35, 0, 0) (by decide) (.string ⟨#[40, 40, 40, 40, 40, 40, 40, 40, 40, 40, 40, 40, 40, 40, 40, 40, 40, 40, 40, 40, 40, 40, 40, 40, 40, 40, 40, 40, 40, 40, 40, 40, 40, 40, 40, 98, 41, 41, 41, 41, 41, 41, 41, 41, 41, 41, 41, 41, 41, 41, 41, 41, 41, 41, 41, 41, 41, 41, 41, 41, 41, 41, 41, 41, 41, 41, 41, 41, 41, 41, 41]⟩) y hy p35
  · exact fit.pieceG (by kernel_rfl) (l36 g _) no_told fun g => walkK W0 g (36, 0, 0) (by decide) (.string ⟨#[40, 40, 40, 40, 40, 40, 40, 40, 40, 40, 40, 40, 40, 40, 40, 40, 40, 40, 40, 40, 40, 40, 40, 40, 40, 40, 40, 40, 40, 40, 40, 40, 40, 40, 40, 40, 98, 41, 41, 41, 41, 41, 41, 41, 41, 41, 41, 41, 41, 41, 41, 41, 41, 41, 41, 41, 41, 41, 41, 41, 41, 41, 41, 41, 41, 41, 41, 41, 41, 41, 41, 41, 41]⟩) y hy p36
  · exact fit.pieceG (by kernel_rfl) (l37 g _) no_told fun g => walkK W0 g (37, 0, 0) (by decide) (.string ⟨#[40, 40, 40, 40, 40, 40, 40, 40, 40, 40, 40, 40, 40, 40, 40, 40, 40, 40, 40, 40, 40, 40, 40, 40, 40, 40, 40, 40, 40, 40, 40, 40, 40, 40, 40, 40, 40, 98, 41, 41, 41, 41, 41, 41, 41, 41, 41, 41, 41, 41, 41, 41, 41, 41, 41, 41, 41, 41, 41, 41, 41, 41, 41, 41, 41, 41, 41, 41, 41, 41, 41, 41, 41, 41, 41]⟩) y hy p37
  · exact fit.pieceG (by kernel_rfl) (l38 g _) no_told fun g => walkK W0 g (38, 0, 0) (by decide) (.string ⟨#[40, 40, 40, 40, 40, 40, 40, 40, 40, 40, 40, 40, 40, 40, 40, 40, 40, 40, 40, 40, 40, 40, 40, 40, 40, 40, 40, 40, 40, 40, 40, 40, 40, 40, 40, 40, 40, 40, 98, 41, 41, 41, 41, 41, 41, 41, 41, 41, 41, 41, 41, 41, 41, 41, 41, 41, 41, 41, 41, 41, 41, 41, 41, 41, 41, 41, 41, 41, 41, 41, 41, 41, 41, 41, 41, 41, 41]⟩) y hy p38
  · exact fit.pieceG (by kernel_rfl) (l39 g _) no_told fun g => walkK W0 g (39, 0, 0) (by decide) (.string ⟨#[40, 40, 40, 40, 40, 40, 40, 40, 40, 40, 40, 40, 40, 40, 40, 40, 40, 40, 40, 40, 40, 40, 40, 40, 40, 40, 40, 40, 40, 40, 40, 40, 40, 40, 40, 40, 40, 40, 40, 98, 41, 41, 41, 41, 41, 41, 41, 41, 41, 41, 41, 41, 41, 41, 41, 41, 41, 41, 41, 41, 41, 41, 41, 41, 41, 41, 41, 41, 41, 41, 41, 41, 41, 41, 41, 41, 41, 41, 41]⟩) y hy p39
  · exact fit.pieceG (by kernel_rfl) (l40 g _) no_told fun g => walkK W0 g (40, 0, 0) (by decide) (.string ⟨#[40, 40, 40, 40, 40, 40, 40, 40, 40, 40, 40, 40, 40, 40, 40, 40, 40, 40, 40, 40, 40, 40, 40, 40, 40, 40, 40, 40, 40, 40, 40, 40, 40, 40, 40, 40, 40, 40, 40, 40, 98, 41, 41, 41, 41, 41, 41, 41, 41, 41, 41, 41, 41, 41, 41, 41, 41, 41, 41, 41, 41, 41, 41, 41, 41, 41, 41, 41, 41, 41, 41, 41, 41, 41, 41, 41, 41, 41, 41, 41, 41]⟩) y hy p40
  · exact fit.pieceG (by kernel_rfl) (l41 g _) no_told fun g => walkK W0 g (41, 0, 0) (by decide) (.string ⟨#[40, 40, 40, 40, 40, 40, 40, 40, 40, 40, 40, 40, 40, 40, 40, 40, 40, 40, 40, 40, 40, 40, 40, 40, 40, 40, 40, 40, 40, 40, 40, 40, 40, 40, 40, 40, 40, 40, 40, 40, 40, 98, 41, 41, 41, 41, 41, 41, 41, 41, 41, 41, 41, 41, 41, 41, 41, 41, 41, 41, 41, 41, 41, 41, 41, 41, 41, 41, 41, 41, 41, 41, 41, 41, 41, 41, 41, 41, 41, 41, 41, 41, 41]⟩) y hy p41
  · exact fit.pieceG (by kernel_rfl) (l42 g _) no_told fun g => walkK W0 g (42, 41, 3) (by decide) (.string ⟨#[40, 40, 40, 40, 40, 40, 40, 40, 40, 40, 40, 40, 40, 40, 40, 40, 40, 40, 40, 40, 40, 40, 40, 40, 40, 40, 40, 40, 40, 40, 40, 40, 40, 40, 40, 40, 40, 40, 40, 40, 40, 40, 98, 41, 41, 41, 41, 41, 41, 41, 41, 41, 41, 41, 41, 41, 41, 41, 41, 41, 41, 41, 41, 41, 41, 41, 41, 41, 41, 41, 41, 41, 41, 41, 41, 41, 41, 41, 41, 41, 41, 41, 41, 41, 41]⟩) y hy p42
  · exact fit.pieceG (by kernel_rfl) (l43 g _) no_told fun g => walkK W0 g (43, 41, 3) (by decide) (.string ⟨#[40, 40, 40, 40, 40, 40, 40, 40, 40, 40, 40, 40, 40, 40, 40, 40, 40, 40, 40, 40, 40, 40, 40, 40, 40, 40, 40, 40, 40, 40, 40, 40, 40, 40, 40, 40, 40, 40, 40, 40, 40, 40, 40, 98, 41, 41, 41, 41, 41, 41, 41, 41, 41, 41, 41, 41, 41, 41, 41, 41, 41, 41, 41, 41, 41, 41, 41, 41, 41, 41, 41, 41, 41, 41, 41, 41, 41, 41, 41, 41, 41, 41, 41, 41, 41, 41, 41]⟩) y hy p43
  · exact fit.pieceG (by kernel_rfl) (l44 g _) no_told fun g => walkK W0 g (44, 41, 3) (by decide) (.string ⟨#[40, 40, 40, 40, 40, 40, 40, 40, 40, 40, 40, 40, 40, 40, 40, 40, 40, 40, 40, 40, 40, 40, 40, 40, 40, 40, 40, 40, 40, 40, 40, 40, 40, 40, 40, 40, 40, 40, 40, 40, 40, 40, 40, 40, 98, 41, 41, 41, 41, 41, 41, 41, 41, 41, 41, 41, 41, 41, 41, 41, 41, 41, 41, 41, 41, 41, 41, 41, 41, 41, 41, 41, 41, 41, 41, 41, 41, 41, 41, 41, 41, 41, 41, 41, 41, 41, 41, 41, 41]⟩) y hy p44
  · exact fit.pieceG (by kernel_rfl) (l45 g _) no_told fun g => walkK W0 g (45, 41, 3) (by decide) (.string ⟨#[40, 40, 40, 40, 40, 40, 40, 40, 40, 40, 40, 40, 40, 40, 40, 40, 40, 40, 40, 40, 40, 40, 40, 40, 40, 40, 40, 40, 40, 40, 40, 40, 40, 40, 40, 40, 40, 40, 40, 40, 40, 40, 40, 40, 40, 98, 41, 41, 41, 41, 41, 41, 41, 41, 41, 41, 41, 41, 41, 41, 41, 41, 41, 41, 41, 41, 41, 41, 41, 41, 41, 41, 41, 41, 41, 41, 41, 41, 41, 41, 41, 41, 41, 41, 41, 41, 41, 41, 41, 41, 41]⟩) y hy p45
  · exact fit.pieceG (by kernel_rfl) (l46 g _) no_told fun g => walkK W0 g (46, 41, 3) (by decide) (.string ⟨#[40, 40, 40, 40, 40, 40, 40, 40, 40, 40, 40, 40, 40, 40, 40, 40, 40, 40, 40, 40, 40, 40, 40, 40, 40, 40, 40, 40, 40, 40, 40, 40, 40, 40, 40, 40, 40, 40, 40, 40, 40, 40, 40, 40, 40, 40, 98, 41, 41, 41, 41, 41, 41, 41, 41, 41, 41, 41, 41, 41, 41, 41, 41, 41, 41, 41, 41, 41, 41, 41, 41, 41, 41, 41, 41, 41, 41, 41, 41, 41, 41, 41, 41, 41, 41, 41, 41, 41, 41, 41, 41, 41, 41]⟩) y hy p46
  · exact fit.pieceG (by kernel_rfl) (l47 g _) no_told fun g => walkK W0 g (47, 41, 3) (by decide) (.string ⟨#[40, 40, 40, 40, 40, 40, 40, 40, 40, 40, 40, 40, 40, 40, 40, 40, 40, 40, 40, 40, 40, 40, 40, 40, 40, 40, 40, 40, 40, 40, 40, 40, 40, 40, 40, 40, 40, 40, 40, 40, 40, 40, 40, 40, 40, 40, 40, 98, 41, 41, 41, 41, 41, 41, 41, 41, 41, 41, 41, 41, 41, 41, 41, 41, 41, 41, 41, 41, 41, 41, 41, 41, 41, 41, 41, 41, 41, 41, 41, 41, 41, 41, 41, 41, 41, 41, 41, 41, 41, 41, 41, 41, 41, 41, 41]⟩) y hy p47
  · exact fit.pieceG (by kernel_rfl) (l48 g _) no_told fun g => walkK W0 g (48, 41, 3) (by decide) (.string ⟨#[40, 40, 40, 40, 40, 40, 40, 40, 40, 40, 40, 40, 40, 40, 40, 40, 40, 40, 40, 40, 40, 40, 40, 40, 40, 40, 40, 40, 40, 40, 40, 40, 40, 40, 40, 40, 40, 40, 40, 40, 40, 40, 40, 40, 40, 40, 40, 40, 98, 41, 41, 41, 41, 41, 41, 41, 41, 41, 41, 41, 41, 41, 41, 41, 41, 41, 41, 41, 41, 41, 41, 41, 41, 41, 41, 41, 41, 41, 41, 41, 41, 41, 41, 41, 41, 41, 41, 41, 41, 41, 41, 41, 41, 41, 41, 41, 41]⟩) y hy p48
  · exact fit.pieceG (by kernel_rfl) (l49 g _) no_told fun g => walkK W0 g (49, 41, 3) (by decide) (.string ⟨#[40, 40, 40, 40, 40, 40, 40, 40, 40, 40, 40, 40, 40, 40, 40, 40, 40, 40, 40, 40, 40, 40, 40, 40, 40, 40, 40, 40, 40, 40, 40, 40, 40, 40, 40, 40, 40, 40, 40, 40, 40, 40, 40, 40, 40, 40, 40, 40, 40, 98, 41, 41, 41, 41, 41, 41, 41, 41, 41, 41, 41, 41, 41, 41, 41, 41, 41, 41, 41, 41, 41, 41, 41, 41, 41, 41, 41, 41, 41, 41, 41, 41, 41, 41, 41, 41, 41, 41, 41, 41, 41, 41, 41, 41, 41, 41, 41, 41, 41]⟩) y hy p49

theorem walk (n m : Int) (w : World) (hT : Tabs T5 w) : Calls Tryd.prog 5 #[.int .i64 n, .int .i64 m] w fun e w' => e = .returned (.bool true) ∧ Below w.heap.size w w' := by
  have n0 := Int.emod_nonneg n (by omega : (15 : Int) ≠ 0)
  have n1 := Int.emod_lt_of_pos n (by omega : (0 : Int) < 15)
  have m0 := Int.emod_nonneg m (by omega : (15 : Int) ≠ 0)
  have m1 := Int.emod_lt_of_pos m (by omega : (0 : Int) < 15)
  obtain ⟨x, hx⟩ : ∃ x : Nat, n % 15 = x := ⟨(n % 15).toNat, by omega⟩
  obtain ⟨y, hy⟩ : ∃ y : Nat, m % 15 = y := ⟨(m % 15).toNat, by omega⟩
  refine fit.calls_of_trip (T := T5) (args := [.int .i64 n, .int .i64 m]) rfl Tryd.func5 (by kernel_rfl) w hT ?_
  show Done w c0 (s0 n m)
  refine fit.pieceG (by kernel_rfl) (q0 n m) no_told fun g => ?_
  refine fit.pieceG (c := c1) (s := s1 g n m) (by kernel_rfl) (q1 g n m) (fun z hz => by
    obtain rfl := List.mem_singleton.1 hz
    exact known_told w hT) fun g => ?_
  refine fit.pieceG (c := c2) (s := s1 g n m) (by kernel_rfl) (q2 g n m) no_told fun g => ?_
  refine fit.pieceG (c := c3) (s := s3 g n m) (by kernel_rfl) (q3 g n m x y) (fun z hz => by
    simp only [List.mem_cons, List.not_mem_nil, or_false] at hz
    rcases hz with rfl | rfl
    · exact within_told w m 15 _ (by omega) (by omega) hy
    · exact within_told w n 15 _ (by omega) (by omega) hx) fun g => ?_
  refine fit.pieceG (c := c4) (s := s4 g _ _) (by kernel_rfl) (q4 g _ _) no_told fun g => ?_
  exact walkJ w g x y (by omega) (by omega)

theorem own : ownKnob Tryd.prog.godebug = none := by kernel_rfl
theorem laidOut : laidOutB Tryd.prog = true := by kernel_rfl

/-- The door's own heap meets the condition. -/
theorem door_met (os : Os) (args : Array Value) : laidMetH Tryd.prog [("canopy/expr.frames", Rows.laid_canopy_expr_frames)] ((World.doorLaid Tryd.prog 400 os).forCall (fun _ _ => 0) ⟨#[], args, []⟩).memory :=
  laidMetH_of_parts3 (fuel := 8) (laidMet_of_run' 8 (by kernel_rfl) (by kernel_rfl)) (by kernel_rfl) (by kernel_rfl)

set_option maxRecDepth 100000 in
theorem lifted (os : Os) (started : os.Started) (H : Type) (enc : TypeId × Value → H) :
    ReturnsInHanded {} Tryd.checked os 5 .any (fun w args => (Rows.exprDeepSpec.pre enc Tryd.prog Tryd.f5 [] false w args ∧ laidMetH Tryd.prog [("canopy/expr.frames", Rows.laid_canopy_expr_frames)] w) ∧ sizedMet enc Tryd.prog Tryd.f5 (OpenSpec.ofChange Rows.exprDeepSpec) false w args)
      (Rows.exprDeepSpec.post enc Tryd.prog Tryd.f5 false true false false) := by
  refine returnsInHanded_of_change_and (C := Tryd.checked) (X := fun w _ => laidMetH Tryd.prog [("canopy/expr.frames", Rows.laid_canopy_expr_frames)] w) (fun _ _ _ hh h => h.of_heap hh) own started (by kernel_rfl) Tryd.func5
    (ChangeSpec.witness_shaped (enc := enc) (C := Tryd.checked) (os := os) (X := fun w _ => laidMetH Tryd.prog [("canopy/expr.frames", Rows.laid_canopy_expr_frames)] w) false (World.doorLaid Tryd.prog 400 os) #[.int .i64 0, .int .i64 0] 8 rfl (World.shaped_of_RefB (by kernel_rfl) (by kernel_rfl)) (by kernel_rfl) (by kernel_rfl) (by kernel_rfl) (door_met os _)) ?_
  intro W base args ds gs before hval0 hW _ _ hL _
  have hval : ∀ (j : Nat) t v, Tryd.f5.params[j]? = some t → args[j]? = some v → Value.okWide Tryd.prog W .any base t v := hval0
  have hW' := hW
  obtain ⟨p, q, hA0, hV, rfl, _, _⟩ := hW
  have hA : DataW.TrodAll enc Tryd.prog W 0 (fun _ => true) true Tryd.f5.params.toList args.toList ds p := hA0
  rw [Tryd.params5] at hA hval
  obtain ⟨v0, vs0, d0, ds0, p0, q0, hargs, rfl, rfl, h0, r0⟩ := trodAll_cons hA
  obtain ⟨v1, vs1, d1, ds1, p1, q1, rfl, rfl, rfl, h1, r1⟩ := trodAll_cons r0
  obtain ⟨rfl, rfl, rfl⟩ := trodAll_nil r1
  obtain rfl : args = #[v0, v1] := by cases args; simp_all
  obtain ⟨rfl, rfl⟩ := trodVars_none hV
  obtain ⟨a0, rfl, rfl, rfl, _⟩ := open_int Tryd.underlying3 (hval 0 3 v0 rfl rfl) h0
  obtain ⟨a1, rfl, rfl, rfl, _⟩ := open_int Tryd.underlying3 (hval 1 3 v1 rfl rfl) h1
  clear hA0 hval0
  refine (walk a0 a1 W (Tabs.of_laid hL plain5 flat5)).mono fun e W' ⟨he, hg⟩ => ?_
  subst he
  exact ⟨_, rfl, law_post laidOut (by kernel_rfl) rfl Tryd.underlying4 rfl hW' rfl hg⟩

theorem over : Rows.exprDeepRow.holds Tryd.pinned (OpenSpec.ofChange Rows.exprDeepSpec) :=
  OpenClaim.holds_of_wide 5 Tryd.f5 rfl rfl rfl rfl rfl rfl rfl ⟨rfl, rfl, rfl, rfl, rfl⟩ rfl rfl rfl rfl rfl (by kernel_rfl) Tryd.func5 (by kernel_rfl)
    (of_decide_eq_true (by kernel_rfl)) (by unfold Func.isWrapper; first | (rw [if_pos (by decide +kernel)]; kernel_rfl) | (rw [if_neg (by decide +kernel)]; exact ⟨rfl, rfl⟩))
    (fun os started H enc _ => lifted os started H enc)

/-- THE CARD. -/
theorem proved : Rows.ExprDeepCardSaid :=
  Claim7.holds_tied_plain_at .later [] [.data] true Rows.exprDeepCard.stood.harness false
    over (fun _ h => by cases h) (by kernel_rfl) (fun _ h => by cases h) exprDeep_row_tie rfl ⟨rfl, rfl⟩ (by kernel_rfl) rfl
    (fun f fn hf hfn => by
      obtain rfl : f = 5 := Option.some.inj ((show Tryd.prog.funcNamed "canopy/canopylaw5.ExprDeep" = some 5 by kernel_rfl).symm.trans hf) |>.symm
      obtain rfl : fn = Tryd.f5 := (Option.some.inj (Tryd.func5.symm.trans hfn)).symm
      exact ⟨by kernel_rfl, fun j t ht => by
        rw [Tryd.params5] at ht
        have h3 : t = 3 := by
          rcases j with _ | _ | j
          · simpa using ht.symm
          · simpa using ht.symm
          · simp at ht
        subst h3
        exact (show Tryd.prog.wantsStandIn 3 = false by kernel_rfl)⟩)
    (by kernel_rfl)
#print axioms proved

end Go.Proofs.YtapkonmljbmojaaDoor.exprDeep
