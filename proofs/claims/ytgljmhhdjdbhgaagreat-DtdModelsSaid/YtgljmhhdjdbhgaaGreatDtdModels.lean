/-
  DtdModels HOLDS: whatever numbers come in, the call answers true; the arguments read as they did; no variable is listed.
  Conditions: none beyond the row's own.
-/
import Derived.Test.YtgljmhhdjdbhgaaGreatDtdModelsA
import Derived.Test.YtgljmhhdjdbhgaaGreatDtdModelsD
import Derived.Test.YtgljmhhdjdbhgaaGreatDtdModelsE
import Derived.Test.YtgljmhhdjdbhgaaGreatDtdModelsH
import Derived.Test.YtgljmhhdjdbhgaaGreatDtdModelsI
import Derived.Test.YtgljmhhdjdbhgaaGreatDtdModelsJ
import Derived.Test.YtgljmhhdjdbhgaaGreatDtdModelsK
import Derived.Test.YtgljmhhdjdbhgaaGreatDtdModelsL
import Derived.Test.YtgljmhhdjdbhgaaGreatDtdModelsM
import Derived.Test.YtgljmhhdjdbhgaaGreatAmPW
import Derived.Test.YtgljmhhdjdbhgaaGreatDtdModelsN
import Derived.Test.YtgljmhhdjdbhgaaGreatDtdModelsO
import Derived.Test.YtgljmhhdjdbhgaaGreatDtdModelsP
import Derived.Test.YtgljmhhdjdbhgaaGreatDtdModelsQ
import Derived.Test.YtgljmhhdjdbhgaaGreatAmR
namespace Go.Proofs.YtgljmhhdjdbhgaaGreat.dtdModels
set_option linter.unusedSimpArgs false
set_option linter.unusedVariables false
open Go.ChangeShapes Go.WideShapes Go.ChangeAt Go.Am Go.RowKit

def sl17 : Value := .slice (some ⟨16, 0, none⟩) 17 17
def o16 : AObj := .cells [.string ⟨#[101, 109, 112, 116, 121]⟩, .string ⟨#[116, 101, 120, 116]⟩, .string ⟨#[97, 110, 121]⟩, .string ⟨#[116, 101, 120, 116, 42]⟩, .string ⟨#[116, 101, 120, 116, 43]⟩, .string ⟨#[116, 101, 120, 116, 63]⟩, .string ⟨#[116, 101, 120, 116, 44, 32, 116, 101, 120, 116]⟩, .string ⟨#[116, 101, 120, 116, 32, 124, 32, 40, 116, 101, 120, 116, 44, 32, 116, 101, 120, 116, 41]⟩, .string ⟨#[40, 116, 101, 120, 116, 44, 32, 116, 101, 120, 116, 41, 42]⟩, .string ⟨#[40, 116, 101, 120, 116, 44, 32, 116, 101, 120, 116, 41, 43]⟩, .string ⟨#[40, 116, 101, 120, 116, 63, 44, 32, 116, 101, 120, 116, 63, 41]⟩, .string ⟨#[116, 101, 120, 116, 44, 32, 116, 101, 120, 116, 42]⟩, .string ⟨#[40, 116, 101, 120, 116, 42, 41, 43]⟩, .string ⟨#[101, 109, 112, 116, 121, 32, 124, 32, 40, 116, 101, 120, 116, 44, 32, 116, 101, 120, 116, 44, 32, 116, 101, 120, 116, 41]⟩, .string ⟨#[40, 101, 109, 112, 116, 121, 41, 42]⟩, .string ⟨#[40, 116, 101, 120, 116, 63, 41, 43]⟩, .string ⟨#[40, 116, 101, 120, 116, 43, 41, 63]⟩] 1 none false (some 9)
def o33 : AObj := .cells [.int .i64 3, .string ⟨#[]⟩, .slice none 0 0] 3 none false (some 63)
def o38 : AObj := .cells [.int .i64 7, .string ⟨#[]⟩, .slice (some ⟨33, 0, none⟩) 1 1] 3 none false (some 63)
def o44 : AObj := .cells [.string ⟨#[97]⟩, .int .i64 8, .string ⟨#[]⟩, .slice (some ⟨38, 0, none⟩) 1 1] 4 (some 44) false (some 65)
def o55 : AObj := .cells [.string ⟨#[97]⟩, .slice (some ⟨44, 0, some 44⟩) 1 1] 0 none false (some 26)
noncomputable def c0 : Code := bodyOf Tryz.f7
noncomputable def c1 : Code := tlC c0
noncomputable def c2 : Code := tlC c1
noncomputable def c3 : Code := tlC c2
noncomputable def c4 : Code := tlC c3
noncomputable def c5 : Code := tlC c4
noncomputable def c6 : Code := tlC c5
noncomputable def c7 : Code := tlC c6
noncomputable def c8 : Code := tlC c7
noncomputable def c9 : Code := tlC c8
def o56 : AObj := .cells [.int .i64 0] 1 none false (some 3)
def o58a : AObj := .cells [.int .i64 0, .int .i64 2, .int .i64 2, .int .i64 2, .int .i64 2, .int .i64 2] 1 (some 66) false (some 3)
def o58 : AObj := .cells [.int .i64 0, .int .i64 2, .int .i64 2, .int .i64 2, .int .i64 2, .int .i64 2, .int .i64 1] 1 (some 68) false (some 3)
def o244 : AObj := .cells [.int .i64 0] 1 (some 245) false (some 3)
def o247 : AObj := .cells [.int .i64 1] 1 (some 248) false (some 3)
def o250 : AObj := .cells [.int .i64 0, .int .i64 0, .int .i64 2, .int .i64 1] 4 (some 251) false (some 57)
def o253 : AObj := .cells [.int .i64 2, .int .i64 1, .int .i64 1, .int .i64 1, .int .i64 3, .int .i64 1, .int .i64 1, .int .i64 1] 4 (some 254) false (some 59)
def o260 : AObj := .cells [.int .i64 2, .int .i64 2, .int .i64 3, .int .i64 3, .int .i64 2, .int .i64 3] 3 (some 261) false (some 93)
def o266 : AObj := .cells [.int .i64 4, .int .i64 1, .slice (some ⟨244, 0, some 245⟩) 1 1, .slice (some ⟨247, 0, some 248⟩) 1 1, .slice (some ⟨250, 0, some 251⟩) 1 1, .slice (some ⟨253, 0, some 254⟩) 2 2, .slice (some ⟨260, 0, some 261⟩) 2 2] 0 none false (some 33)
abbrev w1 : List Nat := [0, 1, 4]
abbrev w3 : List Nat := [0, 1, 4, 5]
abbrev w4 : List Nat := [4, 5, 6, 7]
abbrev w5 : List Nat := [4, 7, 8, 10]
abbrev w6 : List Nat := [4, 7, 8, 10, 11]
abbrev w7 : List Nat := [4, 8, 10, 11]
abbrev w9 : List Nat := [4, 8, 10, 11, 13, 14]
noncomputable def s0 (a b : Int) : CSt := ⟨argTree [.int .i64 a, .int .i64 b] 0 .leaf, 77, tabTree T8, NG, []⟩
noncomputable def s1 (g : Nat → Value) (a b : Int) : CSt := stG 77 g (w1.zip [.int .i64 a, .int .i64 b, .bool false]) (List.zip [] []) 16
noncomputable def s3 (g : Nat → Value) (a b : Int) : CSt := stG 77 g (w3.zip [.int .i64 a, .int .i64 b, .bool false, sl17]) (List.zip [16] [o16]) 17
noncomputable def s4 (g : Nat → Value) : CSt := stG 77 g (w4.zip [.bool false, sl17, .int .i64 12, .int .i64 5]) (List.zip [16] [o16]) 17
noncomputable def s5 (g : Nat → Value) : CSt := stG 77 g (w5.zip [.bool false, .int .i64 5, .pointer (some ⟨55, 0, none⟩), .int .i64 0]) (List.zip [33, 38, 44, 55] [o33, o38, o44, o55]) 56
noncomputable def s6 (g : Nat → Value) : CSt := stG 77 g (w6.zip [.bool false, .int .i64 5, .pointer (some ⟨55, 0, none⟩), .int .i64 0, .slice (some ⟨56, 0, none⟩) 1 1]) (List.zip [33, 38, 44, 55, 56] [o33, o38, o44, o55, o56]) 57
noncomputable def s7 (g : Nat → Value) : CSt := stG 77 g (w7.zip [.bool false, .pointer (some ⟨55, 0, none⟩), .int .i64 0, .slice (some ⟨58, 0, some 66⟩) 6 6]) (List.zip [33, 38, 44, 55, 58] [o33, o38, o44, o55, o58a]) 67
noncomputable def s8 (g : Nat → Value) : CSt := stG 77 g (w7.zip [.bool false, .pointer (some ⟨55, 0, none⟩), .int .i64 0, .slice (some ⟨58, 0, some 68⟩) 7 7]) (List.zip [33, 38, 44, 55, 58] [o33, o38, o44, o55, o58]) 69
noncomputable def s9 (g : Nat → Value) : CSt := stG 77 g (w9.zip [.bool false, .pointer (some ⟨55, 0, none⟩), .int .i64 0, .slice (some ⟨58, 0, some 68⟩) 7 7, .pointer (some ⟨266, 0, none⟩), .int .i64 0]) (List.zip [33, 38, 44, 55, 58, 244, 247, 250, 253, 260, 266] [o33, o38, o44, o55, o58, o244, o247, o250, o253, o260, o266]) 267
def ovN : Nat → FuncId → List Value → Option Value := fun _ f xs => cond (Nat.beq f 10) (some (.bool true)) (ovWith f xs)
def ovK : Nat → FuncId → List Value → Option Value := fun c f xs => cond (Nat.beq f 12) (some (.int .i64 (cond (Nat.beq c 0) 12 5))) none
theorem x0 (a b : Int) : pickW 77 w1 [] 16 (execF Tryz.prog XS ovN 1000000 (.code (hdC c0)) (s0 a b).tt (s0 a b).n (s0 a b).ht (s0 a b).nx (s0 a b).asm) = some ([.int .i64 a, .int .i64 b, .bool false], List.map some [], []) := by kernel_rfl
theorem x1 (g : Nat → Value) (a b : Int) : pickW 77 w1 [] 16 (execF Tryz.prog XS ovN 1000000 (.code (hdC c1)) (s1 g a b).tt (s1 g a b).n (s1 g a b).ht (s1 g a b).nx (s1 g a b).asm) = some ([.int .i64 a, .int .i64 b, .bool false], List.map some [], [(10, [], .bool true)]) := by kernel_rfl
theorem x2 (g : Nat → Value) (a b : Int) : pickW 77 w3 [16] 17 (execF Tryz.prog XS ovN 1000000 (.code (hdC c2)) (s1 g a b).tt (s1 g a b).n (s1 g a b).ht (s1 g a b).nx (s1 g a b).asm) = some ([.int .i64 a, .int .i64 b, .bool false, sl17], List.map some [o16], []) := by kernel_rfl
theorem x3 (g : Nat → Value) (a b : Int) : pickW 77 w4 [16] 17 (execF Tryz.prog XS ovK 1000000 (.code (hdC c3)) (s3 g a b).tt (s3 g a b).n (s3 g a b).ht (s3 g a b).nx (s3 g a b).asm) = some ([.bool false, sl17, .int .i64 12, .int .i64 5], List.map some [o16], [(12, [.int .i64 b, .int .i64 6], .int .i64 5), (12, [.int .i64 a, .int .i64 17], .int .i64 12)]) := by kernel_rfl
theorem x4 (g : Nat → Value) : pickW 77 w5 [33, 38, 44, 55] 56 (execF Tryz.prog XS ovN 1000000 (.code (hdC c4)) (s4 g).tt (s4 g).n (s4 g).ht (s4 g).nx (s4 g).asm) = some ([.bool false, .int .i64 5, .pointer (some ⟨55, 0, none⟩), .int .i64 0], List.map some [o33, o38, o44, o55], []) := by kernel_rfl
theorem x5 (g : Nat → Value) : pickW 77 w6 [33, 38, 44, 55, 56] 57 (execF Tryz.prog XS ovN 1000000 (.code (hdC c5)) (s5 g).tt (s5 g).n (s5 g).ht (s5 g).nx (s5 g).asm) = some ([.bool false, .int .i64 5, .pointer (some ⟨55, 0, none⟩), .int .i64 0, .slice (some ⟨56, 0, none⟩) 1 1], List.map some [o33, o38, o44, o55, o56], []) := by kernel_rfl
theorem x6 (g : Nat → Value) : pickW 77 w7 [33, 38, 44, 55, 58] 67 (execF Tryz.prog XS ovN 1000000 (.code (hdC c6)) (s6 g).tt (s6 g).n (s6 g).ht (s6 g).nx (s6 g).asm) = some ([.bool false, .pointer (some ⟨55, 0, none⟩), .int .i64 0, .slice (some ⟨58, 0, some 66⟩) 6 6], List.map some [o33, o38, o44, o55, o58a], []) := by kernel_rfl
theorem x7 (g : Nat → Value) : pickW 77 w7 [33, 38, 44, 55, 58] 69 (execF Tryz.prog XS ovN 1000000 (.code (hdC c7)) (s7 g).tt (s7 g).n (s7 g).ht (s7 g).nx (s7 g).asm) = some ([.bool false, .pointer (some ⟨55, 0, none⟩), .int .i64 0, .slice (some ⟨58, 0, some 68⟩) 7 7], List.map some [o33, o38, o44, o55, o58], []) := by kernel_rfl
noncomputable def LX (g : Nat → Value) : Asm := match pickW 77 w9 [33, 38, 44, 55, 58, 244, 247, 250, 253, 260, 266] 267 (execF Tryz.prog XS ovN 1000000 (.code (hdC c8)) (s8 g).tt (s8 g).n (s8 g).ht (s8 g).nx (s8 g).asm) with | some x => x.2.2 | none => []
theorem x8 (g : Nat → Value) : pickW 77 w9 [33, 38, 44, 55, 58, 244, 247, 250, 253, 260, 266] 267 (execF Tryz.prog XS ovN 1000000 (.code (hdC c8)) (s8 g).tt (s8 g).n (s8 g).ht (s8 g).nx (s8 g).asm) = some ([.bool false, .pointer (some ⟨55, 0, none⟩), .int .i64 0, .slice (some ⟨58, 0, some 68⟩) 7 7, .pointer (some ⟨266, 0, none⟩), .int .i64 0], List.map some [o33, o38, o44, o55, o58, o244, o247, o250, o253, o260, o266], LX g) := by kernel_rfl
theorem x8k (g : Nat → Value) : (LX g).all ckWith = true := by kernel_rfl
theorem x9 (g : Nat → Value) : chkR Tryz.prog Tryz.f7.results (execF Tryz.prog XS ovN 1000000 (.code c9) (s9 g).tt (s9 g).n (s9 g).ht (s9 g).nx (s9 g).asm) = some (true, []) := by kernel_rfl

theorem no_told {W0 : World} : ∀ x ∈ ([] : Asm), AsTold Tryz.prog W0 x := fun x hx => by cases hx
theorem walk12_5 (a b : Int) (hk : a % 17 = 12) (hx : b % 6 = 5) (w : World) (hT : Tabs T8 w) : Calls Tryz.prog 7 #[.int .i64 a, .int .i64 b] w fun e w' => e = .returned (.bool true) ∧ Below w.heap.size w w' := by
  refine fit.calls_of_trip (T := T8) (args := [.int .i64 a, .int .i64 b]) rfl Tryz.func7 (by kernel_rfl) w hT ?_
  show Trip Tryz.prog w c0 (s0 a b).st _
  refine fit.pieceG (by kernel_rfl) (x0 a b) no_told fun g => ?_
  refine fit.pieceG (c := c1) (s := s1 g a b) (by kernel_rfl) (x1 g a b) (fun z hz => by
    obtain rfl := List.mem_singleton.1 hz
    exact known_told w hT) fun g => ?_
  refine fit.pieceG (c := c2) (s := s1 g a b) (by kernel_rfl) (x2 g a b) no_told fun g => ?_
  refine fit.pieceG (c := c3) (s := s3 g a b) (by kernel_rfl) (x3 g a b) (fun z hz => by
    simp only [List.mem_cons, List.not_mem_nil, or_false] at hz
    rcases hz with rfl | rfl
    · exact within_told w b 6 _ (by omega) (by omega) hx
    · exact within_told w a 17 _ (by omega) (by omega) hk) fun g => ?_
  refine fit.pieceG (c := c4) (s := s4 g) (by kernel_rfl) (x4 g) no_told fun g => ?_
  refine fit.pieceG (c := c5) (s := s5 g) (by kernel_rfl) (x5 g) no_told fun g => ?_
  refine fit.pieceG (c := c6) (s := s6 g) (by kernel_rfl) (x6 g) no_told fun g => ?_
  refine fit.pieceG (c := c7) (s := s7 g) (by kernel_rfl) (x7 g) no_told fun g => ?_
  refine fit.pieceG (c := c8) (s := s8 g) (by kernel_rfl) (x8 g) (fun x hx => ckWith_told w (List.all_eq_true.1 (x8k g) x hx)) fun g => ?_
  exact fit.lastF (x9 g) no_told

theorem case_k {m : Nat} {o : Nat → FuncId → List Value → Option Value} (a b : Int) (k x : Nat) (hk : a % 17 = k) (hx : b % 6 = x) (w : World) (hT : Tabs T8 w)
    (h : sift ckWith (chkS (execF Tryz.prog XS o 1000000 (.call 7 [.int .i64 a, .int .i64 b]) .leaf 0 (tabTree T8) NG [])) = some (true, repA m [(12, [.int .i64 b, .int .i64 6], .int .i64 (.ofNat x)), (12, [.int .i64 a, .int .i64 17], .int .i64 (.ofNat k)), (10, [], .bool true)])) :
    Calls Tryz.prog 7 #[.int .i64 a, .int .i64 b] w fun e w' => e = .returned (.bool true) ∧ Below w.heap.size w w' := by
  refine fit.callsT rfl h w hT (fun x hx => ckWith_told w hx) (fun y hy => ?_)
  replace hy := repA_mem m hy
  simp only [List.mem_cons, List.not_mem_nil, or_false] at hy
  rcases hy with rfl | rfl | rfl
  · exact within_told w b 6 _ (by omega) (by omega) hx
  · exact within_told w a 17 _ (by omega) (by omega) hk
  · exact known_told w hT

theorem walk (a b : Int) (w : World) (hT : Tabs T8 w) : Calls Tryz.prog 7 #[.int .i64 a, .int .i64 b] w fun e w' => e = .returned (.bool true) ∧ Below w.heap.size w w' := by
  have h0a := Int.emod_nonneg a (by omega : (17 : Int) ≠ 0)
  have h1a := Int.emod_lt_of_pos a (by omega : (0 : Int) < 17)
  obtain ⟨k, hk⟩ : ∃ k : Nat, a % 17 = k := ⟨(a % 17).toNat, by omega⟩
  have h0b := Int.emod_nonneg b (by omega : (6 : Int) ≠ 0)
  have h1b := Int.emod_lt_of_pos b (by omega : (0 : Int) < 6)
  obtain ⟨x, hx⟩ : ∃ k : Nat, b % 6 = k := ⟨(b % 6).toNat, by omega⟩
  rcases (by omega : k = 0 ∨ k = 1 ∨ k = 2 ∨ k = 3 ∨ k = 4 ∨ k = 5 ∨ k = 6 ∨ k = 7 ∨ k = 8 ∨ k = 9 ∨ k = 10 ∨ k = 11 ∨ k = 12 ∨ k = 13 ∨ k = 14 ∨ k = 15 ∨ k = 16) with rfl | rfl | rfl | rfl | rfl | rfl | rfl | rfl | rfl | rfl | rfl | rfl | rfl | rfl | rfl | rfl | rfl
  · rcases (by omega : x = 0 ∨ x = 1 ∨ x = 2 ∨ x = 3 ∨ x = 4 ∨ x = 5) with rfl | rfl | rfl | rfl | rfl | rfl
    · exact case_k a b 0 0 hk hx w hT (e0_0 a b)
    · exact case_k a b 0 1 hk hx w hT (e0_1 a b)
    · exact case_k a b 0 2 hk hx w hT (e0_2 a b)
    · exact case_k a b 0 3 hk hx w hT (e0_3 a b)
    · exact case_k a b 0 4 hk hx w hT (e0_4 a b)
    · exact case_k a b 0 5 hk hx w hT (e0_5 a b)
  · rcases (by omega : x = 0 ∨ x = 1 ∨ x = 2 ∨ x = 3 ∨ x = 4 ∨ x = 5) with rfl | rfl | rfl | rfl | rfl | rfl
    · exact case_k a b 1 0 hk hx w hT (e1_0 a b)
    · exact case_k a b 1 1 hk hx w hT (e1_1 a b)
    · exact case_k a b 1 2 hk hx w hT (e1_2 a b)
    · exact case_k a b 1 3 hk hx w hT (e1_3 a b)
    · exact case_k a b 1 4 hk hx w hT (e1_4 a b)
    · exact case_k a b 1 5 hk hx w hT (e1_5 a b)
  · rcases (by omega : x = 0 ∨ x = 1 ∨ x = 2 ∨ x = 3 ∨ x = 4 ∨ x = 5) with rfl | rfl | rfl | rfl | rfl | rfl
    · exact case_k a b 2 0 hk hx w hT (e2_0 a b)
    · exact case_k a b 2 1 hk hx w hT (e2_1 a b)
    · exact case_k a b 2 2 hk hx w hT (e2_2 a b)
    · exact case_k a b 2 3 hk hx w hT (e2_3 a b)
    · exact case_k a b 2 4 hk hx w hT (e2_4 a b)
    · exact case_k a b 2 5 hk hx w hT (e2_5 a b)
  · rcases (by omega : x = 0 ∨ x = 1 ∨ x = 2 ∨ x = 3 ∨ x = 4 ∨ x = 5) with rfl | rfl | rfl | rfl | rfl | rfl
    · exact case_k a b 3 0 hk hx w hT (e3_0 a b)
    · exact case_k a b 3 1 hk hx w hT (e3_1 a b)
    · exact case_k a b 3 2 hk hx w hT (e3_2 a b)
    · exact case_k a b 3 3 hk hx w hT (e3_3 a b)
    · exact case_k a b 3 4 hk hx w hT (e3_4 a b)
    · exact case_k a b 3 5 hk hx w hT (e3_5 a b)
  · rcases (by omega : x = 0 ∨ x = 1 ∨ x = 2 ∨ x = 3 ∨ x = 4 ∨ x = 5) with rfl | rfl | rfl | rfl | rfl | rfl
    · exact case_k a b 4 0 hk hx w hT (e4_0 a b)
    · exact case_k a b 4 1 hk hx w hT (e4_1 a b)
    · exact case_k a b 4 2 hk hx w hT (e4_2 a b)
    · exact case_k a b 4 3 hk hx w hT (e4_3 a b)
    · exact case_k a b 4 4 hk hx w hT (e4_4 a b)
    · exact case_k a b 4 5 hk hx w hT (e4_5 a b)
  · rcases (by omega : x = 0 ∨ x = 1 ∨ x = 2 ∨ x = 3 ∨ x = 4 ∨ x = 5) with rfl | rfl | rfl | rfl | rfl | rfl
    · exact case_k a b 5 0 hk hx w hT (e5_0 a b)
    · exact case_k a b 5 1 hk hx w hT (e5_1 a b)
    · exact case_k a b 5 2 hk hx w hT (e5_2 a b)
    · exact case_k a b 5 3 hk hx w hT (e5_3 a b)
    · exact case_k a b 5 4 hk hx w hT (e5_4 a b)
    · exact case_k a b 5 5 hk hx w hT (e5_5 a b)
  · rcases (by omega : x = 0 ∨ x = 1 ∨ x = 2 ∨ x = 3 ∨ x = 4 ∨ x = 5) with rfl | rfl | rfl | rfl | rfl | rfl
    · exact case_k a b 6 0 hk hx w hT (e6_0 a b)
    · exact case_k a b 6 1 hk hx w hT (e6_1 a b)
    · exact case_k a b 6 2 hk hx w hT (e6_2 a b)
    · exact case_k a b 6 3 hk hx w hT (e6_3 a b)
    · exact case_k a b 6 4 hk hx w hT (e6_4 a b)
    · exact case_k a b 6 5 hk hx w hT (e6_5 a b)
  · rcases (by omega : x = 0 ∨ x = 1 ∨ x = 2 ∨ x = 3 ∨ x = 4 ∨ x = 5) with rfl | rfl | rfl | rfl | rfl | rfl
    · exact case_k a b 7 0 hk hx w hT (e7_0 a b)
    · exact case_k a b 7 1 hk hx w hT (e7_1 a b)
    · exact case_k a b 7 2 hk hx w hT (e7_2 a b)
    · exact case_k a b 7 3 hk hx w hT (e7_3 a b)
    · exact case_k a b 7 4 hk hx w hT (e7_4 a b)
    · exact case_k a b 7 5 hk hx w hT (e7_5 a b)
  · rcases (by omega : x = 0 ∨ x = 1 ∨ x = 2 ∨ x = 3 ∨ x = 4 ∨ x = 5) with rfl | rfl | rfl | rfl | rfl | rfl
    · exact case_k a b 8 0 hk hx w hT (e8_0 a b)
    · exact case_k a b 8 1 hk hx w hT (e8_1 a b)
    · exact case_k a b 8 2 hk hx w hT (e8_2 a b)
    · exact case_k a b 8 3 hk hx w hT (e8_3 a b)
    · exact case_k a b 8 4 hk hx w hT (e8_4 a b)
    · exact case_k a b 8 5 hk hx w hT (e8_5 a b)
  · rcases (by omega : x = 0 ∨ x = 1 ∨ x = 2 ∨ x = 3 ∨ x = 4 ∨ x = 5) with rfl | rfl | rfl | rfl | rfl | rfl
    · exact case_k a b 9 0 hk hx w hT (e9_0 a b)
    · exact case_k a b 9 1 hk hx w hT (e9_1 a b)
    · exact case_k a b 9 2 hk hx w hT (e9_2 a b)
    · exact case_k a b 9 3 hk hx w hT (e9_3 a b)
    · exact case_k a b 9 4 hk hx w hT (e9_4 a b)
    · exact case_k a b 9 5 hk hx w hT (e9_5 a b)
  · rcases (by omega : x = 0 ∨ x = 1 ∨ x = 2 ∨ x = 3 ∨ x = 4 ∨ x = 5) with rfl | rfl | rfl | rfl | rfl | rfl
    · exact case_k a b 10 0 hk hx w hT (e10_0 a b)
    · exact case_k a b 10 1 hk hx w hT (e10_1 a b)
    · exact case_k a b 10 2 hk hx w hT (e10_2 a b)
    · exact case_k a b 10 3 hk hx w hT (e10_3 a b)
    · exact case_k a b 10 4 hk hx w hT (e10_4 a b)
    · exact case_k a b 10 5 hk hx w hT (e10_5 a b)
  · rcases (by omega : x = 0 ∨ x = 1 ∨ x = 2 ∨ x = 3 ∨ x = 4 ∨ x = 5) with rfl | rfl | rfl | rfl | rfl | rfl
    · exact case_k a b 11 0 hk hx w hT (e11_0 a b)
    · exact case_k a b 11 1 hk hx w hT (e11_1 a b)
    · exact case_k a b 11 2 hk hx w hT (e11_2 a b)
    · exact case_k a b 11 3 hk hx w hT (e11_3 a b)
    · exact case_k a b 11 4 hk hx w hT (e11_4 a b)
    · exact case_k a b 11 5 hk hx w hT (e11_5 a b)
  · rcases (by omega : x = 0 ∨ x = 1 ∨ x = 2 ∨ x = 3 ∨ x = 4 ∨ x = 5) with rfl | rfl | rfl | rfl | rfl | rfl
    · exact case_k a b 12 0 hk hx w hT (e12_0 a b)
    · exact case_k a b 12 1 hk hx w hT (e12_1 a b)
    · exact case_k a b 12 2 hk hx w hT (e12_2 a b)
    · exact case_k a b 12 3 hk hx w hT (e12_3 a b)
    · exact case_k a b 12 4 hk hx w hT (e12_4 a b)
    · exact walk12_5 a b hk hx w hT
  · rcases (by omega : x = 0 ∨ x = 1 ∨ x = 2 ∨ x = 3 ∨ x = 4 ∨ x = 5) with rfl | rfl | rfl | rfl | rfl | rfl
    · exact case_k a b 13 0 hk hx w hT (e13_0 a b)
    · exact case_k a b 13 1 hk hx w hT (e13_1 a b)
    · exact case_k a b 13 2 hk hx w hT (e13_2 a b)
    · exact case_k a b 13 3 hk hx w hT (e13_3 a b)
    · exact case_k a b 13 4 hk hx w hT (e13_4 a b)
    · exact case_k a b 13 5 hk hx w hT (e13_5 a b)
  · rcases (by omega : x = 0 ∨ x = 1 ∨ x = 2 ∨ x = 3 ∨ x = 4 ∨ x = 5) with rfl | rfl | rfl | rfl | rfl | rfl
    · exact case_k a b 14 0 hk hx w hT (e14_0 a b)
    · exact case_k a b 14 1 hk hx w hT (e14_1 a b)
    · exact case_k a b 14 2 hk hx w hT (e14_2 a b)
    · exact case_k a b 14 3 hk hx w hT (e14_3 a b)
    · exact case_k a b 14 4 hk hx w hT (e14_4 a b)
    · exact case_k a b 14 5 hk hx w hT (e14_5 a b)
  · rcases (by omega : x = 0 ∨ x = 1 ∨ x = 2 ∨ x = 3 ∨ x = 4 ∨ x = 5) with rfl | rfl | rfl | rfl | rfl | rfl
    · exact case_k a b 15 0 hk hx w hT (e15_0 a b)
    · exact case_k a b 15 1 hk hx w hT (e15_1 a b)
    · exact case_k a b 15 2 hk hx w hT (e15_2 a b)
    · exact case_k a b 15 3 hk hx w hT (e15_3 a b)
    · exact case_k a b 15 4 hk hx w hT (e15_4 a b)
    · exact case_k a b 15 5 hk hx w hT (e15_5 a b)
  · rcases (by omega : x = 0 ∨ x = 1 ∨ x = 2 ∨ x = 3 ∨ x = 4 ∨ x = 5) with rfl | rfl | rfl | rfl | rfl | rfl
    · exact case_k a b 16 0 hk hx w hT (e16_0 a b)
    · exact case_k a b 16 1 hk hx w hT (e16_1 a b)
    · exact case_k a b 16 2 hk hx w hT (e16_2 a b)
    · exact case_k a b 16 3 hk hx w hT (e16_3 a b)
    · exact case_k a b 16 4 hk hx w hT (e16_4 a b)
    · exact case_k a b 16 5 hk hx w hT (e16_5 a b)

theorem own : ownKnob Tryz.prog.godebug = none := by kernel_rfl
theorem laidOut : laidOutB Tryz.prog = true := by kernel_rfl

set_option maxRecDepth 100000 in
theorem lifted (os : Os) (started : os.Started) (H : Type) (enc : TypeId × Value → H) :
    ReturnsInHanded {} Tryz.checked os 7 .any (Rows.dtdModelsSpec.pre6 enc Tryz.prog Tryz.f7 Rows.dtdModelsRow.domain false) (Rows.dtdModelsSpec.post enc Tryz.prog Tryz.f7 false true false false) := by
  refine returnsInHanded_of_change (C := Tryz.checked) own started (by kernel_rfl) Tryz.func7
    (ChangeSpec.witness6 (enc := enc) (C := Tryz.checked) false ⟨#[], #[.int .i64 0, .int .i64 0], []⟩ 8 (by kernel_rfl) (by kernel_rfl) (by kernel_rfl) (by kernel_rfl)) ?_
  intro W base args ds gs before hval0 hW _ _
  have hval : ∀ (j : Nat) t v, Tryz.f7.params[j]? = some t → args[j]? = some v → Value.okWide Tryz.prog W .any base t v := hval0
  have hW' := hW
  obtain ⟨p, q, hA0, hV, rfl, _, _⟩ := hW
  have hA : DataW.TrodAll enc Tryz.prog W 0 (fun _ => true) true Tryz.f7.params.toList args.toList ds p := hA0
  rw [Tryz.params7] at hA hval
  obtain ⟨v0, vs0, d0, ds0, p0, q0, hargs, rfl, rfl, h0, r0⟩ := trodAll_cons hA
  obtain ⟨v1, vs1, d1, ds1, p1, q1, rfl, rfl, rfl, h1, r1⟩ := trodAll_cons r0
  obtain ⟨rfl, rfl, rfl⟩ := trodAll_nil r1
  obtain rfl : args = #[v0, v1] := by cases args; simp_all
  obtain ⟨rfl, rfl⟩ := trodVars_none hV
  obtain ⟨a0, rfl, rfl, rfl, _⟩ := open_int Tryz.underlying3 (hval 0 3 v0 rfl rfl) h0
  obtain ⟨a1, rfl, rfl, rfl, _⟩ := open_int Tryz.underlying3 (hval 1 3 v1 rfl rfl) h1
  clear hA0 hval0
  refine (walk a0 a1 W Tabs.nil).mono fun e W' ⟨he, hg⟩ => ?_
  subst he
  exact ⟨_, rfl, law_post laidOut (by kernel_rfl) rfl Tryz.underlying4 rfl hW' rfl hg⟩

theorem over : Rows.dtdModelsRow.holds Tryz.pinned (OpenSpec.ofChange Rows.dtdModelsSpec) :=
  OpenClaim.holds_of_wide 7 Tryz.f7 rfl rfl rfl rfl rfl rfl rfl ⟨rfl, rfl, rfl, rfl, rfl⟩ rfl rfl rfl rfl rfl (by kernel_rfl) Tryz.func7 (by kernel_rfl)
    (of_decide_eq_true (by kernel_rfl)) (by unfold Func.isWrapper; first | (rw [if_pos (by decide +kernel)]; kernel_rfl) | (rw [if_neg (by decide +kernel)]; exact ⟨rfl, rfl⟩))
    (fun os started H enc _ => lifted os started H enc)

theorem proved : Rows.DtdModelsSaid := over
#print axioms proved

end Go.Proofs.YtgljmhhdjdbhgaaGreat.dtdModels
