/-
  ExprDeep in pieces: the states between them, the front, the end.
-/
import Derived.Test.YtapkonmljbmojaaDoorBase5F
import Derived.Test.YtapkonmljbmojaaDoorAmPW
namespace Go.Proofs.YtapkonmljbmojaaDoor.exprDeep
set_option linter.unusedSimpArgs false
set_option linter.unusedVariables false
open Go.Am Go.RowKit

def bs : Value := .string ⟨#[98]⟩
def sl : Value := .slice (some ⟨16, 0, none⟩) 3 7
noncomputable def o0 : AObj := match T5 with | x :: _ => .cells x.2 1 none true none | [] => .siter ⟨#[]⟩ 0
def o16 : AObj := .cells [.string ⟨#[97]⟩, .int .i64 1, .string ⟨#[97]⟩, .int .i64 2, .string ⟨#[98]⟩, .int .i64 3, .string ⟨#[99]⟩, .int .i64 1, .string ⟨#[99]⟩, .int .i64 2, .string ⟨#[100]⟩, .int .i64 3, .string ⟨#[120]⟩, .int .i64 2] 2 none false (some 63)
noncomputable def c0 : Code := bodyOf Tryd.f5
noncomputable def c1 : Code := tlC c0
noncomputable def c2 : Code := tlC c1
noncomputable def c3 : Code := tlC c2
noncomputable def c4 : Code := tlC c3
noncomputable def c5 : Code := tlC c4
noncomputable def c6 : Code := tlC c5
noncomputable def c7 : Code := tlC c6
noncomputable def c8 : Code := tlC c7
noncomputable def c9 : Code := tlC c8
abbrev w0 : List Nat := [0, 1, 4]
abbrev w2 : List Nat := [0, 1, 4, 5]
abbrev w3 : List Nat := [4, 5, 6, 7]
abbrev w4 : List Nat := [4, 5, 6, 7, 8, 9]
abbrev w7 : List Nat := [4, 5, 6, 7, 9, 13, 14]
abbrev w8 : List Nat := [4, 6, 7, 13, 14, 16, 17]
noncomputable def s0 (n m : Int) : CSt := ⟨argTree [.int .i64 n, .int .i64 m] 0 .leaf, 94, tabTree T5, NG, []⟩
noncomputable def s1 (g : Nat → Value) (n m : Int) : CSt := stG 94 g (w0.zip [.int .i64 n, .int .i64 m, .bool false]) (List.zip [0] [o0]) 16
noncomputable def s3 (g : Nat → Value) (n m : Int) : CSt := stG 94 g (w2.zip [.int .i64 n, .int .i64 m, .bool false, sl]) (List.zip [0, 16] [o0, o16]) 17
noncomputable def s4 (g : Nat → Value) (K J : Value) : CSt := stG 94 g (w3.zip [.bool false, sl, K, J]) (List.zip [0, 16] [o0, o16]) 17
noncomputable def s5 (g : Nat → Value) (K J U V : Value) : CSt := stG 94 g (w4.zip [.bool false, sl, K, J, U, V]) (List.zip [0, 16] [o0, o16]) 17
noncomputable def s8 (g : Nat → Value) (K J V : Value) (p e : Int) : CSt := stG 94 g (w7.zip [.bool false, sl, K, J, V, .int .i64 p, .int .i64 e]) (List.zip [0, 16] [o0, o16]) 2500
noncomputable def s9 (g : Nat → Value) (K J : Value) (p e q f : Int) : CSt := stG 94 g (w8.zip [.bool false, K, J, .int .i64 p, .int .i64 e, .int .i64 q, .int .i64 f]) [] 4000
def ovN : Nat → FuncId → List Value → Option Value := fun _ f _ => cond (Nat.beq f 14) (some (.bool true)) none
def ovW (x y : Int) : Nat → FuncId → List Value → Option Value := fun k f _ => cond (Nat.beq f 16) (some (.int .i64 (cond (Nat.beq k 0) x y))) none
theorem q0 (n m : Int) : pickW 94 w0 [0] 16 (execF Tryd.prog XS ovN 1000000 (.code (hdC c0)) (s0 n m).tt (s0 n m).n (s0 n m).ht (s0 n m).nx (s0 n m).asm) = some ([.int .i64 n, .int .i64 m, .bool false], List.map some [o0], []) := by kernel_rfl
theorem q1 (g : Nat → Value) (n m : Int) : pickW 94 w0 [0] 16 (execF Tryd.prog XS ovN 1000000 (.code (hdC c1)) (s1 g n m).tt (s1 g n m).n (s1 g n m).ht (s1 g n m).nx (s1 g n m).asm) = some ([.int .i64 n, .int .i64 m, .bool false], List.map some [o0], [(14, [], .bool true)]) := by kernel_rfl
theorem q2 (g : Nat → Value) (n m : Int) : pickW 94 w2 [0, 16] 17 (execF Tryd.prog XS ovN 1000000 (.code (hdC c2)) (s1 g n m).tt (s1 g n m).n (s1 g n m).ht (s1 g n m).nx (s1 g n m).asm) = some ([.int .i64 n, .int .i64 m, .bool false, sl], List.map some [o0, o16], []) := by kernel_rfl
theorem q3 (g : Nat → Value) (n m x y : Int) : pickW 94 w3 [0, 16] 17 (execF Tryd.prog XS (ovW x y) 1000000 (.code (hdC c3)) (s3 g n m).tt (s3 g n m).n (s3 g n m).ht (s3 g n m).nx (s3 g n m).asm) = some ([.bool false, sl, .int .i64 (wrapF .i64 (addI 35 (x))), .int .i64 (wrapF .i64 (addI 10 (y)))], List.map some [o0, o16], [(16, [.int .i64 m, .int .i64 15], .int .i64 y), (16, [.int .i64 n, .int .i64 15], .int .i64 x)]) := by kernel_rfl
theorem q4 (g : Nat → Value) (K J : Value) : pickW 94 w4 [0, 16] 17 (execF Tryd.prog XS ovN 1000000 (.code (hdC c4)) (s4 g K J).tt (s4 g K J).n (s4 g K J).ht (s4 g K J).nx (s4 g K J).asm) = some ([.bool false, sl, K, J, bs, bs], List.map some [o0, o16], []) := by kernel_rfl
def kinds : List (Int × Int × Int) := [(35, 0, 0), (36, 0, 0), (37, 0, 0), (38, 0, 0), (39, 0, 0), (40, 0, 0), (41, 0, 0), (42, 41, 3), (43, 41, 3), (44, 41, 3), (45, 41, 3), (46, 41, 3), (47, 41, 3), (48, 41, 3), (49, 41, 3)]
def stars : List (Int × Int × Int) := [(10, 0, 0), (11, 0, 0), (12, 0, 0), (13, 0, 0), (14, 0, 0), (15, 0, 0), (16, 0, 0), (17, 0, 0), (18, 0, 0), (19, 0, 0), (20, 0, 3), (21, 0, 3), (22, 0, 3), (23, 0, 3), (24, 0, 3)]
def yes (r : Option (Bool × Asm)) : Bool := match r with | some (true, []) => true | _ => false
theorem yes_iff {r : Option (Bool × Asm)} (h : yes r = true) : r = some (true, []) := by
  unfold yes at h
  split at h
  · rfl
  · cases h
theorem q9 (g : Nat → Value) : (kinds.all fun a => stars.all fun b => yes (chkR Tryd.prog Tryd.f5.results (execF Tryd.prog XS ovN 1000000 (.code c9) (s9 g (.int .i64 a.1) (.int .i64 b.1) a.2.1 a.2.2 b.2.1 b.2.2).tt (s9 g (.int .i64 a.1) (.int .i64 b.1) a.2.1 a.2.2 b.2.1 b.2.2).n (s9 g (.int .i64 a.1) (.int .i64 b.1) a.2.1 a.2.2 b.2.1 b.2.2).ht (s9 g (.int .i64 a.1) (.int .i64 b.1) a.2.1 a.2.2 b.2.1 b.2.2).nx (s9 g (.int .i64 a.1) (.int .i64 b.1) a.2.1 a.2.2 b.2.1 b.2.2).asm))) = true := by kernel_rfl

end Go.Proofs.YtapkonmljbmojaaDoor.exprDeep
