/-
  The law AutoWhole of chapter 3: its first three parts, up to the symbols; what is left is run from each of six states.
-/
import Derived.Test.YtnoakjddgllbfaaGreatBase3F
import Derived.Test.YtnoakjddgllbfaaGreatAmR
namespace Go.Proofs.YtnoakjddgllbfaaGreat.autoWhole
set_option linter.unusedSimpArgs false
set_option linter.unusedVariables false
open Go.Am Go.RowKit

noncomputable def setL {α : Type} (l : List (Nat × α)) : Tree α := l.foldr (fun x t => Tree.set t x.1 x.2) .leaf
noncomputable def c0 : Code := bodyOf Tryz.f3
def obj (l : List Value) : AObj := .cells l 2 none false (some 33)
def syms7 : AObj := obj [.string ⟨#[97]⟩, .int .i64 1, .string ⟨#[97]⟩, .int .i64 2, .string ⟨#[98]⟩, .int .i64 3, .string ⟨#[99]⟩, .int .i64 1, .string ⟨#[99]⟩, .int .i64 2, .string ⟨#[100]⟩, .int .i64 3, .string ⟨#[120]⟩, .int .i64 2]
def symsR : AObj := obj [.string ⟨#[98]⟩, .int .i64 3, .string ⟨#[97]⟩, .int .i64 2, .string ⟨#[97]⟩, .int .i64 1]
def front (n s d : Int) : List (Nat × Value) := [(0, .int .i64 n), (1, .int .i64 s), (2, .int .i64 d), (6, .bool false), (14, .bool true), (15, .bool false)]
noncomputable def s0 (n s d : Int) : CSt := ⟨argTree [.int .i64 n, .int .i64 s, .int .i64 d] 0 .leaf, 144, .leaf, 0, []⟩
noncomputable def s2 (n s d : Int) : CSt := ⟨setL (front n s d), 144, .leaf, 0, []⟩
noncomputable def sK (k : Nat) (n s d : Int) (L : Asm) : CSt := ⟨setL (front n s d ++ [(7, .slice (some ⟨0, 0, none⟩) k 7), (16, .int .i64 n), (17, .slice (some ⟨0, 0, none⟩) k 7)]), 144, setL [(0, syms7)], 1, L⟩
noncomputable def sR (n s d : Int) (L : Asm) : CSt := ⟨setL (front n s d ++ [(7, .slice (some ⟨1, 0, none⟩) 3 3), (16, .int .i64 n), (17, .slice (some ⟨1, 0, none⟩) 3 3)]), 144, setL [(0, syms7), (1, symsR)], 2, L⟩

def ovK : Nat → FuncId → List Value → Option Value := fun _ f _ => if f = 5 then some (.bool true) else none
def ovS (a b c : Nat) : Nat → FuncId → List Value → Option Value := fun i f _ => if f = 15 then some (.int .i64 (.ofNat (Nat.rec a (fun i _ => Nat.rec b (fun _ _ => c) i) i))) else none
def ovR (N G D : Nat) : Nat → FuncId → List Value → Option Value := fun i f _ => if f = 7 then some (.int .i64 (.ofNat (Nat.rec N (fun i _ => Nat.rec G (fun _ _ => D) i) i))) else none
def w1 (n : Int) (m v : Nat) : FuncId × List Value × Value := (15, [.int .i64 n, .int .i64 (.ofNat m)], .int .i64 (.ofNat v))
def w3 (n : Int) (m v : Nat) : FuncId × List Value × Value := (7, [.int .i64 n, .int .i64 (.ofNat m)], .int .i64 (.ofNat v))

theorem p0 (n s d : Int) : execF Tryz.prog [] ovK 1000000 (.code (hdC c0)) (s0 n s d).tt (s0 n s d).n (s0 n s d).ht (s0 n s d).nx (s0 n s d).asm = some [⟨.normal, undef, ⟨setL [(0, .int .i64 n), (1, .int .i64 s), (2, .int .i64 d), (6, .bool false)], 144, .leaf, 0, []⟩, []⟩] := by kernel_rfl
noncomputable def s1 (n s d : Int) : CSt := ⟨setL [(0, .int .i64 n), (1, .int .i64 s), (2, .int .i64 d), (6, .bool false)], 144, .leaf, 0, []⟩
theorem p1 (n s d : Int) : execF Tryz.prog [] ovK 1000000 (.code (hdC (tlC c0))) (s1 n s d).tt (s1 n s d).n (s1 n s d).ht (s1 n s d).nx (s1 n s d).asm = some [⟨.normal, undef, ⟨setL (front n s d), 144, .leaf, 0, [(5, [], .bool true)]⟩, []⟩] := by kernel_rfl
noncomputable def c3 : Code := tlC (tlC (tlC c0))

theorem sy0z0 (n s d : Int) : execF Tryz.prog [] (ovS 0 0 0) 1000000 (.code (hdC (tlC (tlC c0)))) (s2 n s d).tt (s2 n s d).n (s2 n s d).ht (s2 n s d).nx (s2 n s d).asm = some [⟨.normal, undef, sK 3 n s d [w1 n 11 0, w1 n 7 0, w1 n 5 0], []⟩] := by kernel_rfl
theorem sy0z1 (n s d : Int) : execF Tryz.prog [] (ovS 0 0 1) 1000000 (.code (hdC (tlC (tlC c0)))) (s2 n s d).tt (s2 n s d).n (s2 n s d).ht (s2 n s d).nx (s2 n s d).asm = some [⟨.normal, undef, sK 3 n s d [w1 n 11 1, w1 n 7 0, w1 n 5 0], []⟩] := by kernel_rfl
theorem sy0z2 (n s d : Int) : execF Tryz.prog [] (ovS 0 0 2) 1000000 (.code (hdC (tlC (tlC c0)))) (s2 n s d).tt (s2 n s d).n (s2 n s d).ht (s2 n s d).nx (s2 n s d).asm = some [⟨.normal, undef, sK 3 n s d [w1 n 11 2, w1 n 7 0, w1 n 5 0], []⟩] := by kernel_rfl
theorem sy0zp (n s d : Int) (c : Nat) : execF Tryz.prog [] (ovS 0 0 (c + 3)) 1000000 (.code (hdC (tlC (tlC c0)))) (s2 n s d).tt (s2 n s d).n (s2 n s d).ht (s2 n s d).nx (s2 n s d).asm = some [⟨.normal, undef, sK 3 n s d [w1 n 11 (c + 3), w1 n 7 0, w1 n 5 0], []⟩] := by kernel_rfl
theorem sy0p0 (n s d : Int) (b : Nat) : execF Tryz.prog [] (ovS 0 (b + 2) 0) 1000000 (.code (hdC (tlC (tlC c0)))) (s2 n s d).tt (s2 n s d).n (s2 n s d).ht (s2 n s d).nx (s2 n s d).asm = some [⟨.normal, undef, sK 3 n s d [w1 n 11 0, w1 n 7 (b + 2), w1 n 5 0], []⟩] := by kernel_rfl
theorem sy0p1 (n s d : Int) (b : Nat) : execF Tryz.prog [] (ovS 0 (b + 2) 1) 1000000 (.code (hdC (tlC (tlC c0)))) (s2 n s d).tt (s2 n s d).n (s2 n s d).ht (s2 n s d).nx (s2 n s d).asm = some [⟨.normal, undef, sK 3 n s d [w1 n 11 1, w1 n 7 (b + 2), w1 n 5 0], []⟩] := by kernel_rfl
theorem sy0p2 (n s d : Int) (b : Nat) : execF Tryz.prog [] (ovS 0 (b + 2) 2) 1000000 (.code (hdC (tlC (tlC c0)))) (s2 n s d).tt (s2 n s d).n (s2 n s d).ht (s2 n s d).nx (s2 n s d).asm = some [⟨.normal, undef, sK 3 n s d [w1 n 11 2, w1 n 7 (b + 2), w1 n 5 0], []⟩] := by kernel_rfl
theorem sy0pp (n s d : Int) (b : Nat) (c : Nat) : execF Tryz.prog [] (ovS 0 (b + 2) (c + 3)) 1000000 (.code (hdC (tlC (tlC c0)))) (s2 n s d).tt (s2 n s d).n (s2 n s d).ht (s2 n s d).nx (s2 n s d).asm = some [⟨.normal, undef, sK 3 n s d [w1 n 11 (c + 3), w1 n 7 (b + 2), w1 n 5 0], []⟩] := by kernel_rfl
theorem sr0 (n s d : Int) : execF Tryz.prog [] (ovS 0 1 0) 1000000 (.code (hdC (tlC (tlC c0)))) (s2 n s d).tt (s2 n s d).n (s2 n s d).ht (s2 n s d).nx (s2 n s d).asm = some [⟨.normal, undef, sR n s d [w1 n 7 1, w1 n 5 0], []⟩] := by kernel_rfl
theorem sy1z0 (n s d : Int) : execF Tryz.prog [] (ovS 1 0 0) 1000000 (.code (hdC (tlC (tlC c0)))) (s2 n s d).tt (s2 n s d).n (s2 n s d).ht (s2 n s d).nx (s2 n s d).asm = some [⟨.normal, undef, sK 4 n s d [w1 n 11 0, w1 n 7 0, w1 n 5 1], []⟩] := by kernel_rfl
theorem sy1z1 (n s d : Int) : execF Tryz.prog [] (ovS 1 0 1) 1000000 (.code (hdC (tlC (tlC c0)))) (s2 n s d).tt (s2 n s d).n (s2 n s d).ht (s2 n s d).nx (s2 n s d).asm = some [⟨.normal, undef, sK 4 n s d [w1 n 11 1, w1 n 7 0, w1 n 5 1], []⟩] := by kernel_rfl
theorem sy1z2 (n s d : Int) : execF Tryz.prog [] (ovS 1 0 2) 1000000 (.code (hdC (tlC (tlC c0)))) (s2 n s d).tt (s2 n s d).n (s2 n s d).ht (s2 n s d).nx (s2 n s d).asm = some [⟨.normal, undef, sK 4 n s d [w1 n 11 2, w1 n 7 0, w1 n 5 1], []⟩] := by kernel_rfl
theorem sy1zp (n s d : Int) (c : Nat) : execF Tryz.prog [] (ovS 1 0 (c + 3)) 1000000 (.code (hdC (tlC (tlC c0)))) (s2 n s d).tt (s2 n s d).n (s2 n s d).ht (s2 n s d).nx (s2 n s d).asm = some [⟨.normal, undef, sK 4 n s d [w1 n 11 (c + 3), w1 n 7 0, w1 n 5 1], []⟩] := by kernel_rfl
theorem sy1p0 (n s d : Int) (b : Nat) : execF Tryz.prog [] (ovS 1 (b + 2) 0) 1000000 (.code (hdC (tlC (tlC c0)))) (s2 n s d).tt (s2 n s d).n (s2 n s d).ht (s2 n s d).nx (s2 n s d).asm = some [⟨.normal, undef, sK 4 n s d [w1 n 11 0, w1 n 7 (b + 2), w1 n 5 1], []⟩] := by kernel_rfl
theorem sy1p1 (n s d : Int) (b : Nat) : execF Tryz.prog [] (ovS 1 (b + 2) 1) 1000000 (.code (hdC (tlC (tlC c0)))) (s2 n s d).tt (s2 n s d).n (s2 n s d).ht (s2 n s d).nx (s2 n s d).asm = some [⟨.normal, undef, sK 4 n s d [w1 n 11 1, w1 n 7 (b + 2), w1 n 5 1], []⟩] := by kernel_rfl
theorem sy1p2 (n s d : Int) (b : Nat) : execF Tryz.prog [] (ovS 1 (b + 2) 2) 1000000 (.code (hdC (tlC (tlC c0)))) (s2 n s d).tt (s2 n s d).n (s2 n s d).ht (s2 n s d).nx (s2 n s d).asm = some [⟨.normal, undef, sK 4 n s d [w1 n 11 2, w1 n 7 (b + 2), w1 n 5 1], []⟩] := by kernel_rfl
theorem sy1pp (n s d : Int) (b : Nat) (c : Nat) : execF Tryz.prog [] (ovS 1 (b + 2) (c + 3)) 1000000 (.code (hdC (tlC (tlC c0)))) (s2 n s d).tt (s2 n s d).n (s2 n s d).ht (s2 n s d).nx (s2 n s d).asm = some [⟨.normal, undef, sK 4 n s d [w1 n 11 (c + 3), w1 n 7 (b + 2), w1 n 5 1], []⟩] := by kernel_rfl
theorem sr1 (n s d : Int) : execF Tryz.prog [] (ovS 1 1 0) 1000000 (.code (hdC (tlC (tlC c0)))) (s2 n s d).tt (s2 n s d).n (s2 n s d).ht (s2 n s d).nx (s2 n s d).asm = some [⟨.normal, undef, sR n s d [w1 n 7 1, w1 n 5 1], []⟩] := by kernel_rfl
theorem sy2z0 (n s d : Int) : execF Tryz.prog [] (ovS 2 0 0) 1000000 (.code (hdC (tlC (tlC c0)))) (s2 n s d).tt (s2 n s d).n (s2 n s d).ht (s2 n s d).nx (s2 n s d).asm = some [⟨.normal, undef, sK 5 n s d [w1 n 11 0, w1 n 7 0, w1 n 5 2], []⟩] := by kernel_rfl
theorem sy2z1 (n s d : Int) : execF Tryz.prog [] (ovS 2 0 1) 1000000 (.code (hdC (tlC (tlC c0)))) (s2 n s d).tt (s2 n s d).n (s2 n s d).ht (s2 n s d).nx (s2 n s d).asm = some [⟨.normal, undef, sK 5 n s d [w1 n 11 1, w1 n 7 0, w1 n 5 2], []⟩] := by kernel_rfl
theorem sy2z2 (n s d : Int) : execF Tryz.prog [] (ovS 2 0 2) 1000000 (.code (hdC (tlC (tlC c0)))) (s2 n s d).tt (s2 n s d).n (s2 n s d).ht (s2 n s d).nx (s2 n s d).asm = some [⟨.normal, undef, sK 5 n s d [w1 n 11 2, w1 n 7 0, w1 n 5 2], []⟩] := by kernel_rfl
theorem sy2zp (n s d : Int) (c : Nat) : execF Tryz.prog [] (ovS 2 0 (c + 3)) 1000000 (.code (hdC (tlC (tlC c0)))) (s2 n s d).tt (s2 n s d).n (s2 n s d).ht (s2 n s d).nx (s2 n s d).asm = some [⟨.normal, undef, sK 5 n s d [w1 n 11 (c + 3), w1 n 7 0, w1 n 5 2], []⟩] := by kernel_rfl
theorem sy2p0 (n s d : Int) (b : Nat) : execF Tryz.prog [] (ovS 2 (b + 2) 0) 1000000 (.code (hdC (tlC (tlC c0)))) (s2 n s d).tt (s2 n s d).n (s2 n s d).ht (s2 n s d).nx (s2 n s d).asm = some [⟨.normal, undef, sK 5 n s d [w1 n 11 0, w1 n 7 (b + 2), w1 n 5 2], []⟩] := by kernel_rfl
theorem sy2p1 (n s d : Int) (b : Nat) : execF Tryz.prog [] (ovS 2 (b + 2) 1) 1000000 (.code (hdC (tlC (tlC c0)))) (s2 n s d).tt (s2 n s d).n (s2 n s d).ht (s2 n s d).nx (s2 n s d).asm = some [⟨.normal, undef, sK 5 n s d [w1 n 11 1, w1 n 7 (b + 2), w1 n 5 2], []⟩] := by kernel_rfl
theorem sy2p2 (n s d : Int) (b : Nat) : execF Tryz.prog [] (ovS 2 (b + 2) 2) 1000000 (.code (hdC (tlC (tlC c0)))) (s2 n s d).tt (s2 n s d).n (s2 n s d).ht (s2 n s d).nx (s2 n s d).asm = some [⟨.normal, undef, sK 5 n s d [w1 n 11 2, w1 n 7 (b + 2), w1 n 5 2], []⟩] := by kernel_rfl
theorem sy2pp (n s d : Int) (b : Nat) (c : Nat) : execF Tryz.prog [] (ovS 2 (b + 2) (c + 3)) 1000000 (.code (hdC (tlC (tlC c0)))) (s2 n s d).tt (s2 n s d).n (s2 n s d).ht (s2 n s d).nx (s2 n s d).asm = some [⟨.normal, undef, sK 5 n s d [w1 n 11 (c + 3), w1 n 7 (b + 2), w1 n 5 2], []⟩] := by kernel_rfl
theorem sr2 (n s d : Int) : execF Tryz.prog [] (ovS 2 1 0) 1000000 (.code (hdC (tlC (tlC c0)))) (s2 n s d).tt (s2 n s d).n (s2 n s d).ht (s2 n s d).nx (s2 n s d).asm = some [⟨.normal, undef, sR n s d [w1 n 7 1, w1 n 5 2], []⟩] := by kernel_rfl
theorem sy3z0 (n s d : Int) : execF Tryz.prog [] (ovS 3 0 0) 1000000 (.code (hdC (tlC (tlC c0)))) (s2 n s d).tt (s2 n s d).n (s2 n s d).ht (s2 n s d).nx (s2 n s d).asm = some [⟨.normal, undef, sK 6 n s d [w1 n 11 0, w1 n 7 0, w1 n 5 3], []⟩] := by kernel_rfl
theorem sy3z1 (n s d : Int) : execF Tryz.prog [] (ovS 3 0 1) 1000000 (.code (hdC (tlC (tlC c0)))) (s2 n s d).tt (s2 n s d).n (s2 n s d).ht (s2 n s d).nx (s2 n s d).asm = some [⟨.normal, undef, sK 6 n s d [w1 n 11 1, w1 n 7 0, w1 n 5 3], []⟩] := by kernel_rfl
theorem sy3z2 (n s d : Int) : execF Tryz.prog [] (ovS 3 0 2) 1000000 (.code (hdC (tlC (tlC c0)))) (s2 n s d).tt (s2 n s d).n (s2 n s d).ht (s2 n s d).nx (s2 n s d).asm = some [⟨.normal, undef, sK 6 n s d [w1 n 11 2, w1 n 7 0, w1 n 5 3], []⟩] := by kernel_rfl
theorem sy3zp (n s d : Int) (c : Nat) : execF Tryz.prog [] (ovS 3 0 (c + 3)) 1000000 (.code (hdC (tlC (tlC c0)))) (s2 n s d).tt (s2 n s d).n (s2 n s d).ht (s2 n s d).nx (s2 n s d).asm = some [⟨.normal, undef, sK 6 n s d [w1 n 11 (c + 3), w1 n 7 0, w1 n 5 3], []⟩] := by kernel_rfl
theorem sy3p0 (n s d : Int) (b : Nat) : execF Tryz.prog [] (ovS 3 (b + 2) 0) 1000000 (.code (hdC (tlC (tlC c0)))) (s2 n s d).tt (s2 n s d).n (s2 n s d).ht (s2 n s d).nx (s2 n s d).asm = some [⟨.normal, undef, sK 6 n s d [w1 n 11 0, w1 n 7 (b + 2), w1 n 5 3], []⟩] := by kernel_rfl
theorem sy3p1 (n s d : Int) (b : Nat) : execF Tryz.prog [] (ovS 3 (b + 2) 1) 1000000 (.code (hdC (tlC (tlC c0)))) (s2 n s d).tt (s2 n s d).n (s2 n s d).ht (s2 n s d).nx (s2 n s d).asm = some [⟨.normal, undef, sK 6 n s d [w1 n 11 1, w1 n 7 (b + 2), w1 n 5 3], []⟩] := by kernel_rfl
theorem sy3p2 (n s d : Int) (b : Nat) : execF Tryz.prog [] (ovS 3 (b + 2) 2) 1000000 (.code (hdC (tlC (tlC c0)))) (s2 n s d).tt (s2 n s d).n (s2 n s d).ht (s2 n s d).nx (s2 n s d).asm = some [⟨.normal, undef, sK 6 n s d [w1 n 11 2, w1 n 7 (b + 2), w1 n 5 3], []⟩] := by kernel_rfl
theorem sy3pp (n s d : Int) (b : Nat) (c : Nat) : execF Tryz.prog [] (ovS 3 (b + 2) (c + 3)) 1000000 (.code (hdC (tlC (tlC c0)))) (s2 n s d).tt (s2 n s d).n (s2 n s d).ht (s2 n s d).nx (s2 n s d).asm = some [⟨.normal, undef, sK 6 n s d [w1 n 11 (c + 3), w1 n 7 (b + 2), w1 n 5 3], []⟩] := by kernel_rfl
theorem sr3 (n s d : Int) : execF Tryz.prog [] (ovS 3 1 0) 1000000 (.code (hdC (tlC (tlC c0)))) (s2 n s d).tt (s2 n s d).n (s2 n s d).ht (s2 n s d).nx (s2 n s d).asm = some [⟨.normal, undef, sR n s d [w1 n 7 1, w1 n 5 3], []⟩] := by kernel_rfl
theorem sy4z0 (n s d : Int) : execF Tryz.prog [] (ovS 4 0 0) 1000000 (.code (hdC (tlC (tlC c0)))) (s2 n s d).tt (s2 n s d).n (s2 n s d).ht (s2 n s d).nx (s2 n s d).asm = some [⟨.normal, undef, sK 7 n s d [w1 n 11 0, w1 n 7 0, w1 n 5 4], []⟩] := by kernel_rfl
theorem sy4z1 (n s d : Int) : execF Tryz.prog [] (ovS 4 0 1) 1000000 (.code (hdC (tlC (tlC c0)))) (s2 n s d).tt (s2 n s d).n (s2 n s d).ht (s2 n s d).nx (s2 n s d).asm = some [⟨.normal, undef, sK 7 n s d [w1 n 11 1, w1 n 7 0, w1 n 5 4], []⟩] := by kernel_rfl
theorem sy4z2 (n s d : Int) : execF Tryz.prog [] (ovS 4 0 2) 1000000 (.code (hdC (tlC (tlC c0)))) (s2 n s d).tt (s2 n s d).n (s2 n s d).ht (s2 n s d).nx (s2 n s d).asm = some [⟨.normal, undef, sK 7 n s d [w1 n 11 2, w1 n 7 0, w1 n 5 4], []⟩] := by kernel_rfl
theorem sy4zp (n s d : Int) (c : Nat) : execF Tryz.prog [] (ovS 4 0 (c + 3)) 1000000 (.code (hdC (tlC (tlC c0)))) (s2 n s d).tt (s2 n s d).n (s2 n s d).ht (s2 n s d).nx (s2 n s d).asm = some [⟨.normal, undef, sK 7 n s d [w1 n 11 (c + 3), w1 n 7 0, w1 n 5 4], []⟩] := by kernel_rfl
theorem sy4p0 (n s d : Int) (b : Nat) : execF Tryz.prog [] (ovS 4 (b + 2) 0) 1000000 (.code (hdC (tlC (tlC c0)))) (s2 n s d).tt (s2 n s d).n (s2 n s d).ht (s2 n s d).nx (s2 n s d).asm = some [⟨.normal, undef, sK 7 n s d [w1 n 11 0, w1 n 7 (b + 2), w1 n 5 4], []⟩] := by kernel_rfl
theorem sy4p1 (n s d : Int) (b : Nat) : execF Tryz.prog [] (ovS 4 (b + 2) 1) 1000000 (.code (hdC (tlC (tlC c0)))) (s2 n s d).tt (s2 n s d).n (s2 n s d).ht (s2 n s d).nx (s2 n s d).asm = some [⟨.normal, undef, sK 7 n s d [w1 n 11 1, w1 n 7 (b + 2), w1 n 5 4], []⟩] := by kernel_rfl
theorem sy4p2 (n s d : Int) (b : Nat) : execF Tryz.prog [] (ovS 4 (b + 2) 2) 1000000 (.code (hdC (tlC (tlC c0)))) (s2 n s d).tt (s2 n s d).n (s2 n s d).ht (s2 n s d).nx (s2 n s d).asm = some [⟨.normal, undef, sK 7 n s d [w1 n 11 2, w1 n 7 (b + 2), w1 n 5 4], []⟩] := by kernel_rfl
theorem sy4pp (n s d : Int) (b : Nat) (c : Nat) : execF Tryz.prog [] (ovS 4 (b + 2) (c + 3)) 1000000 (.code (hdC (tlC (tlC c0)))) (s2 n s d).tt (s2 n s d).n (s2 n s d).ht (s2 n s d).nx (s2 n s d).asm = some [⟨.normal, undef, sK 7 n s d [w1 n 11 (c + 3), w1 n 7 (b + 2), w1 n 5 4], []⟩] := by kernel_rfl
theorem sr4 (n s d : Int) : execF Tryz.prog [] (ovS 4 1 0) 1000000 (.code (hdC (tlC (tlC c0)))) (s2 n s d).tt (s2 n s d).n (s2 n s d).ht (s2 n s d).nx (s2 n s d).asm = some [⟨.normal, undef, sR n s d [w1 n 7 1, w1 n 5 4], []⟩] := by kernel_rfl

def Done (W0 : World) (st : ASt) : Prop := Trip Tryz.prog W0 c3 st fun x s' => (x = .normal ∨ x = .ret) ∧ ∃ v, aResults Tryz.prog s' Tryz.f3.results = some v ∧ v = .bool true

theorem told1 (W0 : World) (n : Int) (m v : Nat) (h0 : 0 < m) (h1 : m ≤ 100) (h : n % m = v) : AsTold Tryz.prog W0 (w1 n m v) := within1_told W0 n m v (by omega) (by omega) h
theorem told3 (W0 : World) (n : Int) (m v : Nat) (h0 : 0 < m) (h1 : m ≤ 100) (h : n % m = v) : AsTold Tryz.prog W0 (w3 n m v) := within_told W0 n m v (by omega) (by omega) h

theorem start (W0 : World) (n s d : Int) (hK : ∀ k, 3 ≤ k → k ≤ 7 → Done W0 (sK k n s d []).st) (hR : Done W0 (sR n s d []).st) :
    Trip Tryz.prog W0 c0 (s0 n s d).st fun x s' => (x = .normal ∨ x = .ret) ∧ ∃ v, aResults Tryz.prog s' Tryz.f3.results = some v ∧ v = .bool true := by
  refine fit.pieceF (c := c0) (s := s0 n s d) (by kernel_rfl) (p0 n s d) (fun x hx => by cases hx) ?_
  refine fit.pieceF (c := tlC c0) (s := s1 n s d) (by kernel_rfl) (p1 n s d) (fun x hx => by
    obtain rfl := List.mem_singleton.1 hx
    exact known_told W0) ?_
  have h5 := Int.emod_nonneg n (by omega : (5 : Int) ≠ 0)
  have h5' := Int.emod_lt_of_pos n (by omega : (0 : Int) < 5)
  have h7 := Int.emod_nonneg n (by omega : (7 : Int) ≠ 0)
  have h11 := Int.emod_nonneg n (by omega : (11 : Int) ≠ 0)
  obtain ⟨a, ha⟩ : ∃ a : Nat, n % ((5 : Nat) : Int) = a := ⟨(n % 5).toNat, by omega⟩
  obtain ⟨b, hb⟩ : ∃ b : Nat, n % ((7 : Nat) : Int) = b := ⟨(n % 7).toNat, by omega⟩
  obtain ⟨c, hc⟩ : ∃ c : Nat, n % ((11 : Nat) : Int) = c := ⟨(n % 11).toNat, by omega⟩
  have go : ∀ (L : Asm) (st : CSt) (a b c : Nat), execF Tryz.prog [] (ovS a b c) 1000000 (.code (hdC (tlC (tlC c0)))) (s2 n s d).tt (s2 n s d).n (s2 n s d).ht (s2 n s d).nx (s2 n s d).asm = some [⟨.normal, undef, st, []⟩] → st.asm = L → (∀ x ∈ L, AsTold Tryz.prog W0 x) → Done W0 st.st →
      Trip Tryz.prog W0 (tlC (tlC c0)) (s2 n s d).st fun x s' => (x = .normal ∨ x = .ret) ∧ ∃ v, aResults Tryz.prog s' Tryz.f3.results = some v ∧ v = .bool true :=
    fun L st a b c he hL hx hd => fit.pieceF (c := tlC (tlC c0)) (s := s2 n s d) (by kernel_rfl) he (by rw [hL]; exact hx) hd
  have t2 : ∀ {x : FuncId × List Value × Value} {u v : FuncId × List Value × Value}, x ∈ [u, v] → x = u ∨ x = v := fun h => by simpa using h
  have t3 : ∀ {x : FuncId × List Value × Value} {u v w : FuncId × List Value × Value}, x ∈ [u, v, w] → x = u ∨ x = v ∨ x = w := fun h => by simpa using h
  rcases (by omega : a = 0 ∨ a = 1 ∨ a = 2 ∨ a = 3 ∨ a = 4) with rfl | rfl | rfl | rfl | rfl
  · have hb3 : b = 1 ∨ b = 0 ∨ ∃ b', b = b' + 2 := by
      rcases b with _ | _ | b
      · exact .inr (.inl rfl)
      · exact .inl rfl
      · exact .inr (.inr ⟨b, rfl⟩)
    have hc4 : c = 0 ∨ c = 1 ∨ c = 2 ∨ ∃ c', c = c' + 3 := by
      rcases c with _ | _ | _ | c
      · exact .inl rfl
      · exact .inr (.inl rfl)
      · exact .inr (.inr (.inl rfl))
      · exact .inr (.inr (.inr ⟨c, rfl⟩))
    rcases hb3 with rfl | rfl | ⟨b, rfl⟩
    · exact go _ _ 0 1 0 (sr0 n s d) rfl (fun x hx => by
        rcases t2 hx with rfl | rfl
        · exact told1 W0 n 7 1 (by omega) (by omega) hb
        · exact told1 W0 n 5 0 (by omega) (by omega) ha) hR
    · rcases hc4 with rfl | rfl | rfl | ⟨c, rfl⟩
      · exact go _ _ 0 0 0 (sy0z0 n s d) rfl (fun x hx => by
          rcases t3 hx with rfl | rfl | rfl
          · exact told1 W0 n 11 0 (by omega) (by omega) hc
          · exact told1 W0 n 7 0 (by omega) (by omega) hb
          · exact told1 W0 n 5 0 (by omega) (by omega) ha) (hK 3 (by omega) (by omega))
      · exact go _ _ 0 0 1 (sy0z1 n s d) rfl (fun x hx => by
          rcases t3 hx with rfl | rfl | rfl
          · exact told1 W0 n 11 1 (by omega) (by omega) hc
          · exact told1 W0 n 7 0 (by omega) (by omega) hb
          · exact told1 W0 n 5 0 (by omega) (by omega) ha) (hK 3 (by omega) (by omega))
      · exact go _ _ 0 0 2 (sy0z2 n s d) rfl (fun x hx => by
          rcases t3 hx with rfl | rfl | rfl
          · exact told1 W0 n 11 2 (by omega) (by omega) hc
          · exact told1 W0 n 7 0 (by omega) (by omega) hb
          · exact told1 W0 n 5 0 (by omega) (by omega) ha) (hK 3 (by omega) (by omega))
      · exact go _ _ 0 0 (c + 3) (sy0zp n s d c) rfl (fun x hx => by
          rcases t3 hx with rfl | rfl | rfl
          · exact told1 W0 n 11 (c + 3) (by omega) (by omega) hc
          · exact told1 W0 n 7 0 (by omega) (by omega) hb
          · exact told1 W0 n 5 0 (by omega) (by omega) ha) (hK 3 (by omega) (by omega))
    · rcases hc4 with rfl | rfl | rfl | ⟨c, rfl⟩
      · exact go _ _ 0 (b + 2) 0 (sy0p0 n s d b) rfl (fun x hx => by
          rcases t3 hx with rfl | rfl | rfl
          · exact told1 W0 n 11 0 (by omega) (by omega) hc
          · exact told1 W0 n 7 (b + 2) (by omega) (by omega) hb
          · exact told1 W0 n 5 0 (by omega) (by omega) ha) (hK 3 (by omega) (by omega))
      · exact go _ _ 0 (b + 2) 1 (sy0p1 n s d b) rfl (fun x hx => by
          rcases t3 hx with rfl | rfl | rfl
          · exact told1 W0 n 11 1 (by omega) (by omega) hc
          · exact told1 W0 n 7 (b + 2) (by omega) (by omega) hb
          · exact told1 W0 n 5 0 (by omega) (by omega) ha) (hK 3 (by omega) (by omega))
      · exact go _ _ 0 (b + 2) 2 (sy0p2 n s d b) rfl (fun x hx => by
          rcases t3 hx with rfl | rfl | rfl
          · exact told1 W0 n 11 2 (by omega) (by omega) hc
          · exact told1 W0 n 7 (b + 2) (by omega) (by omega) hb
          · exact told1 W0 n 5 0 (by omega) (by omega) ha) (hK 3 (by omega) (by omega))
      · exact go _ _ 0 (b + 2) (c + 3) (sy0pp n s d b c) rfl (fun x hx => by
          rcases t3 hx with rfl | rfl | rfl
          · exact told1 W0 n 11 (c + 3) (by omega) (by omega) hc
          · exact told1 W0 n 7 (b + 2) (by omega) (by omega) hb
          · exact told1 W0 n 5 0 (by omega) (by omega) ha) (hK 3 (by omega) (by omega))
  · have hb3 : b = 1 ∨ b = 0 ∨ ∃ b', b = b' + 2 := by
      rcases b with _ | _ | b
      · exact .inr (.inl rfl)
      · exact .inl rfl
      · exact .inr (.inr ⟨b, rfl⟩)
    have hc4 : c = 0 ∨ c = 1 ∨ c = 2 ∨ ∃ c', c = c' + 3 := by
      rcases c with _ | _ | _ | c
      · exact .inl rfl
      · exact .inr (.inl rfl)
      · exact .inr (.inr (.inl rfl))
      · exact .inr (.inr (.inr ⟨c, rfl⟩))
    rcases hb3 with rfl | rfl | ⟨b, rfl⟩
    · exact go _ _ 1 1 0 (sr1 n s d) rfl (fun x hx => by
        rcases t2 hx with rfl | rfl
        · exact told1 W0 n 7 1 (by omega) (by omega) hb
        · exact told1 W0 n 5 1 (by omega) (by omega) ha) hR
    · rcases hc4 with rfl | rfl | rfl | ⟨c, rfl⟩
      · exact go _ _ 1 0 0 (sy1z0 n s d) rfl (fun x hx => by
          rcases t3 hx with rfl | rfl | rfl
          · exact told1 W0 n 11 0 (by omega) (by omega) hc
          · exact told1 W0 n 7 0 (by omega) (by omega) hb
          · exact told1 W0 n 5 1 (by omega) (by omega) ha) (hK 4 (by omega) (by omega))
      · exact go _ _ 1 0 1 (sy1z1 n s d) rfl (fun x hx => by
          rcases t3 hx with rfl | rfl | rfl
          · exact told1 W0 n 11 1 (by omega) (by omega) hc
          · exact told1 W0 n 7 0 (by omega) (by omega) hb
          · exact told1 W0 n 5 1 (by omega) (by omega) ha) (hK 4 (by omega) (by omega))
      · exact go _ _ 1 0 2 (sy1z2 n s d) rfl (fun x hx => by
          rcases t3 hx with rfl | rfl | rfl
          · exact told1 W0 n 11 2 (by omega) (by omega) hc
          · exact told1 W0 n 7 0 (by omega) (by omega) hb
          · exact told1 W0 n 5 1 (by omega) (by omega) ha) (hK 4 (by omega) (by omega))
      · exact go _ _ 1 0 (c + 3) (sy1zp n s d c) rfl (fun x hx => by
          rcases t3 hx with rfl | rfl | rfl
          · exact told1 W0 n 11 (c + 3) (by omega) (by omega) hc
          · exact told1 W0 n 7 0 (by omega) (by omega) hb
          · exact told1 W0 n 5 1 (by omega) (by omega) ha) (hK 4 (by omega) (by omega))
    · rcases hc4 with rfl | rfl | rfl | ⟨c, rfl⟩
      · exact go _ _ 1 (b + 2) 0 (sy1p0 n s d b) rfl (fun x hx => by
          rcases t3 hx with rfl | rfl | rfl
          · exact told1 W0 n 11 0 (by omega) (by omega) hc
          · exact told1 W0 n 7 (b + 2) (by omega) (by omega) hb
          · exact told1 W0 n 5 1 (by omega) (by omega) ha) (hK 4 (by omega) (by omega))
      · exact go _ _ 1 (b + 2) 1 (sy1p1 n s d b) rfl (fun x hx => by
          rcases t3 hx with rfl | rfl | rfl
          · exact told1 W0 n 11 1 (by omega) (by omega) hc
          · exact told1 W0 n 7 (b + 2) (by omega) (by omega) hb
          · exact told1 W0 n 5 1 (by omega) (by omega) ha) (hK 4 (by omega) (by omega))
      · exact go _ _ 1 (b + 2) 2 (sy1p2 n s d b) rfl (fun x hx => by
          rcases t3 hx with rfl | rfl | rfl
          · exact told1 W0 n 11 2 (by omega) (by omega) hc
          · exact told1 W0 n 7 (b + 2) (by omega) (by omega) hb
          · exact told1 W0 n 5 1 (by omega) (by omega) ha) (hK 4 (by omega) (by omega))
      · exact go _ _ 1 (b + 2) (c + 3) (sy1pp n s d b c) rfl (fun x hx => by
          rcases t3 hx with rfl | rfl | rfl
          · exact told1 W0 n 11 (c + 3) (by omega) (by omega) hc
          · exact told1 W0 n 7 (b + 2) (by omega) (by omega) hb
          · exact told1 W0 n 5 1 (by omega) (by omega) ha) (hK 4 (by omega) (by omega))
  · have hb3 : b = 1 ∨ b = 0 ∨ ∃ b', b = b' + 2 := by
      rcases b with _ | _ | b
      · exact .inr (.inl rfl)
      · exact .inl rfl
      · exact .inr (.inr ⟨b, rfl⟩)
    have hc4 : c = 0 ∨ c = 1 ∨ c = 2 ∨ ∃ c', c = c' + 3 := by
      rcases c with _ | _ | _ | c
      · exact .inl rfl
      · exact .inr (.inl rfl)
      · exact .inr (.inr (.inl rfl))
      · exact .inr (.inr (.inr ⟨c, rfl⟩))
    rcases hb3 with rfl | rfl | ⟨b, rfl⟩
    · exact go _ _ 2 1 0 (sr2 n s d) rfl (fun x hx => by
        rcases t2 hx with rfl | rfl
        · exact told1 W0 n 7 1 (by omega) (by omega) hb
        · exact told1 W0 n 5 2 (by omega) (by omega) ha) hR
    · rcases hc4 with rfl | rfl | rfl | ⟨c, rfl⟩
      · exact go _ _ 2 0 0 (sy2z0 n s d) rfl (fun x hx => by
          rcases t3 hx with rfl | rfl | rfl
          · exact told1 W0 n 11 0 (by omega) (by omega) hc
          · exact told1 W0 n 7 0 (by omega) (by omega) hb
          · exact told1 W0 n 5 2 (by omega) (by omega) ha) (hK 5 (by omega) (by omega))
      · exact go _ _ 2 0 1 (sy2z1 n s d) rfl (fun x hx => by
          rcases t3 hx with rfl | rfl | rfl
          · exact told1 W0 n 11 1 (by omega) (by omega) hc
          · exact told1 W0 n 7 0 (by omega) (by omega) hb
          · exact told1 W0 n 5 2 (by omega) (by omega) ha) (hK 5 (by omega) (by omega))
      · exact go _ _ 2 0 2 (sy2z2 n s d) rfl (fun x hx => by
          rcases t3 hx with rfl | rfl | rfl
          · exact told1 W0 n 11 2 (by omega) (by omega) hc
          · exact told1 W0 n 7 0 (by omega) (by omega) hb
          · exact told1 W0 n 5 2 (by omega) (by omega) ha) (hK 5 (by omega) (by omega))
      · exact go _ _ 2 0 (c + 3) (sy2zp n s d c) rfl (fun x hx => by
          rcases t3 hx with rfl | rfl | rfl
          · exact told1 W0 n 11 (c + 3) (by omega) (by omega) hc
          · exact told1 W0 n 7 0 (by omega) (by omega) hb
          · exact told1 W0 n 5 2 (by omega) (by omega) ha) (hK 5 (by omega) (by omega))
    · rcases hc4 with rfl | rfl | rfl | ⟨c, rfl⟩
      · exact go _ _ 2 (b + 2) 0 (sy2p0 n s d b) rfl (fun x hx => by
          rcases t3 hx with rfl | rfl | rfl
          · exact told1 W0 n 11 0 (by omega) (by omega) hc
          · exact told1 W0 n 7 (b + 2) (by omega) (by omega) hb
          · exact told1 W0 n 5 2 (by omega) (by omega) ha) (hK 5 (by omega) (by omega))
      · exact go _ _ 2 (b + 2) 1 (sy2p1 n s d b) rfl (fun x hx => by
          rcases t3 hx with rfl | rfl | rfl
          · exact told1 W0 n 11 1 (by omega) (by omega) hc
          · exact told1 W0 n 7 (b + 2) (by omega) (by omega) hb
          · exact told1 W0 n 5 2 (by omega) (by omega) ha) (hK 5 (by omega) (by omega))
      · exact go _ _ 2 (b + 2) 2 (sy2p2 n s d b) rfl (fun x hx => by
          rcases t3 hx with rfl | rfl | rfl
          · exact told1 W0 n 11 2 (by omega) (by omega) hc
          · exact told1 W0 n 7 (b + 2) (by omega) (by omega) hb
          · exact told1 W0 n 5 2 (by omega) (by omega) ha) (hK 5 (by omega) (by omega))
      · exact go _ _ 2 (b + 2) (c + 3) (sy2pp n s d b c) rfl (fun x hx => by
          rcases t3 hx with rfl | rfl | rfl
          · exact told1 W0 n 11 (c + 3) (by omega) (by omega) hc
          · exact told1 W0 n 7 (b + 2) (by omega) (by omega) hb
          · exact told1 W0 n 5 2 (by omega) (by omega) ha) (hK 5 (by omega) (by omega))
  · have hb3 : b = 1 ∨ b = 0 ∨ ∃ b', b = b' + 2 := by
      rcases b with _ | _ | b
      · exact .inr (.inl rfl)
      · exact .inl rfl
      · exact .inr (.inr ⟨b, rfl⟩)
    have hc4 : c = 0 ∨ c = 1 ∨ c = 2 ∨ ∃ c', c = c' + 3 := by
      rcases c with _ | _ | _ | c
      · exact .inl rfl
      · exact .inr (.inl rfl)
      · exact .inr (.inr (.inl rfl))
      · exact .inr (.inr (.inr ⟨c, rfl⟩))
    rcases hb3 with rfl | rfl | ⟨b, rfl⟩
    · exact go _ _ 3 1 0 (sr3 n s d) rfl (fun x hx => by
        rcases t2 hx with rfl | rfl
        · exact told1 W0 n 7 1 (by omega) (by omega) hb
        · exact told1 W0 n 5 3 (by omega) (by omega) ha) hR
    · rcases hc4 with rfl | rfl | rfl | ⟨c, rfl⟩
      · exact go _ _ 3 0 0 (sy3z0 n s d) rfl (fun x hx => by
          rcases t3 hx with rfl | rfl | rfl
          · exact told1 W0 n 11 0 (by omega) (by omega) hc
          · exact told1 W0 n 7 0 (by omega) (by omega) hb
          · exact told1 W0 n 5 3 (by omega) (by omega) ha) (hK 6 (by omega) (by omega))
      · exact go _ _ 3 0 1 (sy3z1 n s d) rfl (fun x hx => by
          rcases t3 hx with rfl | rfl | rfl
          · exact told1 W0 n 11 1 (by omega) (by omega) hc
          · exact told1 W0 n 7 0 (by omega) (by omega) hb
          · exact told1 W0 n 5 3 (by omega) (by omega) ha) (hK 6 (by omega) (by omega))
      · exact go _ _ 3 0 2 (sy3z2 n s d) rfl (fun x hx => by
          rcases t3 hx with rfl | rfl | rfl
          · exact told1 W0 n 11 2 (by omega) (by omega) hc
          · exact told1 W0 n 7 0 (by omega) (by omega) hb
          · exact told1 W0 n 5 3 (by omega) (by omega) ha) (hK 6 (by omega) (by omega))
      · exact go _ _ 3 0 (c + 3) (sy3zp n s d c) rfl (fun x hx => by
          rcases t3 hx with rfl | rfl | rfl
          · exact told1 W0 n 11 (c + 3) (by omega) (by omega) hc
          · exact told1 W0 n 7 0 (by omega) (by omega) hb
          · exact told1 W0 n 5 3 (by omega) (by omega) ha) (hK 6 (by omega) (by omega))
    · rcases hc4 with rfl | rfl | rfl | ⟨c, rfl⟩
      · exact go _ _ 3 (b + 2) 0 (sy3p0 n s d b) rfl (fun x hx => by
          rcases t3 hx with rfl | rfl | rfl
          · exact told1 W0 n 11 0 (by omega) (by omega) hc
          · exact told1 W0 n 7 (b + 2) (by omega) (by omega) hb
          · exact told1 W0 n 5 3 (by omega) (by omega) ha) (hK 6 (by omega) (by omega))
      · exact go _ _ 3 (b + 2) 1 (sy3p1 n s d b) rfl (fun x hx => by
          rcases t3 hx with rfl | rfl | rfl
          · exact told1 W0 n 11 1 (by omega) (by omega) hc
          · exact told1 W0 n 7 (b + 2) (by omega) (by omega) hb
          · exact told1 W0 n 5 3 (by omega) (by omega) ha) (hK 6 (by omega) (by omega))
      · exact go _ _ 3 (b + 2) 2 (sy3p2 n s d b) rfl (fun x hx => by
          rcases t3 hx with rfl | rfl | rfl
          · exact told1 W0 n 11 2 (by omega) (by omega) hc
          · exact told1 W0 n 7 (b + 2) (by omega) (by omega) hb
          · exact told1 W0 n 5 3 (by omega) (by omega) ha) (hK 6 (by omega) (by omega))
      · exact go _ _ 3 (b + 2) (c + 3) (sy3pp n s d b c) rfl (fun x hx => by
          rcases t3 hx with rfl | rfl | rfl
          · exact told1 W0 n 11 (c + 3) (by omega) (by omega) hc
          · exact told1 W0 n 7 (b + 2) (by omega) (by omega) hb
          · exact told1 W0 n 5 3 (by omega) (by omega) ha) (hK 6 (by omega) (by omega))
  · have hb3 : b = 1 ∨ b = 0 ∨ ∃ b', b = b' + 2 := by
      rcases b with _ | _ | b
      · exact .inr (.inl rfl)
      · exact .inl rfl
      · exact .inr (.inr ⟨b, rfl⟩)
    have hc4 : c = 0 ∨ c = 1 ∨ c = 2 ∨ ∃ c', c = c' + 3 := by
      rcases c with _ | _ | _ | c
      · exact .inl rfl
      · exact .inr (.inl rfl)
      · exact .inr (.inr (.inl rfl))
      · exact .inr (.inr (.inr ⟨c, rfl⟩))
    rcases hb3 with rfl | rfl | ⟨b, rfl⟩
    · exact go _ _ 4 1 0 (sr4 n s d) rfl (fun x hx => by
        rcases t2 hx with rfl | rfl
        · exact told1 W0 n 7 1 (by omega) (by omega) hb
        · exact told1 W0 n 5 4 (by omega) (by omega) ha) hR
    · rcases hc4 with rfl | rfl | rfl | ⟨c, rfl⟩
      · exact go _ _ 4 0 0 (sy4z0 n s d) rfl (fun x hx => by
          rcases t3 hx with rfl | rfl | rfl
          · exact told1 W0 n 11 0 (by omega) (by omega) hc
          · exact told1 W0 n 7 0 (by omega) (by omega) hb
          · exact told1 W0 n 5 4 (by omega) (by omega) ha) (hK 7 (by omega) (by omega))
      · exact go _ _ 4 0 1 (sy4z1 n s d) rfl (fun x hx => by
          rcases t3 hx with rfl | rfl | rfl
          · exact told1 W0 n 11 1 (by omega) (by omega) hc
          · exact told1 W0 n 7 0 (by omega) (by omega) hb
          · exact told1 W0 n 5 4 (by omega) (by omega) ha) (hK 7 (by omega) (by omega))
      · exact go _ _ 4 0 2 (sy4z2 n s d) rfl (fun x hx => by
          rcases t3 hx with rfl | rfl | rfl
          · exact told1 W0 n 11 2 (by omega) (by omega) hc
          · exact told1 W0 n 7 0 (by omega) (by omega) hb
          · exact told1 W0 n 5 4 (by omega) (by omega) ha) (hK 7 (by omega) (by omega))
      · exact go _ _ 4 0 (c + 3) (sy4zp n s d c) rfl (fun x hx => by
          rcases t3 hx with rfl | rfl | rfl
          · exact told1 W0 n 11 (c + 3) (by omega) (by omega) hc
          · exact told1 W0 n 7 0 (by omega) (by omega) hb
          · exact told1 W0 n 5 4 (by omega) (by omega) ha) (hK 7 (by omega) (by omega))
    · rcases hc4 with rfl | rfl | rfl | ⟨c, rfl⟩
      · exact go _ _ 4 (b + 2) 0 (sy4p0 n s d b) rfl (fun x hx => by
          rcases t3 hx with rfl | rfl | rfl
          · exact told1 W0 n 11 0 (by omega) (by omega) hc
          · exact told1 W0 n 7 (b + 2) (by omega) (by omega) hb
          · exact told1 W0 n 5 4 (by omega) (by omega) ha) (hK 7 (by omega) (by omega))
      · exact go _ _ 4 (b + 2) 1 (sy4p1 n s d b) rfl (fun x hx => by
          rcases t3 hx with rfl | rfl | rfl
          · exact told1 W0 n 11 1 (by omega) (by omega) hc
          · exact told1 W0 n 7 (b + 2) (by omega) (by omega) hb
          · exact told1 W0 n 5 4 (by omega) (by omega) ha) (hK 7 (by omega) (by omega))
      · exact go _ _ 4 (b + 2) 2 (sy4p2 n s d b) rfl (fun x hx => by
          rcases t3 hx with rfl | rfl | rfl
          · exact told1 W0 n 11 2 (by omega) (by omega) hc
          · exact told1 W0 n 7 (b + 2) (by omega) (by omega) hb
          · exact told1 W0 n 5 4 (by omega) (by omega) ha) (hK 7 (by omega) (by omega))
      · exact go _ _ 4 (b + 2) (c + 3) (sy4pp n s d b c) rfl (fun x hx => by
          rcases t3 hx with rfl | rfl | rfl
          · exact told1 W0 n 11 (c + 3) (by omega) (by omega) hc
          · exact told1 W0 n 7 (b + 2) (by omega) (by omega) hb
          · exact told1 W0 n 5 4 (by omega) (by omega) ha) (hK 7 (by omega) (by omega))

theorem ends (W0 : World) (n s d : Int) (S : CSt) (N G D : Nat) (hN : s % ((3 : Nat) : Int) = N) (hG : (IntKind.i64.wrap (s.tdiv 3)) % ((2 : Nat) : Int) = G) (hD : d % ((3 : Nat) : Int) = D)
    (h : chkR Tryz.prog Tryz.f3.results (execF Tryz.prog [] (ovR N G D) 1000000 (.code c3) S.tt S.n S.ht S.nx S.asm) = some (true, [w3 d 3 D, w3 (IntKind.i64.wrap (s.tdiv 3)) 2 G, w3 s 3 N])) : Done W0 S.st :=
  fit.lastF h fun x hx => by
    have hx' : x = w3 d 3 D ∨ x = w3 (IntKind.i64.wrap (s.tdiv 3)) 2 G ∨ x = w3 s 3 N := by simpa using hx
    rcases hx' with rfl | rfl | rfl
    · exact told3 W0 _ 3 D (by omega) (by omega) hD
    · exact told3 W0 _ 2 G (by omega) (by omega) hG
    · exact told3 W0 _ 3 N (by omega) (by omega) hN

theorem split (W0 : World) (n s d : Int) (S : CSt)
    (h : ∀ N G D : Nat, N < 3 → G < 2 → D < 3 → chkR Tryz.prog Tryz.f3.results (execF Tryz.prog [] (ovR N G D) 1000000 (.code c3) S.tt S.n S.ht S.nx S.asm) = some (true, [w3 d 3 D, w3 (IntKind.i64.wrap (s.tdiv 3)) 2 G, w3 s 3 N])) : Done W0 S.st := by
  have a1 := Int.emod_nonneg s (by omega : (3 : Int) ≠ 0)
  have a2 := Int.emod_lt_of_pos s (by omega : (0 : Int) < 3)
  have b1 := Int.emod_nonneg (IntKind.i64.wrap (s.tdiv 3)) (by omega : (2 : Int) ≠ 0)
  have b2 := Int.emod_lt_of_pos (IntKind.i64.wrap (s.tdiv 3)) (by omega : (0 : Int) < 2)
  have d1 := Int.emod_nonneg d (by omega : (3 : Int) ≠ 0)
  have d2 := Int.emod_lt_of_pos d (by omega : (0 : Int) < 3)
  obtain ⟨N, hN⟩ : ∃ N : Nat, s % ((3 : Nat) : Int) = N := ⟨(s % 3).toNat, by omega⟩
  obtain ⟨G, hG⟩ : ∃ G : Nat, (IntKind.i64.wrap (s.tdiv 3)) % ((2 : Nat) : Int) = G := ⟨((IntKind.i64.wrap (s.tdiv 3)) % 2).toNat, by omega⟩
  obtain ⟨D, hD⟩ : ∃ D : Nat, d % ((3 : Nat) : Int) = D := ⟨(d % 3).toNat, by omega⟩
  exact ends W0 n s d S N G D hN hG hD (h N G D (by omega) (by omega) (by omega))

end Go.Proofs.YtnoakjddgllbfaaGreat.autoWhole
