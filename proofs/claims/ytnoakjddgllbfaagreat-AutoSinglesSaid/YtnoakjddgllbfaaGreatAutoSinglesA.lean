/-
  The law AutoSingles of chapter 3: what its 45 runs take as told.
-/
import Derived.Test.YtnoakjddgllbfaaGreatBase3F
import Derived.Test.YtnoakjddgllbfaaGreatAmR
namespace Go.Proofs.YtnoakjddgllbfaaGreat.autoSingles
set_option linter.unusedSimpArgs false
set_option linter.unusedVariables false
open Go.Am Go.RowKit

/-- The answers that are taken as told; the last row: a region that is gone through in every order. -/
def ovA (N p k : Nat) : Nat → FuncId → List Value → Option Value := fun i f _ =>
  if f = 5 then some (.bool true)
  else if f = 7 then some (.int .i64 (.ofNat (Nat.rec 0 (fun i _ => Nat.rec N (fun i _ => Nat.rec p (fun _ _ => k) i) i) i)))
  else if f = 1000000021 then some (.bool true)
  else none
def w3 (n : Int) (m v : Nat) : FuncId × List Value × Value := (7, [.int .i64 n, .int .i64 (.ofNat m)], .int .i64 (.ofNat v))
def told (s a k : Int) (N p K : Nat) : Asm := [w3 k 5 K, w3 a (N + 2) p, w3 s 3 N, (5, [], .bool true)]

theorem told3 (W0 : World) (n : Int) (m v : Nat) (h0 : 0 < m) (h1 : m ≤ 100) (h : n % m = v) : AsTold Tryz.prog W0 (w3 n m v) := within_told W0 n m v (by omega) (by omega) h

theorem all_told (W0 : World) (s a k : Int) (N p K : Nat) (hN3 : N < 3) (hN : s % ((3 : Nat) : Int) = N) (hp : a % ((N + 2 : Nat) : Int) = p) (hk : k % ((5 : Nat) : Int) = K) : ∀ x ∈ told s a k N p K ++ told s a k N p K, AsTold Tryz.prog W0 x := by
  intro x hx
  have hx' : x = w3 k 5 K ∨ x = w3 a (N + 2) p ∨ x = w3 s 3 N ∨ x = (5, [], .bool true) := by
    rcases List.mem_append.1 hx with h | h <;> simpa [told] using h
  rcases hx' with rfl | rfl | rfl | rfl
  · exact told3 W0 _ 5 K (by omega) (by omega) hk
  · exact told3 W0 _ (N + 2) p (by omega) (by omega) hp
  · exact told3 W0 _ 3 N (by omega) (by omega) hN
  · exact known_told W0

/-- One case. -/
theorem case (s a k : Int) (N p K : Nat) (hN3 : N < 3) (hN : s % ((3 : Nat) : Int) = N) (hp : a % ((N + 2 : Nat) : Int) = p) (hk : k % ((5 : Nat) : Int) = K)
    (h : chkS (execF Tryz.prog [] (ovA N p K) 1000000 (.call 4 [.int .i64 s, .int .i64 a, .int .i64 k]) .leaf 0 .leaf 0 []) = some (true, told s a k N p K ++ told s a k N p K)) (w : World) :
    Calls Tryz.prog 4 #[.int .i64 s, .int .i64 a, .int .i64 k] w fun e w' => e = .returned (.bool true) ∧ Below w.heap.size w w' :=
  fit.callsS (args := [.int .i64 s, .int .i64 a, .int .i64 k]) rfl (chk_fast h) (fun W => all_told W s a k N p K hN3 hN hp hk) w

end Go.Proofs.YtnoakjddgllbfaaGreat.autoSingles
