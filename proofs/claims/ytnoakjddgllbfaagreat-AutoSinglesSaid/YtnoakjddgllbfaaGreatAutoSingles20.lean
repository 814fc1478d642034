/-
  The law AutoSingles: five of its runs.
-/
import Derived.Test.YtnoakjddgllbfaaGreatAutoSinglesA
namespace Go.Proofs.YtnoakjddgllbfaaGreat.autoSingles
set_option linter.unusedSimpArgs false
set_option linter.unusedVariables false
open Go.Am Go.RowKit

theorem r200 (s a k : Int) : chkS (execF Tryz.prog [] (ovA 2 0 0) 1000000 (.call 4 [.int .i64 s, .int .i64 a, .int .i64 k]) .leaf 0 .leaf 0 []) = some (true, told s a k 2 0 0 ++ told s a k 2 0 0) := by kernel_rfl
theorem r201 (s a k : Int) : chkS (execF Tryz.prog [] (ovA 2 0 1) 1000000 (.call 4 [.int .i64 s, .int .i64 a, .int .i64 k]) .leaf 0 .leaf 0 []) = some (true, told s a k 2 0 1 ++ told s a k 2 0 1) := by kernel_rfl
theorem r202 (s a k : Int) : chkS (execF Tryz.prog [] (ovA 2 0 2) 1000000 (.call 4 [.int .i64 s, .int .i64 a, .int .i64 k]) .leaf 0 .leaf 0 []) = some (true, told s a k 2 0 2 ++ told s a k 2 0 2) := by kernel_rfl
theorem r203 (s a k : Int) : chkS (execF Tryz.prog [] (ovA 2 0 3) 1000000 (.call 4 [.int .i64 s, .int .i64 a, .int .i64 k]) .leaf 0 .leaf 0 []) = some (true, told s a k 2 0 3 ++ told s a k 2 0 3) := by kernel_rfl
theorem r204 (s a k : Int) : chkS (execF Tryz.prog [] (ovA 2 0 4) 1000000 (.call 4 [.int .i64 s, .int .i64 a, .int .i64 k]) .leaf 0 .leaf 0 []) = some (true, told s a k 2 0 4 ++ told s a k 2 0 4) := by kernel_rfl

end Go.Proofs.YtnoakjddgllbfaaGreat.autoSingles
