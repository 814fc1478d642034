/-
  The law AutoSingles: five of its runs.
-/
import Derived.Test.YtnoakjddgllbfaaGreatAutoSinglesA
namespace Go.Proofs.YtnoakjddgllbfaaGreat.autoSingles
set_option linter.unusedSimpArgs false
set_option linter.unusedVariables false
open Go.Am Go.RowKit

theorem r230 (s a k : Int) : chkS (execF Tryz.prog [] (ovA 2 3 0) 1000000 (.call 4 [.int .i64 s, .int .i64 a, .int .i64 k]) .leaf 0 .leaf 0 []) = some (true, told s a k 2 3 0 ++ told s a k 2 3 0) := by kernel_rfl
theorem r231 (s a k : Int) : chkS (execF Tryz.prog [] (ovA 2 3 1) 1000000 (.call 4 [.int .i64 s, .int .i64 a, .int .i64 k]) .leaf 0 .leaf 0 []) = some (true, told s a k 2 3 1 ++ told s a k 2 3 1) := by kernel_rfl
theorem r232 (s a k : Int) : chkS (execF Tryz.prog [] (ovA 2 3 2) 1000000 (.call 4 [.int .i64 s, .int .i64 a, .int .i64 k]) .leaf 0 .leaf 0 []) = some (true, told s a k 2 3 2 ++ told s a k 2 3 2) := by kernel_rfl
theorem r233 (s a k : Int) : chkS (execF Tryz.prog [] (ovA 2 3 3) 1000000 (.call 4 [.int .i64 s, .int .i64 a, .int .i64 k]) .leaf 0 .leaf 0 []) = some (true, told s a k 2 3 3 ++ told s a k 2 3 3) := by kernel_rfl
theorem r234 (s a k : Int) : chkS (execF Tryz.prog [] (ovA 2 3 4) 1000000 (.call 4 [.int .i64 s, .int .i64 a, .int .i64 k]) .leaf 0 .leaf 0 []) = some (true, told s a k 2 3 4 ++ told s a k 2 3 4) := by kernel_rfl

end Go.Proofs.YtnoakjddgllbfaaGreat.autoSingles
