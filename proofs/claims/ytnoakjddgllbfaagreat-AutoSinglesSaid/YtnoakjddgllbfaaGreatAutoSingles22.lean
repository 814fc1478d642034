/-
  The law AutoSingles: five of its runs.
-/
import Derived.Test.YtnoakjddgllbfaaGreatAutoSinglesA
namespace Go.Proofs.YtnoakjddgllbfaaGreat.autoSingles
set_option linter.unusedSimpArgs false
set_option linter.unusedVariables false
open Go.Am Go.RowKit

theorem r220 (s a k : Int) : chkS (execF Tryz.prog [] (ovA 2 2 0) 1000000 (.call 4 [.int .i64 s, .int .i64 a, .int .i64 k]) .leaf 0 .leaf 0 []) = some (true, told s a k 2 2 0 ++ told s a k 2 2 0) := by kernel_rfl
theorem r221 (s a k : Int) : chkS (execF Tryz.prog [] (ovA 2 2 1) 1000000 (.call 4 [.int .i64 s, .int .i64 a, .int .i64 k]) .leaf 0 .leaf 0 []) = some (true, told s a k 2 2 1 ++ told s a k 2 2 1) := by kernel_rfl
theorem r222 (s a k : Int) : chkS (execF Tryz.prog [] (ovA 2 2 2) 1000000 (.call 4 [.int .i64 s, .int .i64 a, .int .i64 k]) .leaf 0 .leaf 0 []) = some (true, told s a k 2 2 2 ++ told s a k 2 2 2) := by kernel_rfl
theorem r223 (s a k : Int) : chkS (execF Tryz.prog [] (ovA 2 2 3) 1000000 (.call 4 [.int .i64 s, .int .i64 a, .int .i64 k]) .leaf 0 .leaf 0 []) = some (true, told s a k 2 2 3 ++ told s a k 2 2 3) := by kernel_rfl
theorem r224 (s a k : Int) : chkS (execF Tryz.prog [] (ovA 2 2 4) 1000000 (.call 4 [.int .i64 s, .int .i64 a, .int .i64 k]) .leaf 0 .leaf 0 []) = some (true, told s a k 2 2 4 ++ told s a k 2 2 4) := by kernel_rfl

end Go.Proofs.YtnoakjddgllbfaaGreat.autoSingles
