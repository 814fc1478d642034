/-
  DtdKnown: so many of its cases, each a closed run.
-/
import Derived.Test.YtgljmhhdjdbhgaaGreatDtdKnown0
namespace Go.Proofs.YtgljmhhdjdbhgaaGreat.dtdKnown
set_option linter.unusedSimpArgs false
set_option linter.unusedVariables false
open Go.Am Go.RowKit

theorem e0 (a : Int) : sift ckWith (chkS (execF Tryz.prog XS (ov 0 0) 1000000 (.call 6 [.int .i64 a]) .leaf 0 (tabTree T8) NG [])) = some (true, repA 1 [(12, [.int .i64 a, .int .i64 6], .int .i64 0), (10, [], .bool true)]) := by kernel_rfl
theorem e1 (a : Int) : sift ckWith (chkS (execF Tryz.prog XS (ov 1 0) 1000000 (.call 6 [.int .i64 a]) .leaf 0 (tabTree T8) NG [])) = some (true, repA 1 [(12, [.int .i64 a, .int .i64 6], .int .i64 1), (10, [], .bool true)]) := by kernel_rfl

end Go.Proofs.YtgljmhhdjdbhgaaGreat.dtdKnown
