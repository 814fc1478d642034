/-
  DtdModels: so many of its cases, each a closed run.
-/
import Derived.Test.YtgljmhhdjdbhgaaGreatDtdModels0
namespace Go.Proofs.YtgljmhhdjdbhgaaGreat.dtdModels
set_option linter.unusedSimpArgs false
set_option linter.unusedVariables false
open Go.Am Go.RowKit

theorem e15_0 (a b : Int) : sift ckWith (chkS (execF Tryz.prog XS (ov 15 0) 1000000 (.call 7 [.int .i64 a, .int .i64 b]) .leaf 0 (tabTree T8) NG [])) = some (true, repA 1 [(12, [.int .i64 b, .int .i64 6], .int .i64 0), (12, [.int .i64 a, .int .i64 17], .int .i64 15), (10, [], .bool true)]) := by kernel_rfl
theorem e15_1 (a b : Int) : sift ckWith (chkS (execF Tryz.prog XS (ov 15 1) 1000000 (.call 7 [.int .i64 a, .int .i64 b]) .leaf 0 (tabTree T8) NG [])) = some (true, repA 1 [(12, [.int .i64 b, .int .i64 6], .int .i64 1), (12, [.int .i64 a, .int .i64 17], .int .i64 15), (10, [], .bool true)]) := by kernel_rfl
theorem e15_2 (a b : Int) : sift ckWith (chkS (execF Tryz.prog XS (ov 15 2) 1000000 (.call 7 [.int .i64 a, .int .i64 b]) .leaf 0 (tabTree T8) NG [])) = some (true, repA 1 [(12, [.int .i64 b, .int .i64 6], .int .i64 2), (12, [.int .i64 a, .int .i64 17], .int .i64 15), (10, [], .bool true)]) := by kernel_rfl
theorem e15_3 (a b : Int) : sift ckWith (chkS (execF Tryz.prog XS (ov 15 3) 1000000 (.call 7 [.int .i64 a, .int .i64 b]) .leaf 0 (tabTree T8) NG [])) = some (true, repA 1 [(12, [.int .i64 b, .int .i64 6], .int .i64 3), (12, [.int .i64 a, .int .i64 17], .int .i64 15), (10, [], .bool true)]) := by kernel_rfl
theorem e15_4 (a b : Int) : sift ckWith (chkS (execF Tryz.prog XS (ov 15 4) 1000000 (.call 7 [.int .i64 a, .int .i64 b]) .leaf 0 (tabTree T8) NG [])) = some (true, repA 1 [(12, [.int .i64 b, .int .i64 6], .int .i64 4), (12, [.int .i64 a, .int .i64 17], .int .i64 15), (10, [], .bool true)]) := by kernel_rfl
theorem e15_5 (a b : Int) : sift ckWith (chkS (execF Tryz.prog XS (ov 15 5) 1000000 (.call 7 [.int .i64 a, .int .i64 b]) .leaf 0 (tabTree T8) NG [])) = some (true, repA 1 [(12, [.int .i64 b, .int .i64 6], .int .i64 5), (12, [.int .i64 a, .int .i64 17], .int .i64 15), (10, [], .bool true)]) := by kernel_rfl

end Go.Proofs.YtgljmhhdjdbhgaaGreat.dtdModels
