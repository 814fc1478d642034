/-
  SchemaModels: so many of its cases, each a closed run.
-/
import Derived.Test.YtnaaiejphofhpaaDoorSchemaModels0
namespace Go.Proofs.YtnaaiejphofhpaaDoor.schemaModels
set_option linter.unusedSimpArgs false
set_option linter.unusedVariables false
open Go.Am Go.RowKit

theorem e13_2 (a b : Int) : sift noCk (chkS (execF Tryd.prog XS (ov 13 2) 1000000 (.call 5 [.int .i64 a, .int .i64 b]) .leaf 0 (tabTree T8) NG [])) = some (true, repA 1 [(7, [.int .i64 b, .int .i64 6], .int .i64 2), (7, [.int .i64 a, .int .i64 15], .int .i64 13), (6, [], .bool true)]) := by kernel_rfl
theorem e13_3 (a b : Int) : sift noCk (chkS (execF Tryd.prog XS (ov 13 3) 1000000 (.call 5 [.int .i64 a, .int .i64 b]) .leaf 0 (tabTree T8) NG [])) = some (true, repA 1 [(7, [.int .i64 b, .int .i64 6], .int .i64 3), (7, [.int .i64 a, .int .i64 15], .int .i64 13), (6, [], .bool true)]) := by kernel_rfl
theorem e13_4 (a b : Int) : sift noCk (chkS (execF Tryd.prog XS (ov 13 4) 1000000 (.call 5 [.int .i64 a, .int .i64 b]) .leaf 0 (tabTree T8) NG [])) = some (true, repA 1 [(7, [.int .i64 b, .int .i64 6], .int .i64 4), (7, [.int .i64 a, .int .i64 15], .int .i64 13), (6, [], .bool true)]) := by kernel_rfl
theorem e13_5 (a b : Int) : sift noCk (chkS (execF Tryd.prog XS (ov 13 5) 1000000 (.call 5 [.int .i64 a, .int .i64 b]) .leaf 0 (tabTree T8) NG [])) = some (true, repA 1 [(7, [.int .i64 b, .int .i64 6], .int .i64 5), (7, [.int .i64 a, .int .i64 15], .int .i64 13), (6, [], .bool true)]) := by kernel_rfl
theorem e14_0 (a b : Int) : sift noCk (chkS (execF Tryd.prog XS (ov 14 0) 1000000 (.call 5 [.int .i64 a, .int .i64 b]) .leaf 0 (tabTree T8) NG [])) = some (true, repA 1 [(7, [.int .i64 b, .int .i64 6], .int .i64 0), (7, [.int .i64 a, .int .i64 15], .int .i64 14), (6, [], .bool true)]) := by kernel_rfl
theorem e14_1 (a b : Int) : sift noCk (chkS (execF Tryd.prog XS (ov 14 1) 1000000 (.call 5 [.int .i64 a, .int .i64 b]) .leaf 0 (tabTree T8) NG [])) = some (true, repA 1 [(7, [.int .i64 b, .int .i64 6], .int .i64 1), (7, [.int .i64 a, .int .i64 15], .int .i64 14), (6, [], .bool true)]) := by kernel_rfl
theorem e14_2 (a b : Int) : sift noCk (chkS (execF Tryd.prog XS (ov 14 2) 1000000 (.call 5 [.int .i64 a, .int .i64 b]) .leaf 0 (tabTree T8) NG [])) = some (true, repA 1 [(7, [.int .i64 b, .int .i64 6], .int .i64 2), (7, [.int .i64 a, .int .i64 15], .int .i64 14), (6, [], .bool true)]) := by kernel_rfl
theorem e14_3 (a b : Int) : sift noCk (chkS (execF Tryd.prog XS (ov 14 3) 1000000 (.call 5 [.int .i64 a, .int .i64 b]) .leaf 0 (tabTree T8) NG [])) = some (true, repA 1 [(7, [.int .i64 b, .int .i64 6], .int .i64 3), (7, [.int .i64 a, .int .i64 15], .int .i64 14), (6, [], .bool true)]) := by kernel_rfl
theorem e14_4 (a b : Int) : sift noCk (chkS (execF Tryd.prog XS (ov 14 4) 1000000 (.call 5 [.int .i64 a, .int .i64 b]) .leaf 0 (tabTree T8) NG [])) = some (true, repA 1 [(7, [.int .i64 b, .int .i64 6], .int .i64 4), (7, [.int .i64 a, .int .i64 15], .int .i64 14), (6, [], .bool true)]) := by kernel_rfl
theorem e14_5 (a b : Int) : sift noCk (chkS (execF Tryd.prog XS (ov 14 5) 1000000 (.call 5 [.int .i64 a, .int .i64 b]) .leaf 0 (tabTree T8) NG [])) = some (true, repA 1 [(7, [.int .i64 b, .int .i64 6], .int .i64 5), (7, [.int .i64 a, .int .i64 15], .int .i64 14), (6, [], .bool true)]) := by kernel_rfl

end Go.Proofs.YtnaaiejphofhpaaDoor.schemaModels
