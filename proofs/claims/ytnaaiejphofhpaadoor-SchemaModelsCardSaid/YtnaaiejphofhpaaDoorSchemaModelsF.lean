/-
  SchemaModels: so many of its cases, each a closed run.
-/
import Derived.Test.YtnaaiejphofhpaaDoorSchemaModels0
namespace Go.Proofs.YtnaaiejphofhpaaDoor.schemaModels
set_option linter.unusedSimpArgs false
set_option linter.unusedVariables false
open Go.Am Go.RowKit

theorem e8_2 (a b : Int) : sift noCk (chkS (execF Tryd.prog XS (ov 8 2) 1000000 (.call 5 [.int .i64 a, .int .i64 b]) .leaf 0 (tabTree T8) NG [])) = some (true, repA 1 [(7, [.int .i64 b, .int .i64 6], .int .i64 2), (7, [.int .i64 a, .int .i64 15], .int .i64 8), (6, [], .bool true)]) := by kernel_rfl
theorem e8_3 (a b : Int) : sift noCk (chkS (execF Tryd.prog XS (ov 8 3) 1000000 (.call 5 [.int .i64 a, .int .i64 b]) .leaf 0 (tabTree T8) NG [])) = some (true, repA 1 [(7, [.int .i64 b, .int .i64 6], .int .i64 3), (7, [.int .i64 a, .int .i64 15], .int .i64 8), (6, [], .bool true)]) := by kernel_rfl
theorem e8_4 (a b : Int) : sift noCk (chkS (execF Tryd.prog XS (ov 8 4) 1000000 (.call 5 [.int .i64 a, .int .i64 b]) .leaf 0 (tabTree T8) NG [])) = some (true, repA 1 [(7, [.int .i64 b, .int .i64 6], .int .i64 4), (7, [.int .i64 a, .int .i64 15], .int .i64 8), (6, [], .bool true)]) := by kernel_rfl
theorem e8_5 (a b : Int) : sift noCk (chkS (execF Tryd.prog XS (ov 8 5) 1000000 (.call 5 [.int .i64 a, .int .i64 b]) .leaf 0 (tabTree T8) NG [])) = some (true, repA 1 [(7, [.int .i64 b, .int .i64 6], .int .i64 5), (7, [.int .i64 a, .int .i64 15], .int .i64 8), (6, [], .bool true)]) := by kernel_rfl
theorem e9_0 (a b : Int) : sift noCk (chkS (execF Tryd.prog XS (ov 9 0) 1000000 (.call 5 [.int .i64 a, .int .i64 b]) .leaf 0 (tabTree T8) NG [])) = some (true, repA 1 [(7, [.int .i64 b, .int .i64 6], .int .i64 0), (7, [.int .i64 a, .int .i64 15], .int .i64 9), (6, [], .bool true)]) := by kernel_rfl
theorem e9_1 (a b : Int) : sift noCk (chkS (execF Tryd.prog XS (ov 9 1) 1000000 (.call 5 [.int .i64 a, .int .i64 b]) .leaf 0 (tabTree T8) NG [])) = some (true, repA 1 [(7, [.int .i64 b, .int .i64 6], .int .i64 1), (7, [.int .i64 a, .int .i64 15], .int .i64 9), (6, [], .bool true)]) := by kernel_rfl
theorem e9_2 (a b : Int) : sift noCk (chkS (execF Tryd.prog XS (ov 9 2) 1000000 (.call 5 [.int .i64 a, .int .i64 b]) .leaf 0 (tabTree T8) NG [])) = some (true, repA 1 [(7, [.int .i64 b, .int .i64 6], .int .i64 2), (7, [.int .i64 a, .int .i64 15], .int .i64 9), (6, [], .bool true)]) := by kernel_rfl
theorem e9_3 (a b : Int) : sift noCk (chkS (execF Tryd.prog XS (ov 9 3) 1000000 (.call 5 [.int .i64 a, .int .i64 b]) .leaf 0 (tabTree T8) NG [])) = some (true, repA 1 [(7, [.int .i64 b, .int .i64 6], .int .i64 3), (7, [.int .i64 a, .int .i64 15], .int .i64 9), (6, [], .bool true)]) := by kernel_rfl
theorem e9_4 (a b : Int) : sift noCk (chkS (execF Tryd.prog XS (ov 9 4) 1000000 (.call 5 [.int .i64 a, .int .i64 b]) .leaf 0 (tabTree T8) NG [])) = some (true, repA 1 [(7, [.int .i64 b, .int .i64 6], .int .i64 4), (7, [.int .i64 a, .int .i64 15], .int .i64 9), (6, [], .bool true)]) := by kernel_rfl
theorem e9_5 (a b : Int) : sift noCk (chkS (execF Tryd.prog XS (ov 9 5) 1000000 (.call 5 [.int .i64 a, .int .i64 b]) .leaf 0 (tabTree T8) NG [])) = some (true, repA 1 [(7, [.int .i64 b, .int .i64 6], .int .i64 5), (7, [.int .i64 a, .int .i64 15], .int .i64 9), (6, [], .bool true)]) := by kernel_rfl

end Go.Proofs.YtnaaiejphofhpaaDoor.schemaModels
