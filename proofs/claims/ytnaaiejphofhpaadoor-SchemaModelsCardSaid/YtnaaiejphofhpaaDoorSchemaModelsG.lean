/-
  SchemaModels: so many of its cases, each a closed run.
-/
import Derived.Test.YtnaaiejphofhpaaDoorSchemaModels0
namespace Go.Proofs.YtnaaiejphofhpaaDoor.schemaModels
set_option linter.unusedSimpArgs false
set_option linter.unusedVariables false
open Go.Am Go.RowKit

theorem e10_0 (a b : Int) : sift noCk (chkS (execF Tryd.prog XS (ov 10 0) 1000000 (.call 5 [.int .i64 a, .int .i64 b]) .leaf 0 (tabTree T8) NG [])) = some (true, repA 1 [(7, [.int .i64 b, .int .i64 6], .int .i64 0), (7, [.int .i64 a, .int .i64 15], .int .i64 10), (6, [], .bool true)]) := by kernel_rfl
theorem e10_1 (a b : Int) : sift noCk (chkS (execF Tryd.prog XS (ov 10 1) 1000000 (.call 5 [.int .i64 a, .int .i64 b]) .leaf 0 (tabTree T8) NG [])) = some (true, repA 1 [(7, [.int .i64 b, .int .i64 6], .int .i64 1), (7, [.int .i64 a, .int .i64 15], .int .i64 10), (6, [], .bool true)]) := by kernel_rfl
theorem e10_2 (a b : Int) : sift noCk (chkS (execF Tryd.prog XS (ov 10 2) 1000000 (.call 5 [.int .i64 a, .int .i64 b]) .leaf 0 (tabTree T8) NG [])) = some (true, repA 1 [(7, [.int .i64 b, .int .i64 6], .int .i64 2), (7, [.int .i64 a, .int .i64 15], .int .i64 10), (6, [], .bool true)]) := by kernel_rfl
theorem e10_3 (a b : Int) : sift noCk (chkS (execF Tryd.prog XS (ov 10 3) 1000000 (.call 5 [.int .i64 a, .int .i64 b]) .leaf 0 (tabTree T8) NG [])) = some (true, repA 1 [(7, [.int .i64 b, .int .i64 6], .int .i64 3), (7, [.int .i64 a, .int .i64 15], .int .i64 10), (6, [], .bool true)]) := by kernel_rfl
theorem e10_4 (a b : Int) : sift noCk (chkS (execF Tryd.prog XS (ov 10 4) 1000000 (.call 5 [.int .i64 a, .int .i64 b]) .leaf 0 (tabTree T8) NG [])) = some (true, repA 1 [(7, [.int .i64 b, .int .i64 6], .int .i64 4), (7, [.int .i64 a, .int .i64 15], .int .i64 10), (6, [], .bool true)]) := by kernel_rfl
theorem e10_5 (a b : Int) : sift noCk (chkS (execF Tryd.prog XS (ov 10 5) 1000000 (.call 5 [.int .i64 a, .int .i64 b]) .leaf 0 (tabTree T8) NG [])) = some (true, repA 1 [(7, [.int .i64 b, .int .i64 6], .int .i64 5), (7, [.int .i64 a, .int .i64 15], .int .i64 10), (6, [], .bool true)]) := by kernel_rfl
theorem e11_0 (a b : Int) : sift noCk (chkS (execF Tryd.prog XS (ov 11 0) 1000000 (.call 5 [.int .i64 a, .int .i64 b]) .leaf 0 (tabTree T8) NG [])) = some (true, repA 1 [(7, [.int .i64 b, .int .i64 6], .int .i64 0), (7, [.int .i64 a, .int .i64 15], .int .i64 11), (6, [], .bool true)]) := by kernel_rfl
theorem e11_1 (a b : Int) : sift noCk (chkS (execF Tryd.prog XS (ov 11 1) 1000000 (.call 5 [.int .i64 a, .int .i64 b]) .leaf 0 (tabTree T8) NG [])) = some (true, repA 1 [(7, [.int .i64 b, .int .i64 6], .int .i64 1), (7, [.int .i64 a, .int .i64 15], .int .i64 11), (6, [], .bool true)]) := by kernel_rfl
theorem e11_2 (a b : Int) : sift noCk (chkS (execF Tryd.prog XS (ov 11 2) 1000000 (.call 5 [.int .i64 a, .int .i64 b]) .leaf 0 (tabTree T8) NG [])) = some (true, repA 1 [(7, [.int .i64 b, .int .i64 6], .int .i64 2), (7, [.int .i64 a, .int .i64 15], .int .i64 11), (6, [], .bool true)]) := by kernel_rfl
theorem e11_3 (a b : Int) : sift noCk (chkS (execF Tryd.prog XS (ov 11 3) 1000000 (.call 5 [.int .i64 a, .int .i64 b]) .leaf 0 (tabTree T8) NG [])) = some (true, repA 1 [(7, [.int .i64 b, .int .i64 6], .int .i64 3), (7, [.int .i64 a, .int .i64 15], .int .i64 11), (6, [], .bool true)]) := by kernel_rfl

end Go.Proofs.YtnaaiejphofhpaaDoor.schemaModels
