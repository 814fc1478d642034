/-
  SchemaKnown: so many of its cases, each a closed run.
-/
import Derived.Test.YtnaaiejphofhpaaDoorSchemaKnown0
namespace Go.Proofs.YtnaaiejphofhpaaDoor.schemaKnown
set_option linter.unusedSimpArgs false
set_option linter.unusedVariables false
open Go.Am Go.RowKit

theorem e5 (a : Int) : sift noCk (chkS (execF Tryd.prog XS (ov 5 0) 1000000 (.call 3 [.int .i64 a]) .leaf 0 (tabTree T8) NG [])) = some (true, repA 1 [(7, [.int .i64 a, .int .i64 20], .int .i64 5), (6, [], .bool true)]) := by kernel_rfl
theorem e6 (a : Int) : sift noCk (chkS (execF Tryd.prog XS (ov 6 0) 1000000 (.call 3 [.int .i64 a]) .leaf 0 (tabTree T8) NG [])) = some (true, repA 1 [(7, [.int .i64 a, .int .i64 20], .int .i64 6), (6, [], .bool true)]) := by kernel_rfl
theorem e7 (a : Int) : sift noCk (chkS (execF Tryd.prog XS (ov 7 0) 1000000 (.call 3 [.int .i64 a]) .leaf 0 (tabTree T8) NG [])) = some (true, repA 1 [(7, [.int .i64 a, .int .i64 20], .int .i64 7), (6, [], .bool true)]) := by kernel_rfl
theorem e8 (a : Int) : sift noCk (chkS (execF Tryd.prog XS (ov 8 0) 1000000 (.call 3 [.int .i64 a]) .leaf 0 (tabTree T8) NG [])) = some (true, repA 1 [(7, [.int .i64 a, .int .i64 20], .int .i64 8), (6, [], .bool true)]) := by kernel_rfl
theorem e9 (a : Int) : sift noCk (chkS (execF Tryd.prog XS (ov 9 0) 1000000 (.call 3 [.int .i64 a]) .leaf 0 (tabTree T8) NG [])) = some (true, repA 1 [(7, [.int .i64 a, .int .i64 20], .int .i64 9), (6, [], .bool true)]) := by kernel_rfl

end Go.Proofs.YtnaaiejphofhpaaDoor.schemaKnown
