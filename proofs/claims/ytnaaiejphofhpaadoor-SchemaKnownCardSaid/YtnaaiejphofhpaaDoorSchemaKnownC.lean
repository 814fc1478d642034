/-
  SchemaKnown: so many of its cases, each a closed run.
-/
import Derived.Test.YtnaaiejphofhpaaDoorSchemaKnown0
namespace Go.Proofs.YtnaaiejphofhpaaDoor.schemaKnown
set_option linter.unusedSimpArgs false
set_option linter.unusedVariables false
open Go.Am Go.RowKit

theorem e10 (a : Int) : sift noCk (chkS (execF Tryd.prog XS (ov 10 0) 1000000 (.call 3 [.int .i64 a]) .leaf 0 (tabTree T8) NG [])) = some (true, repA 1 [(7, [.int .i64 a, .int .i64 20], .int .i64 10), (6, [], .bool true)]) := by kernel_rfl
theorem e11 (a : Int) : sift noCk (chkS (execF Tryd.prog XS (ov 11 0) 1000000 (.call 3 [.int .i64 a]) .leaf 0 (tabTree T8) NG [])) = some (true, repA 1 [(7, [.int .i64 a, .int .i64 20], .int .i64 11), (6, [], .bool true)]) := by kernel_rfl
theorem e12 (a : Int) : sift noCk (chkS (execF Tryd.prog XS (ov 12 0) 1000000 (.call 3 [.int .i64 a]) .leaf 0 (tabTree T8) NG [])) = some (true, repA 1 [(7, [.int .i64 a, .int .i64 20], .int .i64 12), (6, [], .bool true)]) := by kernel_rfl
theorem e13 (a : Int) : sift noCk (chkS (execF Tryd.prog XS (ov 13 0) 1000000 (.call 3 [.int .i64 a]) .leaf 0 (tabTree T8) NG [])) = some (true, repA 1 [(7, [.int .i64 a, .int .i64 20], .int .i64 13), (6, [], .bool true)]) := by kernel_rfl
theorem e14 (a : Int) : sift noCk (chkS (execF Tryd.prog XS (ov 14 0) 1000000 (.call 3 [.int .i64 a]) .leaf 0 (tabTree T8) NG [])) = some (true, repA 1 [(7, [.int .i64 a, .int .i64 20], .int .i64 14), (6, [], .bool true)]) := by kernel_rfl

end Go.Proofs.YtnaaiejphofhpaaDoor.schemaKnown
