/-
  SchemaKnown: so many of its cases, each a closed run.
-/
import Derived.Test.YtnaaiejphofhpaaDoorSchemaKnown0
namespace Go.Proofs.YtnaaiejphofhpaaDoor.schemaKnown
set_option linter.unusedSimpArgs false
set_option linter.unusedVariables false
open Go.Am Go.RowKit

theorem e0 (a : Int) : sift noCk (chkS (execF Tryd.prog XS (ov 0 0) 1000000 (.call 3 [.int .i64 a]) .leaf 0 (tabTree T8) NG [])) = some (true, repA 1 [(7, [.int .i64 a, .int .i64 20], .int .i64 0), (6, [], .bool true)]) := by kernel_rfl
theorem e1 (a : Int) : sift noCk (chkS (execF Tryd.prog XS (ov 1 0) 1000000 (.call 3 [.int .i64 a]) .leaf 0 (tabTree T8) NG [])) = some (true, repA 1 [(7, [.int .i64 a, .int .i64 20], .int .i64 1), (6, [], .bool true)]) := by kernel_rfl
theorem e2 (a : Int) : sift noCk (chkS (execF Tryd.prog XS (ov 2 0) 1000000 (.call 3 [.int .i64 a]) .leaf 0 (tabTree T8) NG [])) = some (true, repA 1 [(7, [.int .i64 a, .int .i64 20], .int .i64 2), (6, [], .bool true)]) := by kernel_rfl
theorem e3 (a : Int) : sift noCk (chkS (execF Tryd.prog XS (ov 3 0) 1000000 (.call 3 [.int .i64 a]) .leaf 0 (tabTree T8) NG [])) = some (true, repA 1 [(7, [.int .i64 a, .int .i64 20], .int .i64 3), (6, [], .bool true)]) := by kernel_rfl
theorem e4 (a : Int) : sift noCk (chkS (execF Tryd.prog XS (ov 4 0) 1000000 (.call 3 [.int .i64 a]) .leaf 0 (tabTree T8) NG [])) = some (true, repA 1 [(7, [.int .i64 a, .int .i64 20], .int .i64 4), (6, [], .bool true)]) := by kernel_rfl

end Go.Proofs.YtnaaiejphofhpaaDoor.schemaKnown
