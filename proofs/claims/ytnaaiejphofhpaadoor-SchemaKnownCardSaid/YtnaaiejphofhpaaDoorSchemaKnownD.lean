/-
  SchemaKnown: so many of its cases, each a closed run.
-/
import Derived.Test.YtnaaiejphofhpaaDoorSchemaKnown0
namespace Go.Proofs.YtnaaiejphofhpaaDoor.schemaKnown
set_option linter.unusedSimpArgs false
set_option linter.unusedVariables false
open Go.Am Go.RowKit

theorem e15 (a : Int) : sift noCk (chkS (execF Tryd.prog XS (ov 15 0) 1000000 (.call 3 [.int .i64 a]) .leaf 0 (tabTree T8) NG [])) = some (true, repA 1 [(7, [.int .i64 a, .int .i64 20], .int .i64 15), (6, [], .bool true)]) := by kernel_rfl
theorem e16 (a : Int) : sift noCk (chkS (execF Tryd.prog XS (ov 16 0) 1000000 (.call 3 [.int .i64 a]) .leaf 0 (tabTree T8) NG [])) = some (true, repA 1 [(7, [.int .i64 a, .int .i64 20], .int .i64 16), (6, [], .bool true)]) := by kernel_rfl
theorem e17 (a : Int) : sift noCk (chkS (execF Tryd.prog XS (ov 17 0) 1000000 (.call 3 [.int .i64 a]) .leaf 0 (tabTree T8) NG [])) = some (true, repA 1 [(7, [.int .i64 a, .int .i64 20], .int .i64 17), (6, [], .bool true)]) := by kernel_rfl
theorem e18 (a : Int) : sift noCk (chkS (execF Tryd.prog XS (ov 18 0) 1000000 (.call 3 [.int .i64 a]) .leaf 0 (tabTree T8) NG [])) = some (true, repA 1 [(7, [.int .i64 a, .int .i64 20], .int .i64 18), (6, [], .bool true)]) := by kernel_rfl
theorem e19 (a : Int) : sift noCk (chkS (execF Tryd.prog XS (ov 19 0) 1000000 (.call 3 [.int .i64 a]) .leaf 0 (tabTree T8) NG [])) = some (true, repA 1 [(7, [.int .i64 a, .int .i64 20], .int .i64 19), (6, [], .bool true)]) := by kernel_rfl

end Go.Proofs.YtnaaiejphofhpaaDoor.schemaKnown
