/-
  SchemaForms: so many of its cases, each a closed run.
-/
import Derived.Test.YtnaaiejphofhpaaDoorSchemaForms0
namespace Go.Proofs.YtnaaiejphofhpaaDoor.schemaForms
set_option linter.unusedSimpArgs false
set_option linter.unusedVariables false
open Go.Am Go.RowKit

theorem e3 (a : Int) : sift noCk (chkS (execF Tryd.prog XS (ov 3 0) 1000000 (.call 4 [.int .i64 a]) .leaf 0 (tabTree T8) NG [])) = some (true, repA 1 [(7, [.int .i64 a, .int .i64 8], .int .i64 3), (6, [], .bool true)]) := by kernel_rfl
theorem e4 (a : Int) : sift noCk (chkS (execF Tryd.prog XS (ov 4 0) 1000000 (.call 4 [.int .i64 a]) .leaf 0 (tabTree T8) NG [])) = some (true, repA 1 [(7, [.int .i64 a, .int .i64 8], .int .i64 4), (6, [], .bool true)]) := by kernel_rfl
theorem e5 (a : Int) : sift noCk (chkS (execF Tryd.prog XS (ov 5 0) 1000000 (.call 4 [.int .i64 a]) .leaf 0 (tabTree T8) NG [])) = some (true, repA 1 [(7, [.int .i64 a, .int .i64 8], .int .i64 5), (6, [], .bool true)]) := by kernel_rfl

end Go.Proofs.YtnaaiejphofhpaaDoor.schemaForms
