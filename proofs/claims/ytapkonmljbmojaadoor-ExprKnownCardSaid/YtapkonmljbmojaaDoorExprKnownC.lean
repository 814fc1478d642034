/-
  ExprKnown: its cases 12 to 17, each a closed run.
-/
import Derived.Test.YtapkonmljbmojaaDoorBase5F
namespace Go.Proofs.YtapkonmljbmojaaDoor.exprKnown
set_option linter.unusedSimpArgs false
set_option linter.unusedVariables false
open Go.Am Go.RowKit

def ov2 (k : Int) : Nat → FuncId → List Value → Option Value := fun _ f _ => cond (Nat.beq f 14) (some (.bool true)) (cond (Nat.beq f 16) (some (.int .i64 k)) none)
theorem e12 (a : Int) : sift noCk (chkS (execF Tryd.prog XS (ov2 12) 1000000 (.call 3 [.int .i64 a]) .leaf 0 (tabTree T5) NG [])) = some (true, repA 1 [(16, [.int .i64 a, .int .i64 23], .int .i64 12), (14, [], .bool true)]) := by kernel_rfl
theorem e13 (a : Int) : sift noCk (chkS (execF Tryd.prog XS (ov2 13) 1000000 (.call 3 [.int .i64 a]) .leaf 0 (tabTree T5) NG [])) = some (true, repA 1 [(16, [.int .i64 a, .int .i64 23], .int .i64 13), (14, [], .bool true)]) := by kernel_rfl
theorem e14 (a : Int) : sift noCk (chkS (execF Tryd.prog XS (ov2 14) 1000000 (.call 3 [.int .i64 a]) .leaf 0 (tabTree T5) NG [])) = some (true, repA 1 [(16, [.int .i64 a, .int .i64 23], .int .i64 14), (14, [], .bool true)]) := by kernel_rfl
theorem e15 (a : Int) : sift noCk (chkS (execF Tryd.prog XS (ov2 15) 1000000 (.call 3 [.int .i64 a]) .leaf 0 (tabTree T5) NG [])) = some (true, repA 1 [(16, [.int .i64 a, .int .i64 23], .int .i64 15), (14, [], .bool true)]) := by kernel_rfl
theorem e16 (a : Int) : sift noCk (chkS (execF Tryd.prog XS (ov2 16) 1000000 (.call 3 [.int .i64 a]) .leaf 0 (tabTree T5) NG [])) = some (true, repA 1 [(16, [.int .i64 a, .int .i64 23], .int .i64 16), (14, [], .bool true)]) := by kernel_rfl
theorem e17 (a : Int) : sift noCk (chkS (execF Tryd.prog XS (ov2 17) 1000000 (.call 3 [.int .i64 a]) .leaf 0 (tabTree T5) NG [])) = some (true, repA 1 [(16, [.int .i64 a, .int .i64 23], .int .i64 17), (14, [], .bool true)]) := by kernel_rfl

end Go.Proofs.YtapkonmljbmojaaDoor.exprKnown
