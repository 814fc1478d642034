/-
  ExprKnown: its cases 18 to 22, each a closed run.
-/
import Derived.Test.YtapkonmljbmojaaDoorBase5F
namespace Go.Proofs.YtapkonmljbmojaaDoor.exprKnown
set_option linter.unusedSimpArgs false
set_option linter.unusedVariables false
open Go.Am Go.RowKit

def ov3 (k : Int) : Nat → FuncId → List Value → Option Value := fun _ f _ => cond (Nat.beq f 14) (some (.bool true)) (cond (Nat.beq f 16) (some (.int .i64 k)) none)
theorem e18 (a : Int) : sift noCk (chkS (execF Tryd.prog XS (ov3 18) 1000000 (.call 3 [.int .i64 a]) .leaf 0 (tabTree T5) NG [])) = some (true, repA 1 [(16, [.int .i64 a, .int .i64 23], .int .i64 18), (14, [], .bool true)]) := by kernel_rfl
theorem e19 (a : Int) : sift noCk (chkS (execF Tryd.prog XS (ov3 19) 1000000 (.call 3 [.int .i64 a]) .leaf 0 (tabTree T5) NG [])) = some (true, repA 1 [(16, [.int .i64 a, .int .i64 23], .int .i64 19), (14, [], .bool true)]) := by kernel_rfl
theorem e20 (a : Int) : sift noCk (chkS (execF Tryd.prog XS (ov3 20) 1000000 (.call 3 [.int .i64 a]) .leaf 0 (tabTree T5) NG [])) = some (true, repA 1 [(16, [.int .i64 a, .int .i64 23], .int .i64 20), (14, [], .bool true)]) := by kernel_rfl
theorem e21 (a : Int) : sift noCk (chkS (execF Tryd.prog XS (ov3 21) 1000000 (.call 3 [.int .i64 a]) .leaf 0 (tabTree T5) NG [])) = some (true, repA 1 [(16, [.int .i64 a, .int .i64 23], .int .i64 21), (14, [], .bool true)]) := by kernel_rfl
theorem e22 (a : Int) : sift noCk (chkS (execF Tryd.prog XS (ov3 22) 1000000 (.call 3 [.int .i64 a]) .leaf 0 (tabTree T5) NG [])) = some (true, repA 1 [(16, [.int .i64 a, .int .i64 23], .int .i64 22), (14, [], .bool true)]) := by kernel_rfl

end Go.Proofs.YtapkonmljbmojaaDoor.exprKnown
