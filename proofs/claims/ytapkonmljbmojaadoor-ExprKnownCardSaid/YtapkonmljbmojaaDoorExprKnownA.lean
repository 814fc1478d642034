/-
  ExprKnown: its cases 0 to 5, each a closed run.
-/
import Derived.Test.YtapkonmljbmojaaDoorBase5F
namespace Go.Proofs.YtapkonmljbmojaaDoor.exprKnown
set_option linter.unusedSimpArgs false
set_option linter.unusedVariables false
open Go.Am Go.RowKit

def ov0 (k : Int) : Nat → FuncId → List Value → Option Value := fun _ f _ => cond (Nat.beq f 14) (some (.bool true)) (cond (Nat.beq f 16) (some (.int .i64 k)) none)
theorem e0 (a : Int) : sift noCk (chkS (execF Tryd.prog XS (ov0 0) 1000000 (.call 3 [.int .i64 a]) .leaf 0 (tabTree T5) NG [])) = some (true, repA 1 [(16, [.int .i64 a, .int .i64 23], .int .i64 0), (14, [], .bool true)]) := by kernel_rfl
theorem e1 (a : Int) : sift noCk (chkS (execF Tryd.prog XS (ov0 1) 1000000 (.call 3 [.int .i64 a]) .leaf 0 (tabTree T5) NG [])) = some (true, repA 1 [(16, [.int .i64 a, .int .i64 23], .int .i64 1), (14, [], .bool true)]) := by kernel_rfl
theorem e2 (a : Int) : sift noCk (chkS (execF Tryd.prog XS (ov0 2) 1000000 (.call 3 [.int .i64 a]) .leaf 0 (tabTree T5) NG [])) = some (true, repA 1 [(16, [.int .i64 a, .int .i64 23], .int .i64 2), (14, [], .bool true)]) := by kernel_rfl
theorem e3 (a : Int) : sift noCk (chkS (execF Tryd.prog XS (ov0 3) 1000000 (.call 3 [.int .i64 a]) .leaf 0 (tabTree T5) NG [])) = some (true, repA 1 [(16, [.int .i64 a, .int .i64 23], .int .i64 3), (14, [], .bool true)]) := by kernel_rfl
theorem e4 (a : Int) : sift noCk (chkS (execF Tryd.prog XS (ov0 4) 1000000 (.call 3 [.int .i64 a]) .leaf 0 (tabTree T5) NG [])) = some (true, repA 1 [(16, [.int .i64 a, .int .i64 23], .int .i64 4), (14, [], .bool true)]) := by kernel_rfl
theorem e5 (a : Int) : sift noCk (chkS (execF Tryd.prog XS (ov0 5) 1000000 (.call 3 [.int .i64 a]) .leaf 0 (tabTree T5) NG [])) = some (true, repA 1 [(16, [.int .i64 a, .int .i64 23], .int .i64 5), (14, [], .bool true)]) := by kernel_rfl

end Go.Proofs.YtapkonmljbmojaaDoor.exprKnown
