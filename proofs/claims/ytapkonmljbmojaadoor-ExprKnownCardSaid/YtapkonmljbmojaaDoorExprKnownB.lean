/-
  ExprKnown: its cases 6 to 11, each a closed run.
-/
import Derived.Test.YtapkonmljbmojaaDoorBase5F
namespace Go.Proofs.YtapkonmljbmojaaDoor.exprKnown
set_option linter.unusedSimpArgs false
set_option linter.unusedVariables false
open Go.Am Go.RowKit

def ov1 (k : Int) : Nat → FuncId → List Value → Option Value := fun _ f _ => cond (Nat.beq f 14) (some (.bool true)) (cond (Nat.beq f 16) (some (.int .i64 k)) none)
theorem e6 (a : Int) : sift noCk (chkS (execF Tryd.prog XS (ov1 6) 1000000 (.call 3 [.int .i64 a]) .leaf 0 (tabTree T5) NG [])) = some (true, repA 1 [(16, [.int .i64 a, .int .i64 23], .int .i64 6), (14, [], .bool true)]) := by kernel_rfl
theorem e7 (a : Int) : sift noCk (chkS (execF Tryd.prog XS (ov1 7) 1000000 (.call 3 [.int .i64 a]) .leaf 0 (tabTree T5) NG [])) = some (true, repA 1 [(16, [.int .i64 a, .int .i64 23], .int .i64 7), (14, [], .bool true)]) := by kernel_rfl
theorem e8 (a : Int) : sift noCk (chkS (execF Tryd.prog XS (ov1 8) 1000000 (.call 3 [.int .i64 a]) .leaf 0 (tabTree T5) NG [])) = some (true, repA 1 [(16, [.int .i64 a, .int .i64 23], .int .i64 8), (14, [], .bool true)]) := by kernel_rfl
theorem e9 (a : Int) : sift noCk (chkS (execF Tryd.prog XS (ov1 9) 1000000 (.call 3 [.int .i64 a]) .leaf 0 (tabTree T5) NG [])) = some (true, repA 1 [(16, [.int .i64 a, .int .i64 23], .int .i64 9), (14, [], .bool true)]) := by kernel_rfl
theorem e10 (a : Int) : sift noCk (chkS (execF Tryd.prog XS (ov1 10) 1000000 (.call 3 [.int .i64 a]) .leaf 0 (tabTree T5) NG [])) = some (true, repA 1 [(16, [.int .i64 a, .int .i64 23], .int .i64 10), (14, [], .bool true)]) := by kernel_rfl
theorem e11 (a : Int) : sift noCk (chkS (execF Tryd.prog XS (ov1 11) 1000000 (.call 3 [.int .i64 a]) .leaf 0 (tabTree T5) NG [])) = some (true, repA 1 [(16, [.int .i64 a, .int .i64 23], .int .i64 11), (14, [], .bool true)]) := by kernel_rfl

end Go.Proofs.YtapkonmljbmojaaDoor.exprKnown
