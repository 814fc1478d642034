/-
  ExprForms: its cases 9 to 9, each a closed run.
-/
import Derived.Test.YtapkonmljbmojaaDoorBase5F
namespace Go.Proofs.YtapkonmljbmojaaDoor.exprForms
set_option linter.unusedSimpArgs false
set_option linter.unusedVariables false
open Go.Am Go.RowKit

def ov3 (k : Int) : Nat → FuncId → List Value → Option Value := fun _ f _ => cond (Nat.beq f 14) (some (.bool true)) (cond (Nat.beq f 16) (some (.int .i64 k)) none)
theorem e9 (a : Int) : sift noCk (chkS (execF Tryd.prog XS (ov3 9) 1000000 (.call 4 [.int .i64 a]) .leaf 0 (tabTree T5) NG [])) = some (true, repA 1 [(16, [.int .i64 a, .int .i64 10], .int .i64 9), (14, [], .bool true)]) := by kernel_rfl

end Go.Proofs.YtapkonmljbmojaaDoor.exprForms
