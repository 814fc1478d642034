/-
  MarksKnown: its cases 0 to 2, each a closed run.
-/
import Derived.Test.YtapkonmljbmojaaDoorBase6F
namespace Go.Proofs.YtapkonmljbmojaaDoor.marksKnown
set_option linter.unusedSimpArgs false
set_option linter.unusedVariables false
open Go.Am Go.RowKit

def ov0 (k : Int) : Nat → FuncId → List Value → Option Value := fun _ f _ => cond (Nat.beq f 19) (some (.bool true)) (cond (Nat.beq f 38) (some (.int .i64 k)) none)
theorem e0 (a : Int) : sift noCk (chkS (execF Tryd.prog XS (ov0 0) 1000000 (.call 10 [.int .i64 a]) .leaf 0 (tabTree T6) NG [])) = some (true, repA 1 [(38, [.int .i64 a, .int .i64 9], .int .i64 0), (19, [], .bool true)]) := by kernel_rfl
theorem e1 (a : Int) : sift noCk (chkS (execF Tryd.prog XS (ov0 1) 1000000 (.call 10 [.int .i64 a]) .leaf 0 (tabTree T6) NG [])) = some (true, repA 1 [(38, [.int .i64 a, .int .i64 9], .int .i64 1), (19, [], .bool true)]) := by kernel_rfl
theorem e2 (a : Int) : sift noCk (chkS (execF Tryd.prog XS (ov0 2) 1000000 (.call 10 [.int .i64 a]) .leaf 0 (tabTree T6) NG [])) = some (true, repA 1 [(38, [.int .i64 a, .int .i64 9], .int .i64 2), (19, [], .bool true)]) := by kernel_rfl

end Go.Proofs.YtapkonmljbmojaaDoor.marksKnown
