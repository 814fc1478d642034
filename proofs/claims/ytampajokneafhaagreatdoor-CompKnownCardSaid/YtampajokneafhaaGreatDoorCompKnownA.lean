/-
  CompKnown: its cases 0 to 2, each a closed run.
-/
import Derived.Test.YtampajokneafhaaGreatDoorBase7F
namespace Go.Proofs.YtampajokneafhaaGreatDoor.compKnown
set_option linter.unusedSimpArgs false
set_option linter.unusedVariables false
open Go.Am Go.RowKit

def ov0 (k : Int) : Nat → FuncId → List Value → Option Value := fun _ f _ => cond (Nat.beq f 12) (some (.bool true)) (cond (Nat.beq f 15) (some (.int .i64 k)) none)
theorem e0 (a : Int) : sift noCk (chkS (execF Tryz.prog XS (ov0 0) 1000000 (.call 8 [.int .i64 a]) .leaf 0 (tabTree T6) NG [])) = some (true, repA 1 [(15, [.int .i64 a, .int .i64 10], .int .i64 0), (12, [], .bool true)]) := by kernel_rfl
theorem e1 (a : Int) : sift noCk (chkS (execF Tryz.prog XS (ov0 1) 1000000 (.call 8 [.int .i64 a]) .leaf 0 (tabTree T6) NG [])) = some (true, repA 1 [(15, [.int .i64 a, .int .i64 10], .int .i64 1), (12, [], .bool true)]) := by kernel_rfl
theorem e2 (a : Int) : sift noCk (chkS (execF Tryz.prog XS (ov0 2) 1000000 (.call 8 [.int .i64 a]) .leaf 0 (tabTree T6) NG [])) = some (true, repA 1 [(15, [.int .i64 a, .int .i64 10], .int .i64 2), (12, [], .bool true)]) := by kernel_rfl

end Go.Proofs.YtampajokneafhaaGreatDoor.compKnown
