/-
  CompKnown: its cases 6 to 8, each a closed run.
-/
import Derived.Test.YtampajokneafhaaGreatDoorBase7F
namespace Go.Proofs.YtampajokneafhaaGreatDoor.compKnown
set_option linter.unusedSimpArgs false
set_option linter.unusedVariables false
open Go.Am Go.RowKit

def ov2 (k : Int) : Nat → FuncId → List Value → Option Value := fun _ f _ => cond (Nat.beq f 12) (some (.bool true)) (cond (Nat.beq f 15) (some (.int .i64 k)) none)
theorem e6 (a : Int) : sift noCk (chkS (execF Tryz.prog XS (ov2 6) 1000000 (.call 8 [.int .i64 a]) .leaf 0 (tabTree T6) NG [])) = some (true, repA 1 [(15, [.int .i64 a, .int .i64 10], .int .i64 6), (12, [], .bool true)]) := by kernel_rfl
theorem e7 (a : Int) : sift noCk (chkS (execF Tryz.prog XS (ov2 7) 1000000 (.call 8 [.int .i64 a]) .leaf 0 (tabTree T6) NG [])) = some (true, repA 1 [(15, [.int .i64 a, .int .i64 10], .int .i64 7), (12, [], .bool true)]) := by kernel_rfl
theorem e8 (a : Int) : sift noCk (chkS (execF Tryz.prog XS (ov2 8) 1000000 (.call 8 [.int .i64 a]) .leaf 0 (tabTree T6) NG [])) = some (true, repA 1 [(15, [.int .i64 a, .int .i64 10], .int .i64 8), (12, [], .bool true)]) := by kernel_rfl

end Go.Proofs.YtampajokneafhaaGreatDoor.compKnown
