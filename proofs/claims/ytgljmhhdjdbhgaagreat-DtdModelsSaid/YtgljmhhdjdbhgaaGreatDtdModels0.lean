/-
  DtdModels: what its calls of within tell.
-/
import Derived.Test.YtgljmhhdjdbhgaaGreatBase9F
namespace Go.Proofs.YtgljmhhdjdbhgaaGreat.dtdModels
set_option linter.unusedSimpArgs false
set_option linter.unusedVariables false
open Go.Am Go.RowKit

def ov (k x : Int) : Nat → FuncId → List Value → Option Value := fun c f xs => cond (Nat.beq f 10) (some (.bool true)) (cond (Nat.beq f 12) (some (.int .i64 (cond (Nat.beq c 1) k x))) (ovWith f xs))

end Go.Proofs.YtgljmhhdjdbhgaaGreat.dtdModels
