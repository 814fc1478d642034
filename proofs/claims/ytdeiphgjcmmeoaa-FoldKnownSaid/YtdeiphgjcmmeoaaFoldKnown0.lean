/-
  FoldKnown: what its calls of within tell.
-/
import Derived.Test.YtdeiphgjcmmeoaaBase13F
namespace Go.Proofs.Ytdeiphgjcmmeoaa.foldKnown
set_option linter.unusedSimpArgs false
set_option linter.unusedVariables false
open Go.Am Go.RowKit

def ov (k x : Int) : Nat → FuncId → List Value → Option Value := fun c f xs => cond (Nat.beq f 11) (some (.bool true)) (cond (Nat.beq f 13) (some (.int .i64 (cond (Nat.beq c 1) k x))) none)

end Go.Proofs.Ytdeiphgjcmmeoaa.foldKnown
