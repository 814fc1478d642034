/-
  SchemaModels: what its calls of within tell.
-/
import Derived.Test.YtnaaiejphofhpaaDoorBase8F
namespace Go.Proofs.YtnaaiejphofhpaaDoor.schemaModels
set_option linter.unusedSimpArgs false
set_option linter.unusedVariables false
open Go.Am Go.RowKit

def ov (k x : Int) : Nat → FuncId → List Value → Option Value := fun c f _ => cond (Nat.beq f 6) (some (.bool true)) (cond (Nat.beq f 7) (some (.int .i64 (cond (Nat.beq c 1) k x))) none)

end Go.Proofs.YtnaaiejphofhpaaDoor.schemaModels
