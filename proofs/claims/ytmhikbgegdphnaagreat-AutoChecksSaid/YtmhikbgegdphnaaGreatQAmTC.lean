import Derived.Test.YtmhikbgegdphnaaGreatQAmFz
import Derived.Test.YtmhikbgegdphnaaGreatQAmTB
import Derived.Lib.Bytealg
namespace Go.Am
set_option linter.unusedSimpArgs false
set_option linter.unusedVariables false
open Go.RowKit
section
variable {P : Program} {xs : List Nat} {ov : Nat → FuncId → List Value → Option Value} {W0 : World}
end
end Go.Am
