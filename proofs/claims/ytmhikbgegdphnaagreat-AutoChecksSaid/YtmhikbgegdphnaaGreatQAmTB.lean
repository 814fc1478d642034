import Derived.Test.YtmhikbgegdphnaaGreatQAmN
import Derived.MakeChecks
import Derived.ChangeArms
import Derived.OpenShut
import Derived.FnData
namespace Go.Am
set_option linter.unusedSimpArgs false
set_option linter.unusedVariables false
open Go.RowKit
section
variable {P : Program}
end
end Go.Am
