/-
  FoldKnown: so many of its cases, each a closed run.
-/
import Derived.Test.YtdeiphgjcmmeoaaFoldKnown0
namespace Go.Proofs.Ytdeiphgjcmmeoaa.foldKnown
set_option linter.unusedSimpArgs false
set_option linter.unusedVariables false
open Go.Am Go.RowKit

theorem e1 (a : Int) : sift noCk (chkS (execF Try.prog XS (ov 1 0) 1000000 (.call 3 [.int .i64 a]) .leaf 0 (tabTree T8) NG [])) = some (true, repA 1 [(13, [.int .i64 a, .int .i64 4], .int .i64 1), (11, [], .bool true)]) := by kernel_rfl

end Go.Proofs.Ytdeiphgjcmmeoaa.foldKnown
