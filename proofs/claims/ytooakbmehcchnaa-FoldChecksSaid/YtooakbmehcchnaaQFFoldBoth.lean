/-
  The laws FoldErrs and FoldChecks of chapter 13 hold for all numbers: Small of what may not be is refused; of a machine of modules with one thing turned whether it may be is told as the document says.
  Conditions: none beyond the rows' own.
-/
import Derived.Test.YtooakbmehcchnaaQFM16
set_option maxRecDepth 100000
set_option maxHeartbeats 16000000
namespace Go.Proofs.Ytooakbmehcchnaa
theorem foldErrs.proved : Rows.FoldErrsSaid := foldErrs.over
theorem foldChecks.proved : Rows.FoldChecksSaid := foldChecks.over
end Go.Proofs.Ytooakbmehcchnaa
