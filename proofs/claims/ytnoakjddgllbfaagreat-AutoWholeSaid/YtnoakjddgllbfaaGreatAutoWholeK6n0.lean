/-
  The law AutoWhole: runs from one state behind its symbols.
-/
import Derived.Test.YtnoakjddgllbfaaGreatAutoWholeA
namespace Go.Proofs.YtnoakjddgllbfaaGreat.autoWhole
set_option linter.unusedSimpArgs false
set_option linter.unusedVariables false
open Go.Am Go.RowKit

theorem rK6000 (n s d : Int) : chkR Tryz.prog Tryz.f3.results (execF Tryz.prog [] (ovR 0 0 0) 1000000 (.code c3) (sK 6 n s d []).tt (sK 6 n s d []).n (sK 6 n s d []).ht (sK 6 n s d []).nx (sK 6 n s d []).asm) = some (true, [w3 d 3 0, w3 (IntKind.i64.wrap (s.tdiv 3)) 2 0, w3 s 3 0]) := by kernel_rfl
theorem rK6001 (n s d : Int) : chkR Tryz.prog Tryz.f3.results (execF Tryz.prog [] (ovR 0 0 1) 1000000 (.code c3) (sK 6 n s d []).tt (sK 6 n s d []).n (sK 6 n s d []).ht (sK 6 n s d []).nx (sK 6 n s d []).asm) = some (true, [w3 d 3 1, w3 (IntKind.i64.wrap (s.tdiv 3)) 2 0, w3 s 3 0]) := by kernel_rfl
theorem rK6002 (n s d : Int) : chkR Tryz.prog Tryz.f3.results (execF Tryz.prog [] (ovR 0 0 2) 1000000 (.code c3) (sK 6 n s d []).tt (sK 6 n s d []).n (sK 6 n s d []).ht (sK 6 n s d []).nx (sK 6 n s d []).asm) = some (true, [w3 d 3 2, w3 (IntKind.i64.wrap (s.tdiv 3)) 2 0, w3 s 3 0]) := by kernel_rfl
theorem rK6010 (n s d : Int) : chkR Tryz.prog Tryz.f3.results (execF Tryz.prog [] (ovR 0 1 0) 1000000 (.code c3) (sK 6 n s d []).tt (sK 6 n s d []).n (sK 6 n s d []).ht (sK 6 n s d []).nx (sK 6 n s d []).asm) = some (true, [w3 d 3 0, w3 (IntKind.i64.wrap (s.tdiv 3)) 2 1, w3 s 3 0]) := by kernel_rfl
theorem rK6011 (n s d : Int) : chkR Tryz.prog Tryz.f3.results (execF Tryz.prog [] (ovR 0 1 1) 1000000 (.code c3) (sK 6 n s d []).tt (sK 6 n s d []).n (sK 6 n s d []).ht (sK 6 n s d []).nx (sK 6 n s d []).asm) = some (true, [w3 d 3 1, w3 (IntKind.i64.wrap (s.tdiv 3)) 2 1, w3 s 3 0]) := by kernel_rfl
theorem rK6012 (n s d : Int) : chkR Tryz.prog Tryz.f3.results (execF Tryz.prog [] (ovR 0 1 2) 1000000 (.code c3) (sK 6 n s d []).tt (sK 6 n s d []).n (sK 6 n s d []).ht (sK 6 n s d []).nx (sK 6 n s d []).asm) = some (true, [w3 d 3 2, w3 (IntKind.i64.wrap (s.tdiv 3)) 2 1, w3 s 3 0]) := by kernel_rfl

end Go.Proofs.YtnoakjddgllbfaaGreat.autoWhole
