/-
  The law AutoWhole: runs from one state behind its symbols.
-/
import Derived.Test.YtnoakjddgllbfaaGreatAutoWholeA
namespace Go.Proofs.YtnoakjddgllbfaaGreat.autoWhole
set_option linter.unusedSimpArgs false
set_option linter.unusedVariables false
open Go.Am Go.RowKit

theorem rR000 (n s d : Int) : chkR Tryz.prog Tryz.f3.results (execF Tryz.prog [] (ovR 0 0 0) 1000000 (.code c3) (sR n s d []).tt (sR n s d []).n (sR n s d []).ht (sR n s d []).nx (sR n s d []).asm) = some (true, [w3 d 3 0, w3 (IntKind.i64.wrap (s.tdiv 3)) 2 0, w3 s 3 0]) := by kernel_rfl
theorem rR001 (n s d : Int) : chkR Tryz.prog Tryz.f3.results (execF Tryz.prog [] (ovR 0 0 1) 1000000 (.code c3) (sR n s d []).tt (sR n s d []).n (sR n s d []).ht (sR n s d []).nx (sR n s d []).asm) = some (true, [w3 d 3 1, w3 (IntKind.i64.wrap (s.tdiv 3)) 2 0, w3 s 3 0]) := by kernel_rfl
theorem rR002 (n s d : Int) : chkR Tryz.prog Tryz.f3.results (execF Tryz.prog [] (ovR 0 0 2) 1000000 (.code c3) (sR n s d []).tt (sR n s d []).n (sR n s d []).ht (sR n s d []).nx (sR n s d []).asm) = some (true, [w3 d 3 2, w3 (IntKind.i64.wrap (s.tdiv 3)) 2 0, w3 s 3 0]) := by kernel_rfl
theorem rR010 (n s d : Int) : chkR Tryz.prog Tryz.f3.results (execF Tryz.prog [] (ovR 0 1 0) 1000000 (.code c3) (sR n s d []).tt (sR n s d []).n (sR n s d []).ht (sR n s d []).nx (sR n s d []).asm) = some (true, [w3 d 3 0, w3 (IntKind.i64.wrap (s.tdiv 3)) 2 1, w3 s 3 0]) := by kernel_rfl
theorem rR011 (n s d : Int) : chkR Tryz.prog Tryz.f3.results (execF Tryz.prog [] (ovR 0 1 1) 1000000 (.code c3) (sR n s d []).tt (sR n s d []).n (sR n s d []).ht (sR n s d []).nx (sR n s d []).asm) = some (true, [w3 d 3 1, w3 (IntKind.i64.wrap (s.tdiv 3)) 2 1, w3 s 3 0]) := by kernel_rfl
theorem rR012 (n s d : Int) : chkR Tryz.prog Tryz.f3.results (execF Tryz.prog [] (ovR 0 1 2) 1000000 (.code c3) (sR n s d []).tt (sR n s d []).n (sR n s d []).ht (sR n s d []).nx (sR n s d []).asm) = some (true, [w3 d 3 2, w3 (IntKind.i64.wrap (s.tdiv 3)) 2 1, w3 s 3 0]) := by kernel_rfl
theorem rR100 (n s d : Int) : chkR Tryz.prog Tryz.f3.results (execF Tryz.prog [] (ovR 1 0 0) 1000000 (.code c3) (sR n s d []).tt (sR n s d []).n (sR n s d []).ht (sR n s d []).nx (sR n s d []).asm) = some (true, [w3 d 3 0, w3 (IntKind.i64.wrap (s.tdiv 3)) 2 0, w3 s 3 1]) := by kernel_rfl
theorem rR101 (n s d : Int) : chkR Tryz.prog Tryz.f3.results (execF Tryz.prog [] (ovR 1 0 1) 1000000 (.code c3) (sR n s d []).tt (sR n s d []).n (sR n s d []).ht (sR n s d []).nx (sR n s d []).asm) = some (true, [w3 d 3 1, w3 (IntKind.i64.wrap (s.tdiv 3)) 2 0, w3 s 3 1]) := by kernel_rfl
theorem rR102 (n s d : Int) : chkR Tryz.prog Tryz.f3.results (execF Tryz.prog [] (ovR 1 0 2) 1000000 (.code c3) (sR n s d []).tt (sR n s d []).n (sR n s d []).ht (sR n s d []).nx (sR n s d []).asm) = some (true, [w3 d 3 2, w3 (IntKind.i64.wrap (s.tdiv 3)) 2 0, w3 s 3 1]) := by kernel_rfl
theorem rR110 (n s d : Int) : chkR Tryz.prog Tryz.f3.results (execF Tryz.prog [] (ovR 1 1 0) 1000000 (.code c3) (sR n s d []).tt (sR n s d []).n (sR n s d []).ht (sR n s d []).nx (sR n s d []).asm) = some (true, [w3 d 3 0, w3 (IntKind.i64.wrap (s.tdiv 3)) 2 1, w3 s 3 1]) := by kernel_rfl
theorem rR111 (n s d : Int) : chkR Tryz.prog Tryz.f3.results (execF Tryz.prog [] (ovR 1 1 1) 1000000 (.code c3) (sR n s d []).tt (sR n s d []).n (sR n s d []).ht (sR n s d []).nx (sR n s d []).asm) = some (true, [w3 d 3 1, w3 (IntKind.i64.wrap (s.tdiv 3)) 2 1, w3 s 3 1]) := by kernel_rfl
theorem rR112 (n s d : Int) : chkR Tryz.prog Tryz.f3.results (execF Tryz.prog [] (ovR 1 1 2) 1000000 (.code c3) (sR n s d []).tt (sR n s d []).n (sR n s d []).ht (sR n s d []).nx (sR n s d []).asm) = some (true, [w3 d 3 2, w3 (IntKind.i64.wrap (s.tdiv 3)) 2 1, w3 s 3 1]) := by kernel_rfl
theorem rR200 (n s d : Int) : chkR Tryz.prog Tryz.f3.results (execF Tryz.prog [] (ovR 2 0 0) 1000000 (.code c3) (sR n s d []).tt (sR n s d []).n (sR n s d []).ht (sR n s d []).nx (sR n s d []).asm) = some (true, [w3 d 3 0, w3 (IntKind.i64.wrap (s.tdiv 3)) 2 0, w3 s 3 2]) := by kernel_rfl
theorem rR201 (n s d : Int) : chkR Tryz.prog Tryz.f3.results (execF Tryz.prog [] (ovR 2 0 1) 1000000 (.code c3) (sR n s d []).tt (sR n s d []).n (sR n s d []).ht (sR n s d []).nx (sR n s d []).asm) = some (true, [w3 d 3 1, w3 (IntKind.i64.wrap (s.tdiv 3)) 2 0, w3 s 3 2]) := by kernel_rfl
theorem rR202 (n s d : Int) : chkR Tryz.prog Tryz.f3.results (execF Tryz.prog [] (ovR 2 0 2) 1000000 (.code c3) (sR n s d []).tt (sR n s d []).n (sR n s d []).ht (sR n s d []).nx (sR n s d []).asm) = some (true, [w3 d 3 2, w3 (IntKind.i64.wrap (s.tdiv 3)) 2 0, w3 s 3 2]) := by kernel_rfl
theorem rR210 (n s d : Int) : chkR Tryz.prog Tryz.f3.results (execF Tryz.prog [] (ovR 2 1 0) 1000000 (.code c3) (sR n s d []).tt (sR n s d []).n (sR n s d []).ht (sR n s d []).nx (sR n s d []).asm) = some (true, [w3 d 3 0, w3 (IntKind.i64.wrap (s.tdiv 3)) 2 1, w3 s 3 2]) := by kernel_rfl
theorem rR211 (n s d : Int) : chkR Tryz.prog Tryz.f3.results (execF Tryz.prog [] (ovR 2 1 1) 1000000 (.code c3) (sR n s d []).tt (sR n s d []).n (sR n s d []).ht (sR n s d []).nx (sR n s d []).asm) = some (true, [w3 d 3 1, w3 (IntKind.i64.wrap (s.tdiv 3)) 2 1, w3 s 3 2]) := by kernel_rfl
theorem rR212 (n s d : Int) : chkR Tryz.prog Tryz.f3.results (execF Tryz.prog [] (ovR 2 1 2) 1000000 (.code c3) (sR n s d []).tt (sR n s d []).n (sR n s d []).ht (sR n s d []).nx (sR n s d []).asm) = some (true, [w3 d 3 2, w3 (IntKind.i64.wrap (s.tdiv 3)) 2 1, w3 s 3 2]) := by kernel_rfl

end Go.Proofs.YtnoakjddgllbfaaGreat.autoWhole
