/-
  The law AutoWhole: runs from one state behind its symbols.
-/
import Derived.Test.YtnoakjddgllbfaaGreatAutoWholeA
namespace Go.Proofs.YtnoakjddgllbfaaGreat.autoWhole
set_option linter.unusedSimpArgs false
set_option linter.unusedVariables false
open Go.Am Go.RowKit

theorem rK3000 (n s d : Int) : chkR Tryz.prog Tryz.f3.results (execF Tryz.prog [] (ovR 0 0 0) 1000000 (.code c3) (sK 3 n s d []).tt (sK 3 n s d []).n (sK 3 n s d []).ht (sK 3 n s d []).nx (sK 3 n s d []).asm) = some (true, [w3 d 3 0, w3 (IntKind.i64.wrap (s.tdiv 3)) 2 0, w3 s 3 0]) := by kernel_rfl
theorem rK3001 (n s d : Int) : chkR Tryz.prog Tryz.f3.results (execF Tryz.prog [] (ovR 0 0 1) 1000000 (.code c3) (sK 3 n s d []).tt (sK 3 n s d []).n (sK 3 n s d []).ht (sK 3 n s d []).nx (sK 3 n s d []).asm) = some (true, [w3 d 3 1, w3 (IntKind.i64.wrap (s.tdiv 3)) 2 0, w3 s 3 0]) := by kernel_rfl
theorem rK3002 (n s d : Int) : chkR Tryz.prog Tryz.f3.results (execF Tryz.prog [] (ovR 0 0 2) 1000000 (.code c3) (sK 3 n s d []).tt (sK 3 n s d []).n (sK 3 n s d []).ht (sK 3 n s d []).nx (sK 3 n s d []).asm) = some (true, [w3 d 3 2, w3 (IntKind.i64.wrap (s.tdiv 3)) 2 0, w3 s 3 0]) := by kernel_rfl
theorem rK3010 (n s d : Int) : chkR Tryz.prog Tryz.f3.results (execF Tryz.prog [] (ovR 0 1 0) 1000000 (.code c3) (sK 3 n s d []).tt (sK 3 n s d []).n (sK 3 n s d []).ht (sK 3 n s d []).nx (sK 3 n s d []).asm) = some (true, [w3 d 3 0, w3 (IntKind.i64.wrap (s.tdiv 3)) 2 1, w3 s 3 0]) := by kernel_rfl
theorem rK3011 (n s d : Int) : chkR Tryz.prog Tryz.f3.results (execF Tryz.prog [] (ovR 0 1 1) 1000000 (.code c3) (sK 3 n s d []).tt (sK 3 n s d []).n (sK 3 n s d []).ht (sK 3 n s d []).nx (sK 3 n s d []).asm) = some (true, [w3 d 3 1, w3 (IntKind.i64.wrap (s.tdiv 3)) 2 1, w3 s 3 0]) := by kernel_rfl
theorem rK3012 (n s d : Int) : chkR Tryz.prog Tryz.f3.results (execF Tryz.prog [] (ovR 0 1 2) 1000000 (.code c3) (sK 3 n s d []).tt (sK 3 n s d []).n (sK 3 n s d []).ht (sK 3 n s d []).nx (sK 3 n s d []).asm) = some (true, [w3 d 3 2, w3 (IntKind.i64.wrap (s.tdiv 3)) 2 1, w3 s 3 0]) := by kernel_rfl
theorem rK3100 (n s d : Int) : chkR Tryz.prog Tryz.f3.results (execF Tryz.prog [] (ovR 1 0 0) 1000000 (.code c3) (sK 3 n s d []).tt (sK 3 n s d []).n (sK 3 n s d []).ht (sK 3 n s d []).nx (sK 3 n s d []).asm) = some (true, [w3 d 3 0, w3 (IntKind.i64.wrap (s.tdiv 3)) 2 0, w3 s 3 1]) := by kernel_rfl
theorem rK3101 (n s d : Int) : chkR Tryz.prog Tryz.f3.results (execF Tryz.prog [] (ovR 1 0 1) 1000000 (.code c3) (sK 3 n s d []).tt (sK 3 n s d []).n (sK 3 n s d []).ht (sK 3 n s d []).nx (sK 3 n s d []).asm) = some (true, [w3 d 3 1, w3 (IntKind.i64.wrap (s.tdiv 3)) 2 0, w3 s 3 1]) := by kernel_rfl
theorem rK3102 (n s d : Int) : chkR Tryz.prog Tryz.f3.results (execF Tryz.prog [] (ovR 1 0 2) 1000000 (.code c3) (sK 3 n s d []).tt (sK 3 n s d []).n (sK 3 n s d []).ht (sK 3 n s d []).nx (sK 3 n s d []).asm) = some (true, [w3 d 3 2, w3 (IntKind.i64.wrap (s.tdiv 3)) 2 0, w3 s 3 1]) := by kernel_rfl
theorem rK3110 (n s d : Int) : chkR Tryz.prog Tryz.f3.results (execF Tryz.prog [] (ovR 1 1 0) 1000000 (.code c3) (sK 3 n s d []).tt (sK 3 n s d []).n (sK 3 n s d []).ht (sK 3 n s d []).nx (sK 3 n s d []).asm) = some (true, [w3 d 3 0, w3 (IntKind.i64.wrap (s.tdiv 3)) 2 1, w3 s 3 1]) := by kernel_rfl
theorem rK3111 (n s d : Int) : chkR Tryz.prog Tryz.f3.results (execF Tryz.prog [] (ovR 1 1 1) 1000000 (.code c3) (sK 3 n s d []).tt (sK 3 n s d []).n (sK 3 n s d []).ht (sK 3 n s d []).nx (sK 3 n s d []).asm) = some (true, [w3 d 3 1, w3 (IntKind.i64.wrap (s.tdiv 3)) 2 1, w3 s 3 1]) := by kernel_rfl
theorem rK3112 (n s d : Int) : chkR Tryz.prog Tryz.f3.results (execF Tryz.prog [] (ovR 1 1 2) 1000000 (.code c3) (sK 3 n s d []).tt (sK 3 n s d []).n (sK 3 n s d []).ht (sK 3 n s d []).nx (sK 3 n s d []).asm) = some (true, [w3 d 3 2, w3 (IntKind.i64.wrap (s.tdiv 3)) 2 1, w3 s 3 1]) := by kernel_rfl
theorem rK3200 (n s d : Int) : chkR Tryz.prog Tryz.f3.results (execF Tryz.prog [] (ovR 2 0 0) 1000000 (.code c3) (sK 3 n s d []).tt (sK 3 n s d []).n (sK 3 n s d []).ht (sK 3 n s d []).nx (sK 3 n s d []).asm) = some (true, [w3 d 3 0, w3 (IntKind.i64.wrap (s.tdiv 3)) 2 0, w3 s 3 2]) := by kernel_rfl
theorem rK3201 (n s d : Int) : chkR Tryz.prog Tryz.f3.results (execF Tryz.prog [] (ovR 2 0 1) 1000000 (.code c3) (sK 3 n s d []).tt (sK 3 n s d []).n (sK 3 n s d []).ht (sK 3 n s d []).nx (sK 3 n s d []).asm) = some (true, [w3 d 3 1, w3 (IntKind.i64.wrap (s.tdiv 3)) 2 0, w3 s 3 2]) := by kernel_rfl
theorem rK3202 (n s d : Int) : chkR Tryz.prog Tryz.f3.results (execF Tryz.prog [] (ovR 2 0 2) 1000000 (.code c3) (sK 3 n s d []).tt (sK 3 n s d []).n (sK 3 n s d []).ht (sK 3 n s d []).nx (sK 3 n s d []).asm) = some (true, [w3 d 3 2, w3 (IntKind.i64.wrap (s.tdiv 3)) 2 0, w3 s 3 2]) := by kernel_rfl
theorem rK3210 (n s d : Int) : chkR Tryz.prog Tryz.f3.results (execF Tryz.prog [] (ovR 2 1 0) 1000000 (.code c3) (sK 3 n s d []).tt (sK 3 n s d []).n (sK 3 n s d []).ht (sK 3 n s d []).nx (sK 3 n s d []).asm) = some (true, [w3 d 3 0, w3 (IntKind.i64.wrap (s.tdiv 3)) 2 1, w3 s 3 2]) := by kernel_rfl
theorem rK3211 (n s d : Int) : chkR Tryz.prog Tryz.f3.results (execF Tryz.prog [] (ovR 2 1 1) 1000000 (.code c3) (sK 3 n s d []).tt (sK 3 n s d []).n (sK 3 n s d []).ht (sK 3 n s d []).nx (sK 3 n s d []).asm) = some (true, [w3 d 3 1, w3 (IntKind.i64.wrap (s.tdiv 3)) 2 1, w3 s 3 2]) := by kernel_rfl
theorem rK3212 (n s d : Int) : chkR Tryz.prog Tryz.f3.results (execF Tryz.prog [] (ovR 2 1 2) 1000000 (.code c3) (sK 3 n s d []).tt (sK 3 n s d []).n (sK 3 n s d []).ht (sK 3 n s d []).nx (sK 3 n s d []).asm) = some (true, [w3 d 3 2, w3 (IntKind.i64.wrap (s.tdiv 3)) 2 1, w3 s 3 2]) := by kernel_rfl

end Go.Proofs.YtnoakjddgllbfaaGreat.autoWhole
