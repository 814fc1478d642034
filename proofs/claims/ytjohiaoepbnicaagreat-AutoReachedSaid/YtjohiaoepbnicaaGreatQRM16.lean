import Derived.Test.YtjohiaoepbnicaaGreatQRM15
namespace Go.Am
set_option linter.unusedSimpArgs false
set_option linter.unusedVariables false
open Go.RowKit
theorem getc_cell {H : Heap} {a : Addr} {k j : Nat} {vs : List Value} {v : Value} (h : getc H a k = some vs) (hj : vs[j]? = some v) : cellAt H ⟨a.block, a.off + j, a.spot⟩ v := by
 unfold cellAt getc at *
 split at h
 ·rename_i c e t r q ho
  simp only [ho]
  split at h
  ·rename_i hc
   simp only [Option.some.injEq] at h
   obtain ⟨hjl, hje⟩ := List.getElem?_eq_some_iff.1 hj
   subst h
   have hjk : j < k := by simp at hjl; omega
   rw [if_pos ⟨hc.1, by omega⟩]
   rw [List.getElem_take, List.getElem_drop] at hje
   rw [List.take_one, List.head?_drop, List.getElem?_eq_getElem (by omega), hje]
   rfl
  ·cases h
 ·cases h
end Go.Am
namespace Go.Proofs.YtjohiaoepbnicaaGreat
set_option linter.unusedSimpArgs false
set_option linter.unusedVariables false
open Go.Am Go.RowKit
attribute [local irreducible] aop OpsL Trip blockExit OpsD OpsK OpsR
end Go.Proofs.YtjohiaoepbnicaaGreat
