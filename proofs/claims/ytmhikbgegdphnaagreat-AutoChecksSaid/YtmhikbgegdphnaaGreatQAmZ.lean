import Derived.Test.YtmhikbgegdphnaaGreatQAmY
namespace Go.Am
set_option linter.unusedSimpArgs false
set_option linter.unusedVariables false
open Go.RowKit
section
variable {P : Program} {W0 : World} {ops : Array Oper}
def edgeOkC (ops : Array Oper) (k : Nat) (o : Oper) : Bool :=
  effOp o.op || heapFree o.op || allIdx (fun j oj => !effOp oj.op || depB o j || depB oj k) 0 ops.toList
variable {nx0 : Nat} {H0 : Heap}
section
variable {k : Nat} {type : TypeId} {pos : String} {after : Array Edge} {l : List Oper} {tm : Nat → Value} {n nx nx' : Nat} {H H' : Heap} {v : Value} {QQ : ASt → Prop} {f : FuncId} {d : Tmp} {ts : Array TypeId}
end
def depNB (ops : Array Oper) : Nat → Oper → Nat → Bool
  | 0, o, i => depB o i
  | n + 1, o, i => depB o i || (List.range ops.size).any fun m => depB o m && (match ops[m]? with | some om => depNB ops n om i | none => false)
theorem depNB_iff {ops : Array Oper} : ∀ (n : Nat) (o : Oper) (i : Nat), depNB ops n o i = true → depN ops n o i := by
  intro n
  induction n with
  | zero => intro o i h; exact depB_iff.1 h
  | succ n ih =>
    intro o i h
    simp only [depNB, Bool.or_eq_true, List.any_eq_true, Bool.and_eq_true] at h
    rcases h with h | ⟨m, _, h1, h2⟩
    · exact .inl (depB_iff.1 h)
    · cases ho : ops[m]? with
      | none => rw [ho] at h2; cases h2
      | some om => rw [ho] at h2; exact .inr ⟨m, om, ho, depB_iff.1 h1, ih om i h2⟩
theorem goCall_eff {o : Op} (h : goCall o = true) : effOp o = true := by
  cases o <;> simp only [goCall] at h <;> try (cases h; done)
  rename_i c
  cases hc : c.callee <;> simp [goCall, hc] at h <;> simp [effOp, hc]
theorem calleeE_congr {st : ASt} {o : Oper} : calleeE (evR (opTs o) st.tm) o = callee st o := by
  unfold calleeE callee
  cases ho : o.op <;> simp only
  rename_i c
  cases hc : c.callee <;> simp only
  rename_i x
  have hm : ∀ y, y = x ∨ y ∈ c.args.toList → evR (opTs o) st.tm y = st.ev y := fun y hy =>
    evR_mem (n := st.n) (nx := st.nx) (H := st.H) (fun t ht => mem_opTs (by
      rw [ho, ← ht]
      simp only [Op.operands, Call.operands, hc]
      rcases hy with rfl | hy
      · simp
      · simp; right; simpa using hy))
  rw [hm x (.inl rfl), evAll_congr c.args.toList (fun y hy => hm y (.inr hy))]
  rfl
end
end Go.Am
