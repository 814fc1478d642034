import Derived.Test.YtmhikbgegdphnaaGreatQAmZS
namespace Go.Am
set_option linter.unusedSimpArgs false
set_option linter.unusedVariables false
open Go.RowKit
section
variable {P : Program} {W0 : World} {ops : Array Oper} {acts : List Nat} {K : Nat → Heap → Prop}
structure RInvW (P : Program) (ops : Array Oper) (acts : List Nat) (K : Nat → Heap → Prop) (D L : List Nat) (listed : Array Bool) (tm T : Nat → Value) (n : Nat) (H : Heap) (nx : Nat) : Prop where
  size : listed.size = ops.size
  down : ∀ (i : Nat) (o : Oper), ops[i]? = some o → listed.getD i false = true → ∀ j, dep o j → listed.getD j false = true
  unl : ∀ i ∈ L, listed.getD i false = false
  all : ∀ i, i < ops.size → i ∈ D ∨ i ∈ L
  disj : ∀ p ∈ D, ∀ i ∈ L, p ≠ i
  topo : ∀ p ∈ D, ∀ i ∈ L, depD ops p i = false
  nd : L.Nodup
  lt : ∀ i ∈ L, i < ops.size
  pend : ∀ i ∈ D, listed.getD i false = false → ∃ o, ops[i]? = some o ∧ Pend P ops acts K L T n H nx i o
  eqv : ∀ t, (∀ (i : Nat) (o : Oper), ops[i]? = some o → i ∈ D → listed.getD i false = false → o.dst ≠ some t) → tm t = T t
  actl : ∀ p ∈ D, acts.contains p = true → listed.getD p false = true
variable {D L : List Nat} {listed : Array Bool} {tm T : Nat → Value} {n nx : Nat} {H : Heap}
theorem ActStep.walk {i : Nat} {o : Oper} {st : ASt} {N : ASt → Prop} (ho : ops[i]? = some o) (he : acts.contains i = true) (h : OpsL P W0 ops [o] st fun s => K s.nx s.H ∧ N s) : ActStep P W0 ops acts K i st N := by
  obtain ⟨hd, h⟩ := h
  refine ⟨o, ho, hd, he, ?_⟩
  rcases h with ⟨hw, h⟩ | ⟨hw, ⟨v, e, hop, h⟩ | ⟨f, args, R, hc, hf, hcall, h⟩⟩
  · exact .inl ⟨hw, h.2⟩
  · exact .inr ⟨hw, .inl ⟨v, e, hop, h.1, h.2⟩⟩
  · exact .inr ⟨hw, .inr ⟨f, args, R, hc, hf, hcall, fun v nx' H' hr => h v nx' H' hr⟩⟩
end
end Go.Am
