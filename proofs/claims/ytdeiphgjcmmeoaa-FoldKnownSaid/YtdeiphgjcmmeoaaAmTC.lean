/-
  Closed calls with tables, some of whose calls are taken as told by a check: what is told in a run is sifted.
-/
import Derived.Test.YtdeiphgjcmmeoaaAmFz
import Derived.Test.YtdeiphgjcmmeoaaAmTB
import Derived.Lib.Bytealg
namespace Go.Am
set_option linter.unusedSimpArgs false
set_option linter.unusedVariables false
open Go.RowKit

section
variable {P : Program} {xs : List Nat} {ov : Nat → FuncId → List Value → Option Value} {W0 : World}

/-- What was answered, and what was told but for what the check knows. -/
def sift (ck : FuncId × List Value × Value → Bool) (r : Option (Bool × Asm)) : Option (Bool × Asm) :=
  match r with
  | some (b, L) => some (b, L.filter fun x => !ck x)
  | none => none

theorem sift_spec {ck : FuncId × List Value × Value → Bool} {r : Option (Bool × Asm)} {b : Bool} {L : Asm} (h : sift ck r = some (b, L)) : ∃ L0, r = some (b, L0) ∧ ∀ x ∈ L0, ck x = true ∨ x ∈ L := by
  unfold sift at h
  split at h
  · rename_i b0 L0
    simp only [Option.some.injEq, Prod.mk.injEq] at h
    obtain ⟨rfl, rfl⟩ := h
    refine ⟨L0, rfl, fun x hx => ?_⟩
    cases hc : ck x with
    | true => exact .inl rfl
    | false => exact .inr (List.mem_filter.2 ⟨hx, by simp [hc]⟩)
  · cases h

/-- So many times over: a call that ends in several ways tells as often what is told. -/
def repA : Nat → Asm → Asm
  | 0, _ => []
  | n + 1, l => l ++ repA n l

theorem repA_mem {l : Asm} {x : FuncId × List Value × Value} : ∀ (n : Nat), x ∈ repA n l → x ∈ l := by
  intro n
  induction n with
  | zero => intro h; cases h
  | succ n ih =>
    intro h
    rcases List.mem_append.1 h with h | h
    · exact h
    · exact ih h

/-- A closed call that answers true. -/
theorem Fit.toldT (hP : Fit P xs) {T : Tables} {n : Nat} {f : FuncId} {args : List Value} {L : Asm} {ck : FuncId × List Value × Value → Bool} (ha : args.all plain1 = true)
    (h : sift ck (chkS (execF P xs ov n (.call f args) .leaf 0 (tabTree T) NG [])) = some (true, L)) (hck : ∀ W x, Tabs T W → ck x = true → AsTold P W x) (hL : ∀ W, Tabs T W → ∀ x ∈ L, AsTold P W x) (hT : Tabs T W0) : AsTold P W0 (f, args, .bool true) := by
  obtain ⟨L0, h0, h1⟩ := sift_spec h
  exact hP.toldS ha (chk_fast h0) (fun W hW x hx => (h1 x hx).elim (hck W x hW) (hL W hW x)) hT

theorem Fit.callsT (hP : Fit P xs) {T : Tables} {n : Nat} {f : FuncId} {args : List Value} {L : Asm} {ck : FuncId × List Value × Value → Bool} (ha : args.all plain1 = true)
    (h : sift ck (chkS (execF P xs ov n (.call f args) .leaf 0 (tabTree T) NG [])) = some (true, L)) (w : World) (hT : Tabs T w) (hck : ∀ x, ck x = true → AsTold P w x) (hL : ∀ x ∈ L, AsTold P w x) :
    Calls P f args.toArray w fun e w' => e = .returned (.bool true) ∧ BelD w.heap.size w w' := by
  obtain ⟨L0, h0, h1⟩ := sift_spec h
  exact hP.callsS ha (chk_fast h0) w hT (fun x hx => (h1 x hx).elim (hck x) (hL x))

/-! ### a row of calls, each an entry that is met in place: the place of a byte -/

/-- The told call of a byte's place. -/
def idxOk (fi : FuncId) (x : FuncId × List Value × Value) : Bool :=
  Nat.beq x.1 fi && (match x.2.1, x.2.2 with | [.string s, .int .u8 c], .int .i64 k => k == Lib.indexByte s.data.toList c.toNat.toUInt8 | _, _ => false)

theorem idxOk_spec {fi : FuncId} {x : FuncId × List Value × Value} (h : idxOk fi x = true) : ∃ s c, x = (fi, [.string s, .int .u8 c], .int .i64 (Lib.indexByte s.data.toList c.toNat.toUInt8)) := by
  obtain ⟨f, args, v⟩ := x
  unfold idxOk at h
  simp only [Bool.and_eq_true] at h
  obtain ⟨h1, h2⟩ := h
  have := Nat.eq_of_beq_eq_true h1
  subst this
  have key : ∀ (as : List Value) (u : Value), (match as, u with | [.string s, .int .u8 c], .int .i64 k => k == Lib.indexByte s.data.toList c.toNat.toUInt8 | _, _ => false) = true →
      ∃ s c, as = [.string s, .int .u8 c] ∧ u = .int .i64 (Lib.indexByte s.data.toList c.toNat.toUInt8) := by
    intro as u h
    split at h
    · simp only [beq_iff_eq] at h
      exact ⟨_, _, rfl, by rw [h]⟩
    · cases h
  obtain ⟨s, c, rfl, rfl⟩ := key args v h2
  exact ⟨s, c, rfl⟩

/-- An override: so far told calls by their function. -/
def idxOv (fi : FuncId) (more : FuncId → List Value → Option Value) : Nat → FuncId → List Value → Option Value := fun _ f args =>
  cond (Nat.beq f fi) (match args with | [.string s, .int .u8 c] => some (.int .i64 (Lib.indexByte s.data.toList c.toNat.toUInt8)) | _ => none) (more f args)
end
end Go.Am
