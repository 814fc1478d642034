/-
  What the laws over tables lean on: rows that came in, parted; remainders.
-/
import Derived.Test.YtigincejpjajpaaPutB2
import Derived.Test.YtigincejpjajpaaLaw2
namespace Go.Proofs.Ytigincejpjajpaa
set_option linter.unusedSimpArgs false
set_option linter.unusedVariables false
set_option maxRecDepth 20000
open Go.Am Go.RowKit

theorem RowIn.ext {nx nx' : Nat} {H H' : Heap} {v : Value} (h : RowIn H v) (hx : Ext nx H nx' H') (hok : ∀ id o, H id = some o → id < nx) : RowIn H' v := by
  rcases h with h | ⟨k, n, c, cs, h1, h2, h3⟩
  · exact .inl h
  · exact .inr ⟨k, n, c, cs, h1, by rw [hx.2 k (hok _ _ h2)]; exact h2, h3⟩

theorem arg_drop {H : Heap} {v : Value} {xs : List Int} {k : Nat} (h : IntsAt H v xs) (hr : RowIn H v) (hk : k ≤ xs.length) : ∃ r, aSlice Try.prog H 22 v (some (.int .i64 k)) none none = some r ∧ IntsAt H r (xs.drop k) := by
  rcases hr with rfl | ⟨b, n, c, cs, rfl, hH, hcs, hnc⟩
  · have hx : xs = [] := by
      rcases h with ⟨_, _, h⟩ | ⟨a, c, h, _⟩
      · exact h
      · cases h
    subst hx
    have hk0 : k = 0 := by simpa using hk
    subst hk0
    exact ⟨_, aSlice_nil (by exact rfl) (sz := 1) (by exact rfl) (.inr ⟨.i64, rfl⟩) (.inl ⟨rfl, rfl⟩), .inl ⟨0, rfl, rfl⟩⟩
  · obtain ⟨rfl, hc⟩ : n = xs.length ∧ ∀ (i : Nat) (h : i < xs.length), cellAt H ⟨b, 0 + i, none⟩ (.int .i64 xs[i]) := by
      rcases h with ⟨c', h, hx⟩ | ⟨a, c', h, hc⟩
      · cases h
      · cases h
        exact ⟨rfl, hc⟩
    refine ⟨_, aSlice_plain (el := 3) (sz := 1) (a := ⟨b, 0, none⟩) (l := k) (h := xs.length) (by exact rfl) (by exact rfl) hH rfl rfl (.inr ⟨.i64, rfl⟩) (.inl ⟨rfl, rfl⟩) hk hnc, ?_⟩
    refine .inr ⟨_, c - k, by rw [List.length_drop], fun i hi => ?_⟩
    rw [List.length_drop] at hi
    rw [if_neg (by omega), List.getElem_drop]
    have := hc (k + i) (by omega)
    show cellAt H ⟨b, 0 + k * 1 + i, none⟩ _
    rw [show 0 + k * 1 + i = 0 + (k + i) by omega]
    exact this

section
variable {P : Program} {H : Heap} {nx : Nat} {ev : Operand → Option Value} {dst : Option Tmp} {type : TypeId} {pos : String} {after : Array Edge} {guard : Option (Nat × Bool)}
theorem aop_remN {t u : TypeId} {x y : Operand} {a b : Int} (hx : ev x = some (.int .i64 a)) (hy : ev y = some (.int .i64 b)) (h0 : 0 ≤ a) (hb : 0 < b) (hm : a ≤ 4611686018427387904) :
    aop P H nx ev ⟨dst, .binOp .rem t x y u, type, pos, after, guard⟩ = some (.int .i64 (a % b), .none) := by
  have e : a.tmod b = a % b := Int.tmod_eq_emod_of_nonneg h0
  have hb0 : ¬ b = 0 := by omega
  simp [aop, hx, hy, aBin, intArith, hb0, e]
theorem aop_quoN {t u : TypeId} {x y : Operand} {a b : Int} (hx : ev x = some (.int .i64 a)) (hy : ev y = some (.int .i64 b)) (h0 : 0 ≤ a) (hb : 0 < b) (hm : a ≤ 4611686018427387904) :
    aop P H nx ev ⟨dst, .binOp .quo t x y u, type, pos, after, guard⟩ = some (.int .i64 (a / b), .none) := by
  have e : a.tdiv b = a / b := Int.tdiv_eq_ediv_of_nonneg h0
  have hb0 : ¬ b = 0 := by omega
  have h1 := Int.ediv_nonneg h0 (show 0 ≤ b by omega)
  have h2 := Int.ediv_le_self b h0
  have w : IntKind.i64.wrap (a / b) = a / b := by rw [wrap_i64]; omega
  simp [aop, hx, hy, aBin, intArith, hb0, e, w]
theorem aop_eqlBr {t u : TypeId} {x y : Operand} {a b r : Bool} (hx : ev x = some (.bool a)) (hy : ev y = some (.bool b)) (hu : P.underlying t = some .bool) (h : (a == b) = r) :
    aop P H nx ev ⟨dst, .binOp .eql t x y u, type, pos, after, guard⟩ = some (.bool r, .none) := by
  subst h
  have := aop_eqlB (P := P) (H := H) (nx := nx) (dst := dst) (type := type) (pos := pos) (after := after) (guard := guard) (u := u) hx hy hu
  rw [this]
  try rfl
end

/-- What Put tells is told by what Find told. -/
theorem put_told {R R' : List (List (Int × Int))} {rf r : List (Int × Int)} {x y : Int} {was nw : Bool} (he : rf = r) (hf : (was = true ∧ ∃ k : Nat, x = k ∧ R[k]? = some rf) ∨ (was = false ∧ x = 0 ∧ rf ∉ R)) (hp : (nw = false ∧ R' = R ∧ ∃ k : Nat, y = k ∧ R[k]? = some r) ∨ (nw = true ∧ r ∉ R ∧ y = R.length ∧ R' = R ++ [r])) :
    ∃ k : Nat, y = k ∧ R'[k]? = some r ∧ k ≤ R.length ∧ ((was = true ∧ nw = false ∧ R' = R ∧ k < R.length) ∨ (was = false ∧ nw = true ∧ R' = R ++ [r] ∧ k = R.length)) := by
  subst he
  rcases hp with ⟨h1, h2, k, h3, h4⟩ | ⟨h1, h2, h3, h4⟩
  · have hk : k < R.length := (List.getElem?_eq_some_iff.1 h4).1
    refine ⟨k, h3, by rw [h2]; exact h4, by omega, .inl ⟨?_, h1, h2, hk⟩⟩
    rcases hf with ⟨h, _⟩ | ⟨_, _, h⟩
    · exact h
    · exact absurd (List.mem_of_getElem? h4) h
  · refine ⟨R.length, h3, by rw [h4]; simp, Nat.le_refl _, .inr ⟨?_, h1, h4, rfl⟩⟩
    rcases hf with ⟨_, k, _, h⟩ | ⟨h, _⟩
    · exact absurd (List.mem_of_getElem? h) h2
    · exact h

end Go.Proofs.Ytigincejpjajpaa
