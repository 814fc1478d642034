/-
  Each once, of neighbours that are alike: by plain functions; and rows written into.
-/
import Derived.Test.YtigincejpjajpaaRow2
namespace Go.Am
set_option linter.unusedSimpArgs false
set_option linter.unusedVariables false
open Go.RowKit

section
variable {α : Type} [DecidableEq α]
def dedF (l : List α) : List α := l.foldl (fun acc x => if acc.getLast? = some x then acc else acc ++ [x]) []
theorem dedF_snoc (p : List α) (x : α) : dedF (p ++ [x]) = if (dedF p).getLast? = some x then dedF p else dedF p ++ [x] := by
  unfold dedF
  rw [List.foldl_append]
  rfl
theorem dedF_last (l : List α) : (dedF l).getLast? = l.getLast? := by
  rcases List.eq_nil_or_concat l with rfl | ⟨p, x, rfl⟩
  · rfl
  · rw [List.concat_eq_append, dedF_snoc]
    split
    · rename_i h; rw [h]; simp
    · simp
theorem dedF_snoc' (p : List α) (x : α) : dedF (p ++ [x]) = if p.getLast? = some x then dedF p else dedF p ++ [x] := by rw [dedF_snoc, dedF_last]
theorem dedF_take (l : List α) {m : Nat} (h0 : 0 < m) (h : m < l.length) : dedF (l.take (m + 1)) = if l[m - 1] = l[m] then dedF (l.take m) else dedF (l.take m) ++ [l[m]] := by
  rw [List.take_add_one, List.getElem?_eq_getElem h, Option.toList_some, dedF_snoc']
  have : (l.take m).getLast? = some l[m - 1] := by
    rw [List.getLast?_eq_getElem?, List.length_take, Nat.min_eq_left (by omega), List.getElem?_take, if_pos (by omega), List.getElem?_eq_getElem]
  rw [this]
  simp
theorem dedF_one (l : List α) (h : l.length ≤ 1) : dedF l = l := by
  match l, h with
  | [], _ => rfl
  | [x], _ => rfl
/-- No two neighbours alike. -/
theorem dedF_same (l : List α) : ∀ m, m ≤ l.length → (∀ i (h : i < l.length), 0 < i → i < m → l[i - 1] ≠ l[i]) → dedF (l.take m) = l.take m := by
  intro m
  induction m with
  | zero => intro _ _; rfl
  | succ m ih =>
    intro hm h
    by_cases h0 : 0 < m
    · rw [dedF_take l h0 (by omega), if_neg (h m (by omega) h0 (Nat.lt_succ_self _)), ih (by omega) (fun i hi a b => h i hi a (by omega)), List.take_add_one, List.getElem?_eq_getElem (by omega : m < l.length)]
      rfl
    · have : m = 0 := by omega
      subst this
      exact dedF_one _ (by simp; omega)

/-- What stands there, stands in the row as it was. -/
theorem dedF_mem (l : List α) (x : α) : x ∈ dedF l ↔ x ∈ l := by
  have : ∀ l : List α, ∀ acc : List α, x ∈ l.foldl (fun acc x => if acc.getLast? = some x then acc else acc ++ [x]) acc ↔ x ∈ acc ∨ x ∈ l := by
    intro l
    induction l with
    | nil => intro acc; simp
    | cons y l ih =>
      intro acc
      rw [List.foldl_cons, ih]
      split
      · rename_i h
        have := List.mem_of_getLast? h
        constructor
        · rintro (h1 | h1)
          · exact .inl h1
          · exact .inr (List.mem_cons_of_mem _ h1)
        · rintro (h1 | h1)
          · exact .inl h1
          · rcases List.mem_cons.1 h1 with rfl | h1
            · exact .inl this
            · exact .inr h1
      · simp only [List.mem_append, List.mem_cons, List.not_mem_nil, or_false]
        constructor
        · rintro ((h1 | h1) | h1)
          · exact .inl h1
          · exact .inr (.inl h1)
          · exact .inr (.inr h1)
        · rintro (h1 | h1 | h1)
          · exact .inl (.inl h1)
          · exact .inl (.inr h1)
          · exact .inr h1
  have h := this l []
  simpa [dedF] using h
theorem dedF_len (l : List α) : (dedF l).length ≤ l.length := by
  have : ∀ l : List α, ∀ acc : List α, (l.foldl (fun acc x => if acc.getLast? = some x then acc else acc ++ [x]) acc).length ≤ acc.length + l.length := by
    intro l
    induction l with
    | nil => intro acc; simp
    | cons y l ih =>
      intro acc
      rw [List.foldl_cons]
      refine Nat.le_trans (ih _) ?_
      split <;> simp <;> omega
  have h := this l []
  simpa [dedF] using h
end

section
variable {α : Type} {enc : α → List Value} {sz : Nat} {H : Heap}
theorem flat_set (hk : ∀ x, (enc x).length = sz) : ∀ (l : List α) (i : Nat) (x : α), i < l.length → (l.flatMap enc).take (i * sz) ++ enc x ++ (l.flatMap enc).drop (i * sz + sz) = (l.set i x).flatMap enc := by
  intro l
  induction l with
  | nil => intro i x h; simp at h
  | cons y l ih =>
    intro i x h
    cases i with
    | zero =>
      rw [Nat.zero_mul, Nat.zero_add, List.take_zero, List.nil_append, List.flatMap_cons, List.set_cons_zero, List.flatMap_cons]
      rw [show sz = (enc y).length from (hk y).symm, List.drop_left]
    | succ i =>
      have := ih i x (by simpa using h)
      rw [List.flatMap_cons, List.set_cons_succ, List.flatMap_cons, ← this]
      rw [Nat.add_mul, Nat.one_mul]
      rw [List.take_append, List.drop_append, hk, List.take_of_length_le (by rw [hk]; omega), List.drop_eq_nil_of_le (by rw [hk]; omega)]
      rw [show i * sz + sz - sz = i * sz by omega, show i * sz + sz + sz - sz = i * sz + sz by omega]
      simp

theorem setc_flat (hk : ∀ x, (enc x).length = sz) (h1 : ∀ x, (enc x).all (·.oneCell') = true) {b t : Nat} {el : TypeId} {l : List α} {rest : List Value} {i : Nat} {x : α} (hH : H b = some (.cells (l.flatMap enc ++ rest) sz (some t) false (some el))) (hi : i < l.length) :
    setc H ⟨b, 0 + i * sz, some t⟩ (enc x) = some (.cells ((l.set i x).flatMap enc ++ rest) sz (some t) false (some el)) := by
  have hfl := flat_len hk l
  have hle : (i + 1) * sz ≤ l.length * sz := Nat.mul_le_mul_right sz hi
  rw [Nat.add_mul, Nat.one_mul] at hle
  have hone := h1 x
  unfold setc
  simp only [hH, Nat.zero_add]
  rw [if_pos ⟨trivial, by rw [List.length_append, hfl, hk]; omega, trivial, hone⟩]
  rw [hk, List.take_append_of_le_length (by rw [hfl]; omega), List.drop_append_of_le_length (by rw [hfl]; omega), ← List.append_assoc, ← flat_set hk l i x hi]

theorem getc_flat (hk : ∀ x, (enc x).length = sz) {b t : Nat} {el : TypeId} {l : List α} {rest : List Value} {i : Nat} (hH : H b = some (.cells (l.flatMap enc ++ rest) sz (some t) false (some el))) (hi : i < l.length) : getc H ⟨b, 0 + i * sz, some t⟩ sz = some (enc l[i]) := by
  have hfl := flat_len hk l
  have hle : (i + 1) * sz ≤ l.length * sz := Nat.mul_le_mul_right sz hi
  rw [Nat.add_mul, Nat.one_mul] at hle
  unfold getc
  simp only [hH, Nat.zero_add]
  rw [if_pos ⟨trivial, by rw [List.length_append, hfl]; omega⟩, List.drop_append_of_le_length (by rw [hfl]; omega), List.take_append_of_le_length (by rw [List.length_drop, hfl]; omega), flat_at hk l i hi]

theorem zcells_len {z : List Value} (n : Nat) : (zcells z n).length = n * z.length := by
  induction n with
  | zero => simp [zcells, rep]
  | succ n ih => simp_all [zcells, rep, List.replicate_succ, Nat.add_mul]; omega
theorem zcells_one {z : List Value} (h : z.all (·.oneCell') = true) (n : Nat) : (zcells z n).all (·.oneCell') = true := by
  induction n with
  | zero => simp [zcells, rep]
  | succ n ih => simp_all [zcells, rep, List.replicate_succ]

/-- The end of a row made nothing. -/
theorem setc_end (hk : ∀ x, (enc x).length = sz) {b t k : Nat} {el : TypeId} {l : List α} {rest z : List Value} (hz : z.length = sz) (hz1 : z.all (·.oneCell') = true) (hH : H b = some (.cells (l.flatMap enc ++ rest) sz (some t) false (some el))) (hkl : k ≤ l.length) :
    ∃ rest', setc H ⟨b, 0 + k * sz, some t⟩ (zcells z (l.length - k)) = some (.cells ((l.take k).flatMap enc ++ rest') sz (some t) false (some el)) := by
  have hfl := flat_len hk l
  have hft := flat_len hk (l.take k)
  have hsplit : l.flatMap enc = (l.take k).flatMap enc ++ (l.drop k).flatMap enc := by rw [← List.flatMap_append, List.take_append_drop]
  have hmul : (l.length - k) * sz + k * sz = l.length * sz := by rw [← Nat.add_mul]; congr 1; omega
  refine ⟨zcells z (l.length - k) ++ ((l.flatMap enc ++ rest).drop (k * sz + (zcells z (l.length - k)).length)), ?_⟩
  unfold setc
  simp only [hH, Nat.zero_add]
  rw [if_pos ⟨trivial, by rw [List.length_append, hfl, zcells_len, hz]; omega, trivial, zcells_one hz1 _⟩]
  have ht : (l.flatMap enc ++ rest).take (k * sz) = (l.take k).flatMap enc := by
    rw [hsplit, List.append_assoc, List.take_append_of_le_length (by rw [hft, List.length_take, Nat.min_eq_left hkl]; exact Nat.le_refl _), List.take_of_length_le (by rw [hft, List.length_take, Nat.min_eq_left hkl]; exact Nat.le_refl _)]
  rw [ht, List.append_assoc]
end

section
variable {P : Program} {W0 : World} {H : Heap} {nx n : Nat} {type : TypeId} {pos : String} {after : Array Edge} {ops : Array Oper} {l : List Oper} {tm : Nat → Value} {QQ : ASt → Prop}
theorem OpsL.clear {t el : TypeId} {x : Operand} {a : Addr} {m c : Nat} {z : List Value} {o : AObj} (hx : ASt.ev ⟨tm, n, H, nx⟩ x = some (.slice (some a) m c)) (hu : P.underlying t = some (.slice el)) (hz : zeroOf P el = some z) (hm : m ≠ 0) (hs : setc H a (zcells z m) = some o) (h : OpsL P W0 ops l ⟨tm, n, H.put a.block o, nx⟩ QQ) :
    OpsL P W0 ops (⟨none, .call ⟨.builtin .clear, #[x], #[t]⟩, type, pos, after, none⟩ :: l) ⟨tm, n, H, nx⟩ QQ := by
  refine OpsL.upd (v := .tuple #[]) ?_ h
  have hc : aClear P H #[t] (.slice (some a) m c) = none := by simp [aClear, hu]
  simp [aop, evAll, hx, aBuiltin, hc, aClearS, hu, hm, hz, hs]
end
end Go.Am
