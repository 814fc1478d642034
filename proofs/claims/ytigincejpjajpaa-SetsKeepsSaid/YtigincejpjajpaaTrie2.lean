/-
  Rows cut into pieces, a link a piece: what a table's links say of its rows.
-/
import Derived.Test.YtigincejpjajpaaRefB2
namespace Go.Proofs.Ytigincejpjajpaa
set_option linter.unusedSimpArgs false
set_option linter.unusedVariables false

abbrev Pr := Int × Int
/-- A key: where it goes on from, how many, these, then nothing. -/
def linkF (a : Int) (p : List Pr) : List Pr := (a, (p.length : Int)) :: (p ++ List.replicate (7 - p.length) (0, 0))
theorem linkF_len {a : Int} {p : List Pr} (h : p.length ≤ 7) : (linkF a p).length = 8 := by
  unfold linkF
  rw [List.length_cons, List.length_append, List.length_replicate]; omega
theorem linkF_inj {a b : Int} {p q : List Pr} (h : linkF a p = linkF b q) : a = b ∧ p = q := by
  unfold linkF at h
  have h1 := List.cons.inj h
  have h2 := Prod.mk.inj h1.1
  have hl : p.length = q.length := by have := h2.2; omega
  refine ⟨h2.1, ?_⟩
  have := congrArg (List.take p.length) h1.2
  rw [List.take_left, hl, List.take_left] at this
  exact this

abbrev Links := List (List Pr × Int)
def look : Links → List Pr → Option Int
  | [], _ => none
  | (k, v) :: m, x => if x = k then some v else look m x
theorem look_snoc (M : Links) (k x : List Pr) (v : Int) : look (M ++ [(k, v)]) x = match look M x with | some u => some u | none => if x = k then some v else none := by
  induction M with
  | nil => simp only [List.nil_append, look]
  | cons y M ih =>
    obtain ⟨k', v'⟩ := y
    simp only [List.cons_append, look]
    by_cases h : x = k'
    · simp only [if_pos h]
    · simp only [if_neg h, ih]
theorem look_old {M : Links} {k x : List Pr} {v u : Int} (h : look M x = some u) : look (M ++ [(k, v)]) x = some u := by rw [look_snoc, h]
theorem look_new {M : Links} {k : List Pr} {v : Int} (h : look M k = none) : look (M ++ [(k, v)]) k = some v := by rw [look_snoc, h]; exact if_pos rfl
theorem look_other {M : Links} {k x : List Pr} {v : Int} (h : x ≠ k) : look (M ++ [(k, v)]) x = look M x := by
  rw [look_snoc]
  cases look M x with
  | some u => rfl
  | none => exact if_neg h

/-- The number at the end of a row's links. -/
def walkF (M : Links) : Nat → Int → List Pr → Option Int
  | 0, _, _ => none
  | f + 1, a, row => if 7 ≤ row.length then (match look M (linkF a (row.take 7)) with | some b => walkF M f b (row.drop 7) | none => none) else look M (linkF a row)

theorem walk_mono {M M' : Links} (h : ∀ k v, look M k = some v → look M' k = some v) : ∀ (f : Nat) (a : Int) (row : List Pr) (v : Int), walkF M f a row = some v → walkF M' f a row = some v := by
  intro f
  induction f with
  | zero => intro a row v hv; cases hv
  | succ f ih =>
    intro a row v hv
    simp only [walkF] at hv ⊢
    split at hv
    · rename_i h7
      rw [if_pos h7]
      cases hl : look M (linkF a (row.take 7)) with
      | none => rw [hl] at hv; cases hv
      | some b =>
        rw [hl] at hv
        rw [h _ _ hl]
        exact ih _ _ _ hv
    · rename_i h7
      rw [if_neg h7]
      exact h _ _ hv

theorem walk_more {M : Links} : ∀ (f g : Nat) (a : Int) (row : List Pr), row.length < f → row.length < g → walkF M f a row = walkF M g a row := by
  intro f
  induction f with
  | zero => intro g a row h; omega
  | succ f ih =>
    intro g a row h1 h2
    obtain ⟨g, rfl⟩ : ∃ k, g = k + 1 := ⟨g - 1, by omega⟩
    simp only [walkF]
    by_cases h7 : 7 ≤ row.length
    · rw [if_pos h7, if_pos h7]
      cases look M (linkF a (row.take 7)) with
      | none => rfl
      | some b => exact ih _ _ _ (by rw [List.length_drop]; omega) (by rw [List.length_drop]; omega)
    · rw [if_neg h7, if_neg h7]

inductive Reach (M : Links) : Int → List Pr → Prop
  | zero : Reach M 0 []
  | step {a b : Int} {pre c : List Pr} (h : Reach M a pre) (hc : c.length = 7) (hl : look M (linkF a c) = some b) : Reach M b (pre ++ c)

theorem Reach.mono {M M' : Links} (h : ∀ k v, look M k = some v → look M' k = some v) {a : Int} {pre : List Pr} (hr : Reach M a pre) : Reach M' a pre := by
  induction hr with
  | zero => exact .zero
  | step _ hc hl ih => exact .step ih hc (h _ _ hl)

theorem Reach.walk {M : Links} {a : Int} {pre : List Pr} (hr : Reach M a pre) : ∀ (row : List Pr) (f g : Nat), pre.length + row.length < f → row.length < g → walkF M f 0 (pre ++ row) = walkF M g a row := by
  induction hr with
  | zero => intro row f g h1 h2; exact walk_more f g 0 _ (by simpa using h1) (by simpa using h2)
  | @step a b pre c _ hc hl ih =>
    intro row f g h1 h2
    rw [List.append_assoc, ih (c ++ row) f (c.length + row.length + 1) (by rw [List.length_append] at *; omega) (by rw [List.length_append]; omega)]
    have h7 : 7 ≤ (c ++ row).length := by rw [List.length_append]; omega
    have ht : (c ++ row).take 7 = c := by rw [← hc]; exact List.take_left
    have hd : (c ++ row).drop 7 = row := by rw [← hc]; exact List.drop_left
    simp only [walkF]
    rw [if_pos h7, ht, hl, hd]
    exact walk_more _ _ _ _ (by omega) h2

/-- What a table's links say of its rows. -/
structure Trie (M : Links) (R : List (List Pr)) : Prop where
  low : ∀ a c v, c.length = 7 → look M (linkF a c) = some v → 1 ≤ v ∧ v ≤ M.length
  inj : ∀ a c a2 c2 v, c.length = 7 → c2.length = 7 → look M (linkF a c) = some v → look M (linkF a2 c2) = some v → a = a2 ∧ c = c2
  ends : ∀ a c v, c.length < 7 → look M (linkF a c) = some v → ∃ n : Nat, v = n ∧ ∃ pre, Reach M a pre ∧ R[n]? = some (pre ++ c)
  rows : ∀ (n : Nat) row, R[n]? = some row → ∀ f, row.length < f → walkF M f 0 row = some (n : Int)

theorem Trie.empty : Trie [] [] := ⟨fun _ _ _ _ h => (by cases h), fun _ _ _ _ _ _ _ h => (by cases h), fun _ _ _ _ h => (by cases h), fun n row h => (by simp at h)⟩

section
variable {M : Links} {R : List (List Pr)}
theorem Reach.pos (hT : Trie M R) {a : Int} {pre : List Pr} (h : Reach M a pre) : (a = 0 ∧ pre = []) ∨ 1 ≤ a := by
  cases h with
  | zero => exact .inl ⟨rfl, rfl⟩
  | step h hc hl => exact .inr (hT.low _ _ _ hc hl).1
theorem Reach.le (hT : Trie M R) {a : Int} {pre : List Pr} (h : Reach M a pre) : 0 ≤ a ∧ a ≤ M.length := by
  cases h with
  | zero => omega
  | step h hc hl => have := hT.low _ _ _ hc hl; omega
theorem Reach.uniq (hT : Trie M R) {a : Int} {pre : List Pr} (h : Reach M a pre) : ∀ {pre2 : List Pr}, Reach M a pre2 → pre = pre2 := by
  induction h with
  | zero =>
    intro pre2 h2
    rcases h2.pos hT with ⟨_, h⟩ | h
    · exact h.symm
    · omega
  | @step a b pre c h hc hl ih =>
    intro pre2 h2
    cases h2 with
    | zero => have := (hT.low _ _ _ hc hl).1; omega
    | @step a2 _ pre3 c2 h2 hc2 hl2 =>
      obtain ⟨rfl, rfl⟩ := hT.inj _ _ _ _ _ hc hc2 hl hl2
      rw [ih h2]

theorem Trie.found (hT : Trie M R) : ∀ (f : Nat) {a : Int} {pre row : List Pr} {v : Int}, Reach M a pre → walkF M f a row = some v → ∃ n : Nat, v = n ∧ R[n]? = some (pre ++ row) := by
  intro f
  induction f with
  | zero => intro a pre row v _ h; cases h
  | succ f ih =>
    intro a pre row v hr h
    simp only [walkF] at h
    split at h
    · rename_i h7
      cases hl : look M (linkF a (row.take 7)) with
      | none => rw [hl] at h; cases h
      | some b =>
        rw [hl] at h
        have := ih (.step hr (by rw [List.length_take]; omega) hl) h
        rwa [List.append_assoc, List.take_append_drop] at this
    · rename_i h7
      obtain ⟨n, hv, pre2, hr2, hn⟩ := hT.ends _ _ _ (by omega) h
      exact ⟨n, hv, by rw [hn, hr.uniq hT hr2]⟩

theorem Trie.missed (hT : Trie M R) {a : Int} {pre row : List Pr} (hr : Reach M a pre) {f : Nat} (hf : row.length < f) (h : walkF M f a row = none) : pre ++ row ∉ R := by
  intro hin
  obtain ⟨n, hn, he⟩ := List.getElem_of_mem hin
  have h1 := hT.rows n (pre ++ row) (by rw [List.getElem?_eq_getElem hn, he]) (pre.length + row.length + 1) (by rw [List.length_append]; omega)
  rw [hr.walk row _ f (by omega) hf, h] at h1
  cases h1

/-- A full link more. -/
theorem Trie.lead (hT : Trie M R) {a : Int} {pre c : List Pr} (hr : Reach M a pre) (hc : c.length = 7) (hl : look M (linkF a c) = none) :
    Trie (M ++ [(linkF a c, (M.length : Int) + 1)]) R ∧ Reach (M ++ [(linkF a c, (M.length : Int) + 1)]) ((M.length : Int) + 1) (pre ++ c) := by
  have hm : ∀ k v, look M k = some v → look (M ++ [(linkF a c, (M.length : Int) + 1)]) k = some v := fun k v h => look_old h
  have hlen : (M ++ [(linkF a c, (M.length : Int) + 1)]).length = M.length + 1 := by rw [List.length_append, List.length_singleton]
  have hcase : ∀ k v, look (M ++ [(linkF a c, (M.length : Int) + 1)]) k = some v → (look M k = some v) ∨ (k = linkF a c ∧ v = (M.length : Int) + 1) := fun k v h => by
    by_cases hk : k = linkF a c
    · subst hk
      rw [look_new hl] at h
      exact .inr ⟨rfl, (Option.some.inj h).symm⟩
    · rw [look_other hk] at h
      exact .inl h
  refine ⟨⟨fun a' c' v h7 h => ?_, fun a1 c1 a2 c2 v h1 h2 k1 k2 => ?_, fun a' c' v h7 h => ?_, fun n row h f hf => walk_mono hm _ _ _ _ (hT.rows n row h f hf)⟩, .step (hr.mono hm) hc (look_new hl)⟩
  · rcases hcase _ _ h with h | ⟨_, rfl⟩
    · have := hT.low _ _ _ h7 h
      omega
    · omega
  · rcases hcase _ _ k1 with k1 | ⟨e1, f1⟩
    · rcases hcase _ _ k2 with k2 | ⟨e2, f2⟩
      · exact hT.inj _ _ _ _ _ h1 h2 k1 k2
      · have := (hT.low _ _ _ h1 k1).2
        omega
    · rcases hcase _ _ k2 with k2 | ⟨e2, f2⟩
      · have := (hT.low _ _ _ h2 k2).2
        omega
      · exact linkF_inj (e1.trans e2.symm)
  · rcases hcase _ _ h with h | ⟨e, _⟩
    · obtain ⟨n, h1, pre', h2, h3⟩ := hT.ends _ _ _ h7 h
      exact ⟨n, h1, pre', h2.mono hm, h3⟩
    · have := (linkF_inj e).2
      rw [this] at h7
      omega

/-- A row's last link. -/
theorem Trie.add (hT : Trie M R) {a : Int} {pre c : List Pr} (hr : Reach M a pre) (hc : c.length < 7) (hl : look M (linkF a c) = none) : Trie (M ++ [(linkF a c, (R.length : Int))]) (R ++ [pre ++ c]) := by
  have hm : ∀ k v, look M k = some v → look (M ++ [(linkF a c, (R.length : Int))]) k = some v := fun k v h => look_old h
  have hlen : (M ++ [(linkF a c, (R.length : Int))]).length = M.length + 1 := by rw [List.length_append, List.length_singleton]
  have hcase : ∀ k v, look (M ++ [(linkF a c, (R.length : Int))]) k = some v → (look M k = some v) ∨ (k = linkF a c ∧ v = (R.length : Int)) := fun k v h => by
    by_cases hk : k = linkF a c
    · subst hk
      rw [look_new hl] at h
      exact .inr ⟨rfl, (Option.some.inj h).symm⟩
    · rw [look_other hk] at h
      exact .inl h
  have hfull : ∀ a' c' v, c'.length = 7 → look (M ++ [(linkF a c, (R.length : Int))]) (linkF a' c') = some v → look M (linkF a' c') = some v := fun a' c' v h7 h => by
    rcases hcase _ _ h with h | ⟨e, _⟩
    · exact h
    · have := (linkF_inj e).2
      rw [this] at h7
      omega
  refine ⟨fun a' c' v h7 h => ?_, fun a1 c1 a2 c2 v h1 h2 k1 k2 => hT.inj _ _ _ _ _ h1 h2 (hfull _ _ _ h1 k1) (hfull _ _ _ h2 k2), fun a' c' v h7 h => ?_, fun n row h f hf => ?_⟩
  · have := hT.low _ _ _ h7 (hfull _ _ _ h7 h)
    omega
  · rcases hcase _ _ h with h | ⟨e, rfl⟩
    · obtain ⟨n, h1, pre', h2, h3⟩ := hT.ends _ _ _ h7 h
      exact ⟨n, h1, pre', h2.mono hm, by rw [List.getElem?_append_left (List.getElem?_eq_some_iff.1 h3).1]; exact h3⟩
    · obtain ⟨rfl, rfl⟩ := linkF_inj e
      exact ⟨R.length, rfl, pre, hr.mono hm, by simp⟩
  · by_cases hn : n < R.length
    · rw [List.getElem?_append_left hn] at h
      exact walk_mono hm _ _ _ _ (hT.rows n row h f hf)
    · have hn2 : n = R.length := by
        have := (List.getElem?_eq_some_iff.1 h).1
        rw [List.length_append, List.length_singleton] at this
        omega
      subst hn2
      have he : row = pre ++ c := by simpa using h.symm
      subst he
      rw [(hr.mono hm).walk c f (c.length + 1) (by rw [List.length_append] at hf; exact hf) (by omega)]
      simp only [walkF]
      rw [if_neg (by omega), look_new hl]
end
end Go.Proofs.Ytigincejpjajpaa
