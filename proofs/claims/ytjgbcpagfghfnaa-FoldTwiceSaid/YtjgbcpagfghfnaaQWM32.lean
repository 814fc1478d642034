import Derived.Test.YtjgbcpagfghfnaaQWM13
set_option linter.unusedVariables false
set_option linter.unusedSimpArgs false
set_option linter.unnecessarySimpa false
namespace Go.Am
section
variable {K : Type} [DecidableEq K]
def num1 (s : List K × List Int) (k : K) : List K × List Int := (if k ∈ s.1 then s.1 else s.1 ++ [k], s.2 ++ [(s.1.idxOf k : Int)])
def numQ (l : List K) : List K × List Int := l.foldl num1 ([], [])
def numL (l : List K) : List Int := (numQ l).2
theorem numQ_snoc (l : List K) (k : K) : numQ (l ++ [k]) = num1 (numQ l) k := by
  unfold numQ; rw [List.foldl_append]; rfl
theorem num_len (l : List K) : (numQ l).2.length = l.length := by
  suffices h : ∀ (l : List K) (s : List K × List Int), (l.foldl num1 s).2.length = s.2.length + l.length by
    have := h l ([], []); simpa [numQ] using this
  intro l
  induction l with
  | nil => intro s; rfl
  | cons a l ih => intro s; rw [List.foldl_cons, ih]; simp only [num1, List.length_append, List.length_cons, List.length_nil]; omega
theorem num_keys (l : List K) : (numQ l).1.length ≤ l.length := by
  suffices h : ∀ (l : List K) (s : List K × List Int), (l.foldl num1 s).1.length ≤ s.1.length + l.length by
    have := h l ([], []); simpa [numQ] using this
  intro l
  induction l with
  | nil => intro s; exact Nat.le_refl _
  | cons a l ih =>
    intro s; rw [List.foldl_cons]; refine Nat.le_trans (ih _) ?_
    simp only [num1, List.length_cons]
    split <;> simp <;> omega
theorem num_mem (l : List K) : ∀ k, k ∈ (numQ l).1 ↔ k ∈ l := by
  suffices h : ∀ (l : List K) (s : List K × List Int) k, k ∈ (l.foldl num1 s).1 ↔ k ∈ s.1 ∨ k ∈ l by
    intro k; have := h l ([], []) k; simpa [numQ] using this
  intro l
  induction l with
  | nil => intro s k; simp
  | cons a l ih =>
    intro s k; rw [List.foldl_cons, ih]
    simp only [num1, List.mem_cons]
    split
    · rename_i h
      constructor
      · rintro (h1 | h1)
        · exact .inl h1
        · exact .inr (.inr h1)
      · rintro (h1 | h1 | h1)
        · exact .inl h1
        · exact .inl (h1 ▸ h)
        · exact .inr h1
    · simp only [List.mem_append, List.mem_singleton]
      constructor
      · rintro ((h1 | h1) | h1)
        · exact .inl h1
        · exact .inr (.inl h1)
        · exact .inr (.inr h1)
      · rintro (h1 | h1 | h1)
        · exact .inl (.inl h1)
        · exact .inl (.inr h1)
        · exact .inr h1
theorem num_get (l : List K) : (∀ (i : Nat) (k : K), l[i]? = some k → (numL l)[i]? = some ((numQ l).1.idxOf k : Int)) := by
  suffices h : ∀ (l : List K) (s : List K × List Int) (p : List K), p.length = s.2.length → (∀ k, k ∈ p → k ∈ s.1) → (∀ (i : Nat) (k : K), p[i]? = some k → s.2[i]? = some (s.1.idxOf k : Int)) → ∀ (i : Nat) (k : K), (p ++ l)[i]? = some k → (l.foldl num1 s).2[i]? = some ((l.foldl num1 s).1.idxOf k : Int) by
    exact h l ([], []) [] rfl (by simp) (by simp)
  intro l
  induction l with
  | nil => intro s p _ _ hp i k h; rw [List.append_nil] at h; exact hp i k h
  | cons a l ih =>
    intro s p hl hm hp i k h
    rw [List.foldl_cons]
    have hold : ∀ k, k ∈ s.1 → (num1 s a).1.idxOf k = s.1.idxOf k := by
      intro k hk
      simp only [num1]
      split
      · rfl
      · rw [List.idxOf_append, if_pos hk]
    refine ih (num1 s a) (p ++ [a]) (by simp [num1, hl]) ?_ ?_ i k (by rw [List.append_assoc]; exact h)
    · intro k hk
      rcases List.mem_append.1 hk with h1 | h1
      · have := hm k h1
        simp only [num1]; split
        · exact this
        · exact List.mem_append_left _ this
      · rw [List.mem_singleton.1 h1]
        simp only [num1]; split
        · assumption
        · exact List.mem_append_right _ (List.mem_singleton.2 rfl)
    · intro i k h
      by_cases hi : i < p.length
      · rw [List.getElem?_append_left hi] at h
        have h2 := hp i k h
        rw [hold k (hm k (List.mem_of_getElem? h))]
        simp only [num1]
        rw [List.getElem?_append_left (by rw [← hl]; exact hi)]
        exact h2
      · rw [List.getElem?_append_right (by omega)] at h
        have hi2 : i = p.length := by
          by_cases e : i - p.length = 0
          · omega
          · rw [List.getElem?_eq_none (by simp; omega)] at h; cases h
        subst hi2
        rw [Nat.sub_self] at h
        cases h
        simp only [num1]
        rw [List.getElem?_append_right (by omega), hl, Nat.sub_self]
        simp only [List.getElem?_cons_zero, Option.some.injEq]
        split
        · rfl
        · rename_i hn
          rw [List.idxOf_append, if_neg hn, List.idxOf_eq_length hn]
          simp
theorem num_bd (l : List K) : ∀ x ∈ numL l, 0 ≤ x ∧ x < (numQ l).1.length := by
  intro x hx
  obtain ⟨i, hi, rfl⟩ := List.getElem_of_mem hx
  have hl := num_len l
  have hi2 : i < l.length := by rw [← hl]; exact hi
  have := num_get l i l[i] (List.getElem?_eq_getElem hi2)
  rw [List.getElem?_eq_getElem hi] at this
  have this := Option.some.inj this
  have h := List.idxOf_lt_length_of_mem ((num_mem l l[i]).2 (List.getElem_mem hi2))
  rw [this]
  omega
theorem num_eq (l : List K) {i j : Nat} (hi : i < l.length) (hj : j < l.length) : (numL l)[i]? = (numL l)[j]? ↔ l[i] = l[j] := by
  rw [num_get l i _ (List.getElem?_eq_getElem hi), num_get l j _ (List.getElem?_eq_getElem hj)]
  constructor
  · intro h
    have h1 : (numQ l).1.idxOf l[i] = (numQ l).1.idxOf l[j] := by
      have := Option.some.inj h; omega
    have a1 := List.idxOf_lt_length_of_mem ((num_mem l l[i]).2 (List.getElem_mem hi))
    have a2 := List.idxOf_lt_length_of_mem ((num_mem l l[j]).2 (List.getElem_mem hj))
    have b1 := List.getElem_idxOf a1
    have b2 := List.getElem_idxOf a2
    rw [← b1, ← b2]
    congr 1
  · intro h; rw [h]
end
section
variable {K L : Type} [DecidableEq K] [DecidableEq L]
theorem num_map_inj (g : K → L) (l : List K) (hg : ∀ a ∈ l, ∀ b ∈ l, g a = g b → a = b) : (numQ (l.map g)).1 = (numQ l).1.map g ∧ numL (l.map g) = numL l := by
  suffices h : ∀ (r : List K), (∀ a ∈ r.reverse, ∀ b ∈ r.reverse, g a = g b → a = b) → (numQ (r.reverse.map g)).1 = (numQ r.reverse).1.map g ∧ numL (r.reverse.map g) = numL r.reverse by
    have := h l.reverse; rw [List.reverse_reverse] at this; exact this hg
  clear hg
  intro r
  induction r with
  | nil => intro _; exact ⟨rfl, rfl⟩
  | cons a r ih =>
    intro hg
    rw [List.reverse_cons] at hg ⊢
    obtain ⟨h1, h2⟩ := ih (fun x hx y hy => hg x (List.mem_append_left _ hx) y (List.mem_append_left _ hy))
    generalize r.reverse = l at *
    have hm : g a ∈ (numQ (l.map g)).1 ↔ a ∈ (numQ l).1 := by
      rw [num_mem, num_mem]
      constructor
      · intro h
        obtain ⟨x, hx, e⟩ := List.mem_map.1 h
        have := hg x (List.mem_append_left _ hx) a (List.mem_append_right _ (List.mem_singleton.2 rfl)) e
        rwa [← this]
      · intro h; exact List.mem_map.2 ⟨a, h, rfl⟩
    have hi : (numQ (l.map g)).1.idxOf (g a) = (numQ l).1.idxOf a := by
      rw [h1]
      have hs : ∀ s : List K, (∀ x ∈ s, g x = g a → x = a) → (s.map g).idxOf (g a) = s.idxOf a := by
        intro s
        induction s with
        | nil => intro _; rfl
        | cons x s ih =>
          intro hs
          rw [List.map_cons, List.idxOf_cons, List.idxOf_cons]
          by_cases e : x = a
          · subst e; simp
          · have e2 : g x ≠ g a := fun q => e (hs x (List.mem_cons_self ..) q)
            have b1 : (g x == g a) = false := by simpa using e2
            have b2 : (x == a) = false := by simpa using e
            rw [b1, b2]
            simp only [cond_false]
            rw [ih (fun y hy => hs y (List.mem_cons_of_mem _ hy))]
      exact hs _ fun x hx e => hg x (List.mem_append_left _ ((num_mem l x).1 hx)) a (List.mem_append_right _ (List.mem_singleton.2 rfl)) e
    unfold numL at *
    rw [List.map_append, List.map_cons, List.map_nil, numQ_snoc, numQ_snoc]
    simp only [num1]
    refine ⟨?_, by rw [h2, hi]⟩
    by_cases ha : a ∈ (numQ l).1
    · rw [if_pos ha, if_pos (hm.2 ha)]; exact h1
    · rw [if_neg ha, if_neg (fun q => ha (hm.1 q)), h1]; simp
theorem numL_map (l : List K) : numL l = l.map fun k => ((numQ l).1.idxOf k : Int) := by
  refine List.ext_getElem? fun i => ?_
  rw [List.getElem?_map]
  cases h : l[i]? with
  | none =>
    rw [List.getElem?_eq_none_iff] at h
    simp only [Option.map_none]
    rw [List.getElem?_eq_none]
    unfold numL; rw [num_len]; exact h
  | some k => exact num_get l i k h
def Can (c : List Int) : Prop := numL c = c
theorem can_num (l : List K) : Can (numL l) := by
  have h := (num_map_inj (fun k => ((numQ l).1.idxOf k : Int)) l (fun a ha b hb e => by
    have a1 := List.idxOf_lt_length_of_mem ((num_mem l a).2 ha)
    have a2 := List.idxOf_lt_length_of_mem ((num_mem l b).2 hb)
    have b1 := List.getElem_idxOf a1
    have b2 := List.getElem_idxOf a2
    have e2 : (numQ l).1.idxOf a = (numQ l).1.idxOf b := by omega
    rw [← b1, ← b2]
    congr 1)).2
  rw [← numL_map] at h
  exact h
def numD (l : List K) : Nat := (numQ l).1.length
theorem numD_num (l : List K) : numD (numL l) = numD l := by
  have h := (num_map_inj (fun k => ((numQ l).1.idxOf k : Int)) l (fun a ha b hb e => by
    have a1 := List.idxOf_lt_length_of_mem ((num_mem l a).2 ha)
    have a2 := List.idxOf_lt_length_of_mem ((num_mem l b).2 hb)
    have b1 := List.getElem_idxOf a1
    have b2 := List.getElem_idxOf a2
    have e2 : (numQ l).1.idxOf a = (numQ l).1.idxOf b := by omega
    rw [← b1, ← b2]
    congr 1)).1
  rw [← numL_map] at h
  unfold numD
  rw [h, List.length_map]
theorem num_finer (g : K → L) (l : List K) : numD (l.map g) ≤ numD l ∧ (numD (l.map g) = numD l → numL (l.map g) = numL l) := by
  suffices h : ∀ (r : List K), numD (r.reverse.map g) ≤ numD r.reverse ∧ (numD (r.reverse.map g) = numD r.reverse → ∀ a ∈ r.reverse, ∀ b ∈ r.reverse, g a = g b → a = b) by
    have := h l.reverse; rw [List.reverse_reverse] at this
    exact ⟨this.1, fun e => (num_map_inj g l (this.2 e)).2⟩
  intro r
  induction r with
  | nil => exact ⟨Nat.le_refl _, fun _ a ha => by simp at ha⟩
  | cons a r ih =>
    rw [List.reverse_cons]
    generalize r.reverse = l at *
    unfold numD at *
    rw [List.map_append, List.map_cons, List.map_nil, numQ_snoc, numQ_snoc]
    simp only [num1]
    obtain ⟨h1, h2⟩ := ih
    by_cases ha : a ∈ (numQ l).1
    · have hg : g a ∈ (numQ (l.map g)).1 := (num_mem _ _).2 (List.mem_map.2 ⟨a, (num_mem _ _).1 ha, rfl⟩)
      rw [if_pos ha, if_pos hg]
      have ham := (num_mem _ _).1 ha
      refine ⟨h1, fun e x hx y hy q => ?_⟩
      have hx' : x ∈ l := by rcases List.mem_append.1 hx with h | h; exact h; rw [List.mem_singleton.1 h]; exact ham
      have hy' : y ∈ l := by rcases List.mem_append.1 hy with h | h; exact h; rw [List.mem_singleton.1 h]; exact ham
      exact h2 e x hx' y hy' q
    · rw [if_neg ha, List.length_append, List.length_singleton]
      by_cases hg : g a ∈ (numQ (l.map g)).1
      · rw [if_pos hg]
        exact ⟨by omega, fun e => by omega⟩
      · rw [if_neg hg, List.length_append, List.length_singleton]
        refine ⟨by omega, fun e x hx y hy q => ?_⟩
        have h3 := h2 (by omega)
        have hna : ∀ x, x ∈ l → g x ≠ g a := fun x hx e => hg ((num_mem _ _).2 (List.mem_map.2 ⟨x, hx, e⟩))
        rcases List.mem_append.1 hx with hx' | hx'
        · rcases List.mem_append.1 hy with hy' | hy'
          · exact h3 x hx' y hy' q
          · rw [List.mem_singleton.1 hy'] at q; exact absurd q (hna x hx')
        · rcases List.mem_append.1 hy with hy' | hy'
          · rw [List.mem_singleton.1 hx'] at q; exact absurd q.symm (hna y hy')
          · rw [List.mem_singleton.1 hx', List.mem_singleton.1 hy']
end
def partK (c : List Int) (row : List Int) (p : Nat) : List Int := c.getD p 0 :: (row.map fun q => c.getD q.toNat 0) ++ List.replicate (60 - row.length) 0
def partedL (c : List Int) (rows : List (List Int)) : List Int := numL ((List.range rows.length).map fun p => partK c (rows.getD p []) p)
theorem partedL_len (c : List Int) (rows : List (List Int)) : (partedL c rows).length = rows.length := by
  unfold partedL numL; rw [num_len]; simp
theorem partedL_finer {c : List Int} {rows : List (List Int)} (hc : Can c) (hl : rows.length = c.length) : numD c ≤ numD (partedL c rows) ∧ (numD c = numD (partedL c rows) → partedL c rows = c) := by
  unfold partedL
  rw [numD_num]
  have h := num_finer (fun k : List Int => k.headD 0) ((List.range rows.length).map fun p => partK c (rows.getD p []) p)
  have e : ((List.range rows.length).map fun p => partK c (rows.getD p []) p).map (fun k : List Int => k.headD 0) = c := by
    rw [List.map_map]
    refine List.ext_getElem (by simp [hl]) fun i h1 h2 => ?_
    simp only [List.getElem_map, List.getElem_range, Function.comp, partK, List.cons_append, List.headD_cons]
    rw [List.getD_eq_getElem?_getD, List.getElem?_eq_getElem h2]; rfl
  rw [e] at h
  exact ⟨h.1, fun q => (h.2 q).symm.trans hc⟩
def roundL (ways : List (List (List Int))) (c : List Int) : List Int := ways.foldl partedL c
theorem roundL_finer : ∀ (ways : List (List (List Int))) {c : List Int} {n : Nat}, Can c → c.length = n → (∀ r ∈ ways, r.length = n) → Can (roundL ways c) ∧ (roundL ways c).length = n ∧ numD c ≤ numD (roundL ways c) ∧ (numD c = numD (roundL ways c) → roundL ways c = c)
  | [], c, n, hc, hl, _ => ⟨hc, hl, Nat.le_refl _, fun _ => rfl⟩
  | r :: ways, c, n, hc, hl, hw => by
    have h1 := partedL_finer hc (rows := r) (by rw [hw r (List.mem_cons_self ..), hl])
    have h2 := roundL_finer ways (c := partedL c r) (n := n) (can_num _) (by rw [partedL_len, hw r (List.mem_cons_self ..)]) (fun r hr => hw r (List.mem_cons_of_mem _ hr))
    have e : roundL (r :: ways) c = roundL ways (partedL c r) := rfl
    rw [e]
    refine ⟨h2.1, h2.2.1, Nat.le_trans h1.1 h2.2.2.1, fun q => ?_⟩
    have q1 : numD c = numD (partedL c r) := by have := h2.2.2.1; have := h1.1; omega
    have q2 := h2.2.2.2 (by omega)
    rw [q2, h1.2 q1]
def settledL (ways : List (List (List Int))) : Nat → List Int → List Int
  | 0, c => c
  | f + 1, c => if roundL ways c = c then c else settledL ways f (roundL ways c)
theorem numD_le {K : Type} [DecidableEq K] (l : List K) : numD l ≤ l.length := num_keys l
end Go.Am
