/-
  Chapter 1: reading a word's text, by plain functions: the pieces between blanks, what a piece is.
-/
import Derived.Test.YtngekapiemkgnaaStr1
namespace Go.Proofs.Ytngekapiemkgnaa
open Go.Am Go.RowKit

def textOf (k : Int) (n : List Int) : List Int := if k = 1 then 60 :: n ++ [62] else if k = 2 then 60 :: 47 :: n ++ [62] else n

/-- A piece, read as the document does. -/
def rawF (p : List Int) : List Int × Int :=
  if p.head? = some 60 ∧ p.getLast? = some 62 then
    if 2 < p.length ∧ p[1]? = some 47 then ((p.drop 2).take (p.length - 1 - 2), 2) else ((p.drop 1).take (p.length - 1 - 1), 1)
  else (p, 3)
def readF (p : List Int) : Option (List Int × Int) := if okName (rawF p).1 then some (rawF p) else none

theorem okName_cons {n : List Int} (h : okName n) : ∃ b r, n = b :: r ∧ 97 ≤ b ∧ b ≤ 122 := by
  obtain ⟨h1, h2, _⟩ := h
  cases n with
  | nil => simp at h2
  | cons b r =>
    simp only [List.all_cons, Bool.and_eq_true] at h1
    exact ⟨b, r, rfl, isL_iff.1 h1.1⟩

theorem readF_textOf {k : Int} {n : List Int} (hk : k = 1 ∨ k = 2 ∨ k = 3) (h : okName n) : readF (textOf k n) = some (n, k) := by
  obtain ⟨b, r, rfl, hb⟩ := okName_cons h
  have h3 := h.2.2
  have t1 : textOf 1 (b :: r) = 60 :: (b :: r) ++ [62] := rfl
  have t2 : textOf 2 (b :: r) = 60 :: 47 :: (b :: r) ++ [62] := rfl
  have t3 : textOf 3 (b :: r) = b :: r := rfl
  have : rawF (textOf k (b :: r)) = (b :: r, k) := by
    rcases hk with rfl | rfl | rfl
    · rw [t1]
      have hl : (60 :: (b :: r) ++ [62] : List Int).getLast? = some 62 := by rw [List.getLast?_append]; rfl
      unfold rawF
      rw [if_pos ⟨rfl, hl⟩, if_neg (by simp; omega)]
      simp
    · rw [t2]
      have hl : (60 :: 47 :: (b :: r) ++ [62] : List Int).getLast? = some 62 := by rw [List.getLast?_append]; rfl
      unfold rawF
      rw [if_pos ⟨rfl, hl⟩, if_pos (by simp)]
      simp
    · rw [t3]
      unfold rawF
      rw [if_neg (by simp; omega)]
  unfold readF
  rw [this, if_pos h]

theorem rawF_textOf (p : List Int) (h : okName (rawF p).1) : p = textOf (rawF p).2 (rawF p).1 ∧ ((rawF p).2 = 1 ∨ (rawF p).2 = 2 ∨ (rawF p).2 = 3) := by
  unfold rawF at *
  split at h
  · rename_i hc
    obtain ⟨h1, h2⟩ := hc
    rw [if_pos ⟨h1, h2⟩]
    -- p = 60 :: q ++ [62]
    obtain ⟨q, hq⟩ : ∃ q, p = 60 :: q ++ [62] := by
      cases p with
      | nil => simp at h1
      | cons x t =>
        simp at h1
        subst h1
        rcases List.eq_nil_or_concat t with rfl | ⟨q, z, rfl⟩
        · simp at h2
        · rw [List.concat_eq_append] at *
          rw [show (60 :: (q ++ [z]) : List Int) = (60 :: q) ++ [z] from rfl, List.getLast?_append] at h2
          simp at h2
          exact ⟨q, by simp [h2]⟩
    subst hq
    split at h
    · rename_i hc
      rw [if_pos hc]
      refine ⟨?_, by simp⟩
      cases q with
      | nil => simp at hc
      | cons y q =>
        have hy : y = 47 := by simpa using hc.2
        subst hy
        simp [textOf]
    · rename_i hc
      rw [if_neg hc]
      refine ⟨?_, by simp⟩
      simp [textOf]
  · rename_i hc
    rw [if_neg hc]
    exact ⟨by simp [textOf], by simp⟩

theorem readF_iff {p n : List Int} {k : Int} : readF p = some (n, k) ↔ (k = 1 ∨ k = 2 ∨ k = 3) ∧ okName n ∧ p = textOf k n := by
  constructor
  · intro h
    unfold readF at h
    split at h
    · rename_i ho
      simp only [Option.some.injEq] at h
      obtain ⟨a, b⟩ := rawF_textOf p ho
      rw [h] at a b ho
      exact ⟨b, ho, a⟩
    · cases h
  · rintro ⟨a, b, rfl⟩
    exact readF_textOf a b

/-! ### the reader by classes -/

def runF (l : List Int) (j : Nat) : Nat := ((l.drop j).takeWhile isL).length
def endAt (l : List Int) (j : Nat) : Prop := classF l j = 1 ∨ classF l j = 6
instance (l : List Int) (j : Nat) : Decidable (endAt l j) := by unfold endAt; infer_instance

/-- first, last, kind, next -/
def scanF (l : List Int) (i : Nat) : Option (Nat × Nat × Int × Nat) :=
  if classF l i = 3 then
    if classF l (i + 1) = 4 then
      if classF l (i + 2 + runF l (i + 2)) = 5 ∧ endAt l (i + 2 + runF l (i + 2) + 1) ∧ 1 ≤ runF l (i + 2) ∧ runF l (i + 2) ≤ 8 then some (i + 2, i + 2 + runF l (i + 2), 2, i + 2 + runF l (i + 2) + 1) else none
    else
      if classF l (i + 1 + runF l (i + 1)) = 5 ∧ endAt l (i + 1 + runF l (i + 1) + 1) ∧ 1 ≤ runF l (i + 1) ∧ runF l (i + 1) ≤ 8 then some (i + 1, i + 1 + runF l (i + 1), 1, i + 1 + runF l (i + 1) + 1) else none
  else if classF l i = 2 then
    if endAt l (i + runF l i) ∧ 1 ≤ runF l i ∧ runF l i ≤ 8 then some (i, i + runF l i, 3, i + runF l i) else none
  else none

theorem classF_drop (l : List Int) (i j : Nat) : classF l (i + j) = classF (l.drop i) j := by unfold classF; rw [List.getElem?_drop]
theorem runF_drop (l : List Int) (i j : Nat) : runF l (i + j) = runF (l.drop i) j := by unfold runF; rw [List.drop_drop]
theorem classF_zero_cons (b : Int) (l : List Int) : classF (b :: l) 0 = classI b := rfl
theorem classF_succ_cons (b : Int) (l : List Int) (j : Nat) : classF (b :: l) (j + 1) = classF l j := rfl
theorem runF_succ_cons (b : Int) (l : List Int) (j : Nat) : runF (b :: l) (j + 1) = runF l j := rfl

/-- A run of letters at the head, and what is behind it. -/
theorem run_split (r : List Int) : ∃ n u, r = n ++ u ∧ n.all isL = true ∧ runF r 0 = n.length ∧ (u = [] ∨ ∃ c t, u = c :: t ∧ isL c = false) := by
  refine ⟨r.takeWhile isL, r.dropWhile isL, (List.takeWhile_append_dropWhile).symm, by simp [List.all_takeWhile], by simp [runF], ?_⟩
  cases hd : r.dropWhile isL with
  | nil => exact .inl rfl
  | cons c t =>
    refine .inr ⟨c, t, rfl, ?_⟩
    have := List.head?_dropWhile_not isL r
    rw [hd] at this
    simpa using this

theorem classF_at {n u : List Int} : classF (n ++ u) n.length = classF u 0 := by
  unfold classF
  rw [List.getElem?_append_right (Nat.le_refl _), Nat.sub_self]
theorem classF_at1 {n u : List Int} {c : Int} : classF (n ++ c :: u) (n.length + 1) = classF u 0 := by
  unfold classF
  rw [List.getElem?_append_right (by omega), show n.length + 1 - n.length = 1 by omega]
  rfl
theorem endAt_zero {u : List Int} : (classF u 0 = 1 ∨ classF u 0 = 6) ↔ u = [] ∨ ∃ t, u = 32 :: t := by
  cases u with
  | nil => simp [classF]
  | cons c t =>
    rw [classF_zero_cons, classI_blank]
    constructor
    · rintro (rfl | h)
      · exact .inr ⟨t, rfl⟩
      · exact absurd h classI_lt
    · rintro (h | ⟨t', h⟩)
      · cases h
      · cases h; exact .inl rfl

/-- What the reader by classes reads, is a text of a symbol, up to a blank or the end. -/
theorem scanF_iff (r : List Int) (a b : Nat) (k : Int) (c : Nat) : scanF r 0 = some (a, b, k, c) ↔
    ∃ n u, (k = 1 ∨ k = 2 ∨ k = 3) ∧ okName n ∧ r = textOf k n ++ u ∧ (u = [] ∨ ∃ t, u = 32 :: t) ∧ a = (if k = 1 then 1 else if k = 2 then 2 else 0) ∧ b = a + n.length ∧ c = (textOf k n).length := by
  have run_of : ∀ (n u : List Int), n.all isL = true → (u = [] ∨ ∃ c t, u = c :: t ∧ isL c = false) → runF (n ++ u) 0 = n.length := by
    intro n u hn hu
    unfold runF
    rw [List.drop_zero]
    induction n with
    | nil =>
      rcases hu with rfl | ⟨c, t, rfl, hc⟩
      · rfl
      · simp [hc]
    | cons x n ih =>
      simp only [List.all_cons, Bool.and_eq_true] at hn
      simp only [List.cons_append, List.takeWhile_cons, hn.1, if_true, List.length_cons]
      rw [ih hn.2]
  constructor
  · intro h
    unfold scanF at h
    cases r with
    | nil => simp [classF] at h
    | cons x r =>
      split at h
      · rename_i hx
        rw [classF_zero_cons, classI_left] at hx
        subst hx
        split at h
        · rename_i h4
          replace h4 : classF r 0 = 4 := h4
          cases r with
          | nil => simp [classF] at h4
          | cons y r =>
            rw [classF_zero_cons, classI_slash] at h4
            subst h4
            obtain ⟨n, u, rfl, hn, hr, hu⟩ := run_split r
            have e1 : runF (60 :: 47 :: (n ++ u)) (0 + 2) = n.length := hr
            rw [e1] at h
            split at h
            · rename_i hc
              obtain ⟨c1, c2, c3, c4⟩ := hc
              simp only [Option.some.injEq, Prod.mk.injEq] at h
              obtain ⟨rfl, rfl, rfl, rfl⟩ := h
              have c1' : classF (n ++ u) n.length = 5 := by
                rw [show (0 + 2 + n.length : Nat) = n.length + 1 + 1 by omega] at c1; exact c1
              rw [classF_at] at c1'
              cases u with
              | nil => simp [classF] at c1'
              | cons z u =>
                rw [classF_zero_cons, classI_right] at c1'
                subst c1'
                have c2' : classF (n ++ 62 :: u) (n.length + 1) = 1 ∨ classF (n ++ 62 :: u) (n.length + 1) = 6 := by
                  unfold endAt at c2
                  rw [show (0 + 2 + n.length + 1 : Nat) = (n.length + 1) + 1 + 1 by omega] at c2; exact c2
                rw [classF_at1, endAt_zero] at c2'
                exact ⟨n, u, by simp, ⟨hn, c3, c4⟩, by simp [textOf], c2', rfl, rfl, by simp [textOf]; omega⟩
            · cases h
        · rename_i h4
          obtain ⟨n, u, rfl, hn, hr, hu⟩ := run_split r
          have e1 : runF (60 :: (n ++ u)) (0 + 1) = n.length := hr
          rw [e1] at h
          split at h
          · rename_i hc
            obtain ⟨c1, c2, c3, c4⟩ := hc
            simp only [Option.some.injEq, Prod.mk.injEq] at h
            obtain ⟨rfl, rfl, rfl, rfl⟩ := h
            have c1' : classF (n ++ u) n.length = 5 := by
              rw [show (0 + 1 + n.length : Nat) = n.length + 1 by omega] at c1; exact c1
            rw [classF_at] at c1'
            cases u with
            | nil => simp [classF] at c1'
            | cons z u =>
              rw [classF_zero_cons, classI_right] at c1'
              subst c1'
              have c2' : classF (n ++ 62 :: u) (n.length + 1) = 1 ∨ classF (n ++ 62 :: u) (n.length + 1) = 6 := by
                unfold endAt at c2
                rw [show (0 + 1 + n.length + 1 : Nat) = (n.length + 1) + 1 by omega] at c2; exact c2
              rw [classF_at1, endAt_zero] at c2'
              exact ⟨n, u, by simp, ⟨hn, c3, c4⟩, by simp [textOf], c2', rfl, rfl, by simp [textOf]; omega⟩
          · cases h
      · split at h
        · rename_i hx
          obtain ⟨n, u, hr0, hn, hr, hu⟩ := run_split (x :: r)
          rw [hr, hr0] at h
          split at h
          · rename_i hc
            obtain ⟨c2, c3, c4⟩ := hc
            simp only [Option.some.injEq, Prod.mk.injEq] at h
            obtain ⟨rfl, rfl, rfl, rfl⟩ := h
            unfold endAt at c2
            rw [show (0 + n.length : Nat) = n.length by omega, classF_at, endAt_zero] at c2
            exact ⟨n, u, by simp, ⟨hn, c3, c4⟩, by rw [hr0]; simp [textOf], c2, rfl, by simp, by simp [textOf]⟩
          · cases h
        · cases h
  · rintro ⟨n, u, hk, hn, rfl, hu, rfl, rfl, rfl⟩
    obtain ⟨x, t, rfl, hx⟩ := okName_cons hn
    obtain ⟨hn1, hn2, hn3⟩ := hn
    have hend := endAt_zero.2 hu
    have hu' : u = [] ∨ ∃ c t, u = c :: t ∧ isL c = false := by
      rcases hu with rfl | ⟨t, rfl⟩
      · exact .inl rfl
      · exact .inr ⟨32, t, rfl, rfl⟩
    rcases hk with rfl | rfl | rfl
    · have e0 : textOf 1 (x :: t) ++ u = 60 :: ((x :: t) ++ 62 :: u) := by simp [textOf]
      rw [e0]
      unfold scanF
      rw [if_pos (show classF (60 :: ((x :: t) ++ 62 :: u)) 0 = 3 from rfl), if_neg (show ¬ classF (60 :: ((x :: t) ++ 62 :: u)) (0 + 1) = 4 by show ¬ classI x = 4; rw [classI_slash]; omega)]
      have er : runF (60 :: ((x :: t) ++ 62 :: u)) (0 + 1) = (x :: t).length := run_of (x :: t) (62 :: u) hn1 (.inr ⟨62, u, rfl, rfl⟩)
      rw [er]
      have c1 : classF (60 :: ((x :: t) ++ 62 :: u)) (0 + 1 + (x :: t).length) = 5 := by
        rw [show 0 + 1 + (x :: t).length = (x :: t).length + 1 by omega, classF_succ_cons, classF_at]; rfl
      have c2 : endAt (60 :: ((x :: t) ++ 62 :: u)) (0 + 1 + (x :: t).length + 1) := by
        unfold endAt
        rw [show 0 + 1 + (x :: t).length + 1 = ((x :: t).length + 1) + 1 by omega, classF_succ_cons, classF_at1]; exact hend
      rw [if_pos ⟨c1, c2, hn2, hn3⟩]
      simp [textOf]; omega
    · have e0 : textOf 2 (x :: t) ++ u = 60 :: 47 :: ((x :: t) ++ 62 :: u) := by simp [textOf]
      rw [e0]
      unfold scanF
      rw [if_pos (show classF (60 :: 47 :: ((x :: t) ++ 62 :: u)) 0 = 3 from rfl), if_pos (show classF (60 :: 47 :: ((x :: t) ++ 62 :: u)) (0 + 1) = 4 from rfl)]
      have er : runF (60 :: 47 :: ((x :: t) ++ 62 :: u)) (0 + 2) = (x :: t).length := run_of (x :: t) (62 :: u) hn1 (.inr ⟨62, u, rfl, rfl⟩)
      rw [er]
      have c1 : classF (60 :: 47 :: ((x :: t) ++ 62 :: u)) (0 + 2 + (x :: t).length) = 5 := by
        rw [show 0 + 2 + (x :: t).length = (x :: t).length + 1 + 1 by omega, classF_succ_cons, classF_succ_cons, classF_at]; rfl
      have c2 : endAt (60 :: 47 :: ((x :: t) ++ 62 :: u)) (0 + 2 + (x :: t).length + 1) := by
        unfold endAt
        rw [show 0 + 2 + (x :: t).length + 1 = ((x :: t).length + 1) + 1 + 1 by omega, classF_succ_cons, classF_succ_cons, classF_at1]; exact hend
      rw [if_pos ⟨c1, c2, hn2, hn3⟩]
      simp [textOf]; omega
    · have e0 : textOf 3 (x :: t) ++ u = (x :: t) ++ u := by simp [textOf]
      rw [e0]
      unfold scanF
      rw [if_neg (show ¬ classF ((x :: t) ++ u) 0 = 3 by show ¬ classI x = 3; rw [classI_left]; omega), if_pos (show classF ((x :: t) ++ u) 0 = 2 by show classI x = 2; rw [classI_letter]; exact hx)]
      have er : runF ((x :: t) ++ u) 0 = (x :: t).length := run_of (x :: t) u hn1 hu'
      rw [er]
      have c2 : endAt ((x :: t) ++ u) (0 + (x :: t).length) := by
        unfold endAt
        rw [show 0 + (x :: t).length = (x :: t).length by omega, classF_at]; exact hend
      rw [if_pos ⟨c2, hn2, hn3⟩]
      simp [textOf]

theorem scanF_shift (l : List Int) (i : Nat) : scanF l i = (scanF (l.drop i) 0).map fun x => (i + x.1, i + x.2.1, x.2.2.1, i + x.2.2.2) := by
  unfold scanF
  have c0 : classF l i = classF (l.drop i) 0 := classF_drop l i 0
  have cc : ∀ j, classF l (i + j) = classF (l.drop i) j := classF_drop l i
  have rr : ∀ j, runF l (i + j) = runF (l.drop i) j := runF_drop l i
  have r0 : runF l i = runF (l.drop i) 0 := runF_drop l i 0
  have ee : ∀ j, endAt l (i + j) = endAt (l.drop i) j := fun j => by unfold endAt; rw [cc]
  simp only [Nat.add_assoc, Nat.zero_add, cc, rr, r0, c0, ee]
  split
  · split
    · split <;> rfl
    · split <;> rfl
  · split
    · split <;> rfl
    · rfl

def pieceF (l : List Int) (i : Nat) : List Int := (l.drop i).takeWhile fun b => decide (b ≠ 32)

theorem textOf_no {k : Int} {n : List Int} (hn : n.all isL = true) : ∀ b ∈ textOf k n, b ≠ 32 := by
  have h1 : ∀ b ∈ n, b ≠ 32 := fun b hb => by have := isL_iff.1 (List.all_eq_true.1 hn b hb); omega
  intro b hb
  unfold textOf at hb
  split at hb
  · simp only [List.cons_append, List.mem_cons, List.mem_append, List.not_mem_nil, or_false] at hb
    rcases hb with rfl | hb | rfl
    · decide
    · exact h1 b hb
    · decide
  · split at hb
    · simp only [List.cons_append, List.mem_cons, List.mem_append, List.not_mem_nil, or_false] at hb
      rcases hb with rfl | rfl | hb | rfl
      · decide
      · decide
      · exact h1 b hb
      · decide
    · exact h1 b hb

theorem takeWhile_of {p u : List Int} (hp : ∀ b ∈ p, b ≠ 32) (hu : u = [] ∨ ∃ t, u = 32 :: t) : (p ++ u).takeWhile (fun b => decide (b ≠ 32)) = p := by
  induction p with
  | nil => rcases hu with rfl | ⟨t, rfl⟩ <;> simp
  | cons x p ih =>
    have hx := hp x (by simp)
    rw [List.cons_append, List.takeWhile_cons, if_pos (by simpa using hx), ih (fun b hb => hp b (by simp [hb]))]

theorem piece_split (r : List Int) : ∃ u, r = r.takeWhile (fun b => decide (b ≠ 32)) ++ u ∧ (u = [] ∨ ∃ t, u = 32 :: t) := by
  refine ⟨r.dropWhile (fun b => decide (b ≠ 32)), (List.takeWhile_append_dropWhile).symm, ?_⟩
  cases hd : r.dropWhile (fun b => decide (b ≠ 32)) with
  | nil => exact .inl rfl
  | cons c t =>
    refine .inr ⟨t, ?_⟩
    have := List.head?_dropWhile_not (fun b => decide (b ≠ 32)) r
    rw [hd] at this
    simp at this
    rw [this]

theorem scan_read (l : List Int) (i : Nat) : match scanF l i with
    | some (a, b, k, c) => readF (pieceF l i) = some ((l.drop a).take (b - a), k) ∧ c = i + (pieceF l i).length ∧ i ≤ a ∧ a ≤ b ∧ b ≤ c ∧ c ≤ l.length ∧ (k = 1 ∨ k = 2 ∨ k = 3)
    | none => readF (pieceF l i) = none := by
  rw [scanF_shift]
  cases hs : scanF (l.drop i) 0 with
  | none =>
    simp only [Option.map_none]
    cases hr : readF (pieceF l i) with
    | none => rfl
    | some nk =>
      obtain ⟨n, k⟩ := nk
      exfalso
      obtain ⟨hk, hn, hp⟩ := readF_iff.1 hr
      obtain ⟨u, hu1, hu2⟩ := piece_split (l.drop i)
      have : scanF (l.drop i) 0 = some (_, _, k, _) := (scanF_iff (l.drop i) _ _ k _).2 ⟨n, u, hk, hn, by rw [← hp]; exact hu1, hu2, rfl, rfl, rfl⟩
      rw [hs] at this; cases this
  | some x =>
    obtain ⟨a, b, k, c⟩ := x
    simp only [Option.map_some]
    obtain ⟨n, u, hk, hn, hr, hu, ha, hb, hc⟩ := (scanF_iff _ _ _ _ _).1 hs
    have hp : pieceF l i = textOf k n := by
      unfold pieceF
      rw [hr]
      exact takeWhile_of (textOf_no hn.1) hu
    have hlen : c ≤ (l.drop i).length := by rw [hr, List.length_append, hc]; omega
    rw [List.length_drop] at hlen
    have hn2 := hn.2.1
    refine ⟨?_, by rw [hp, hc], by omega, by omega, ?_, ?_, hk⟩
    · rw [hp, readF_textOf hk hn]
      have : (l.drop (i + a)).take (i + b - (i + a)) = n := by
        rw [← List.drop_drop, hr, show i + b - (i + a) = n.length by omega, ha]
        rcases hk with rfl | rfl | rfl <;> simp [textOf]
      rw [this]
    · rw [hb, hc, ha]
      rcases hk with rfl | rfl | rfl <;> (simp [textOf]; try omega)
    · have : c ≠ 0 := by
        rw [hc]
        rcases hk with rfl | rfl | rfl <;> (simp [textOf]; try (intro h; simp [h] at hn2))
      omega

/-! ### a word's text, read -/

/-- From place i on, behind the word w: the word, the place, the error. -/
def parseGo (ss : List (List Int × Int)) (l : List Int) : Nat → Nat → List Int → List Int × Int × Int
  | 0, _, w => (w, 0, 0)
  | n + 1, i, w =>
    match l[i]? with
    | none => (w, 0, 0)
    | some b =>
      if b = 32 then parseGo ss l n (i + 1) w
      else match readF (pieceF l i) with
        | none => ([], i, 1)
        | some x => match findGo x ss 0 with
          | none => ([], i, 6)
          | some j => parseGo ss l n (i + (pieceF l i).length) (w ++ [(j : Int)])

def parseF (ss : List (List Int × Int)) (l : List Int) : List Int × Int × Int :=
  if 2000 < l.length then ([], 0, 2) else parseGo ss l (l.length + 1) 0 []

theorem pieceF_pos {l : List Int} {i : Nat} {b : Int} (h : l[i]? = some b) (hb : b ≠ 32) : 0 < (pieceF l i).length ∧ i + (pieceF l i).length ≤ l.length := by
  have hlt := (List.getElem?_eq_some_iff.1 h).1
  unfold pieceF
  have e : l.drop i = b :: l.drop (i + 1) := by rw [List.drop_eq_getElem_cons hlt]; congr 1; exact (List.getElem?_eq_some_iff.1 h).2
  constructor
  · rw [e, List.takeWhile_cons, if_pos (by simpa using hb)]; simp
  · have := (List.takeWhile_sublist (fun b => decide (b ≠ 32)) (l := l.drop i)).length_le
    rw [List.length_drop] at this
    omega

/-- Any fuel will do. -/
theorem parseGo_fuel (ss : List (List Int × Int)) (l : List Int) : ∀ (n m i : Nat) (w : List Int), l.length < n + i → l.length < m + i → parseGo ss l n i w = parseGo ss l m i w := by
  intro n
  induction n with
  | zero =>
    intro m i w h1 h2
    cases m with
    | zero => rfl
    | succ m => simp only [parseGo]; rw [List.getElem?_eq_none (by omega)]
  | succ n ih =>
    intro m i w h1 h2
    cases m with
    | zero => simp only [parseGo]; rw [List.getElem?_eq_none (by omega)]
    | succ m =>
      simp only [parseGo]
      cases hb : l[i]? with
      | none => rfl
      | some b =>
        simp only
        split
        · exact ih m (i + 1) w (by omega) (by omega)
        · rename_i hne
          have := pieceF_pos hb hne
          split
          · rfl
          · split
            · rfl
            · exact ih m _ _ (by omega) (by omega)

def parseAt (ss : List (List Int × Int)) (l : List Int) (i : Nat) (w : List Int) : List Int × Int × Int := parseGo ss l (l.length + 1) i w

theorem parseAt_end {ss : List (List Int × Int)} {l : List Int} {i : Nat} {w : List Int} (h : l.length ≤ i) : parseAt ss l i w = (w, 0, 0) := by
  unfold parseAt
  simp only [parseGo]
  rw [List.getElem?_eq_none h]
theorem parseAt_blank {ss : List (List Int × Int)} {l : List Int} {i : Nat} {w : List Int} (h : l[i]? = some 32) : parseAt ss l i w = parseAt ss l (i + 1) w := by
  unfold parseAt
  have hlt := (List.getElem?_eq_some_iff.1 h).1
  rw [parseGo, h]
  simp only [if_true]
  exact parseGo_fuel ss l _ _ _ _ (by omega) (by omega)
theorem parseAt_piece {ss : List (List Int × Int)} {l : List Int} {i : Nat} {w : List Int} {b : Int} (h : l[i]? = some b) (hb : b ≠ 32) : parseAt ss l i w = match readF (pieceF l i) with
        | none => ([], i, 1)
        | some x => match findGo x ss 0 with
          | none => ([], i, 6)
          | some j => parseAt ss l (i + (pieceF l i).length) (w ++ [(j : Int)]) := by
  unfold parseAt
  have hlt := (List.getElem?_eq_some_iff.1 h).1
  have hp := pieceF_pos h hb
  rw [parseGo, h]
  simp only [hb, if_false]
  split
  · rfl
  · split
    · rfl
    · exact parseGo_fuel ss l _ _ _ _ (by omega) (by omega)

end Go.Proofs.Ytngekapiemkgnaa
