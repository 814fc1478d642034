/-
  Chapter 1: what a word's text is read as: the word, however many blanks stand between.
-/
import Derived.Test.YtngekapiemkgnaaWText1
import Derived.Test.YtngekapiemkgnaaInts1
namespace Go.Proofs.Ytngekapiemkgnaa
set_option linter.unusedSimpArgs false
set_option linter.unusedVariables false
open Go.Am Go.RowKit

/-- A text of blanks and symbols' texts, and the word that it is. -/
inductive Reads (ss : List (ByteArray × Int)) : List Int → List Int → Prop
  | nil : Reads ss [] []
  | blank {l w : List Int} : Reads ss l w → Reads ss (32 :: l) w
  | sym {l w : List Int} (j : Nat) : j < ss.length → (l = [] ∨ ∃ t, l = 32 :: t) → Reads ss l w → Reads ss (symT ss j ++ l) ((j : Int) :: w)

/-- Symbols as they should be: names, kinds, no two alike. -/
structure Good (ss : List (ByteArray × Int)) : Prop where
  ok : ∀ s ∈ ss, okName (bs s.1) ∧ (s.2 = 1 ∨ s.2 = 2 ∨ s.2 = 3)
  nodup : (kss ss).Nodup

theorem findGo_at : ∀ (l : List (List Int × Int)) (i j : Nat) (h : j < l.length), l.Nodup → findGo l[j] l i = some (i + j) := by
  intro l
  induction l with
  | nil => intro i j h; simp at h
  | cons y l ih =>
    intro i j h hn
    rw [List.nodup_cons] at hn
    cases j with
    | zero => simp [findGo]
    | succ j =>
      simp only [List.getElem_cons_succ, findGo]
      have hj : j < l.length := by simpa using h
      rw [if_neg (fun e => hn.1 (by rw [e]; exact List.getElem_mem hj)), ih (i + 1) j hj hn.2]
      congr 1; omega

theorem symT_nat {ss : List (ByteArray × Int)} {j : Nat} (h : j < ss.length) : symT ss j = textOf ss[j].2 (bs ss[j].1) := by
  have := symT_at (ss := ss) (i := j) (by omega) (by simpa using h)
  simpa using this

theorem Good.sym {ss : List (ByteArray × Int)} (hg : Good ss) {j : Nat} (h : j < ss.length) : (∃ b t, symT ss j = b :: t ∧ b ≠ 32) ∧ (∀ b ∈ symT ss j, b ≠ 32) ∧ readF (symT ss j) = some ((bs ss[j].1, ss[j].2)) ∧ findGo (bs ss[j].1, ss[j].2) (kss ss) 0 = some j := by
  have ho := hg.ok _ (List.getElem_mem h)
  rw [symT_nat h]
  have h2 : ∀ b ∈ textOf ss[j].2 (bs ss[j].1), b ≠ 32 := textOf_no ho.1.1
  refine ⟨?_, h2, readF_textOf ho.2 ho.1, ?_⟩
  · cases hc : textOf ss[j].2 (bs ss[j].1) with
    | nil =>
      exfalso
      have hl := ho.1.2.1
      have := congrArg List.length hc
      unfold textOf at this
      split at this
      · simp at this
      · split at this
        · simp at this
        · simp at this; rw [this] at hl; simp at hl
    | cons b t => exact ⟨b, t, rfl, h2 b (by rw [hc]; exact List.mem_cons_self)⟩
  · have hj : j < (kss ss).length := by simpa [kss] using h
    have := findGo_at (kss ss) 0 j hj hg.nodup
    simpa [kss] using this

theorem reads_at {ss : List (ByteArray × Int)} (hg : Good ss) {l w : List Int} (h : Reads ss l w) : ∀ (p acc : List Int), parseAt (kss ss) (p ++ l) p.length acc = (acc ++ w, 0, 0) := by
  induction h with
  | nil => intro p acc; rw [parseAt_end (by simp)]; simp
  | @blank l w _ ih =>
    intro p acc
    rw [parseAt_blank (by simp)]
    have := ih (p ++ [32]) acc
    simpa using this
  | @sym l w j hj hl _ ih =>
    intro p acc
    obtain ⟨⟨b, t, he, hb⟩, hno, hr, hf⟩ := hg.sym hj
    have hpiece : pieceF (p ++ (symT ss j ++ l)) p.length = symT ss j := by
      unfold pieceF
      rw [List.drop_left]
      exact takeWhile_of hno hl
    rw [parseAt_piece (b := b) (by rw [he]; simp) hb, hpiece, hr]
    simp only [hf]
    have := ih (p ++ symT ss j) (acc ++ [(j : Int)])
    rw [List.append_assoc, List.length_append] at this
    rw [this]
    simp

theorem reads_parse {ss : List (ByteArray × Int)} (hg : Good ss) {l w : List Int} (h : Reads ss l w) (hl : l.length ≤ 2000) : parseF (kss ss) l = (w, 0, 0) := by
  unfold parseF
  rw [if_neg (by omega)]
  have := reads_at hg h [] []
  simpa [parseAt] using this

theorem reads_wtext {ss : List (ByteArray × Int)} : ∀ (w : List Int), (∀ x ∈ w, 0 ≤ x ∧ x < ss.length) → Reads ss (wtextF ss w) w := by
  intro w
  induction w with
  | nil => intro _; exact .nil
  | cons x w ih =>
    intro h
    obtain ⟨h0, h1⟩ := h x List.mem_cons_self
    obtain ⟨j, rfl⟩ : ∃ j : Nat, x = j := ⟨x.toNat, by omega⟩
    have hr := ih (fun y hy => h y (List.mem_cons_of_mem _ hy))
    cases w with
    | nil =>
      have := Reads.sym (ss := ss) j (by omega) (.inl rfl) .nil
      simpa [wtextF, symT] using this
    | cons y w =>
      exact Reads.sym (ss := ss) j (by omega) (.inr ⟨_, rfl⟩) (.blank hr)

theorem reads_snoc {ss : List (ByteArray × Int)} {l w : List Int} (h : Reads ss l w) : Reads ss (l ++ [32]) w := by
  induction h with
  | nil => exact .blank .nil
  | blank _ ih => exact .blank ih
  | @sym l w j hj hl _ ih =>
    rw [List.append_assoc]
    refine .sym j hj ?_ ih
    rcases hl with rfl | ⟨t, rfl⟩
    · exact .inr ⟨[], rfl⟩
    · exact .inr ⟨t ++ [32], rfl⟩

/-- Blanks laid in behind blanks. -/
def spread (c : Nat → Bool) : Nat → List Int → List Int
  | _, [] => []
  | k, b :: l => (b :: if b = 32 ∧ c k = true then [32, 32] else []) ++ spread c (k + 1) l

theorem spread_snoc (c : Nat → Bool) (b : Int) : ∀ (l : List Int) (k : Nat), spread c k (l ++ [b]) = spread c k l ++ (b :: if b = 32 ∧ c (k + l.length) = true then [32, 32] else []) := by
  intro l
  induction l with
  | nil => intro k; simp [spread]
  | cons x l ih =>
    intro k
    simp only [List.cons_append, spread, ih, List.length_cons, List.append_assoc]
    rw [show k + 1 + l.length = k + (l.length + 1) by omega]

theorem spread_len (c : Nat → Bool) : ∀ (l : List Int) (k : Nat), (spread c k l).length ≤ 3 * l.length := by
  intro l
  induction l with
  | nil => intro k; simp [spread]
  | cons x l ih =>
    intro k
    have := ih (k + 1)
    simp only [spread, List.length_append, List.length_cons]
    split <;> simp <;> omega

theorem spread_no (c : Nat → Bool) : ∀ (p l : List Int) (k : Nat), (∀ b ∈ p, b ≠ 32) → spread c k (p ++ l) = p ++ spread c (k + p.length) l := by
  intro p
  induction p with
  | nil => intro l k _; simp
  | cons b p ih =>
    intro l k h
    simp only [List.cons_append, spread, ih l (k + 1) (fun x hx => h x (List.mem_cons_of_mem _ hx)), List.length_cons]
    rw [if_neg (fun hc => h b List.mem_cons_self hc.1), show k + 1 + p.length = k + (p.length + 1) by omega]
    rfl

theorem spread_reads {ss : List (ByteArray × Int)} (hg : Good ss) (c : Nat → Bool) {l w : List Int} (h : Reads ss l w) : ∀ k, Reads ss (spread c k l) w := by
  induction h with
  | nil => intro k; exact .nil
  | @blank l w _ ih =>
    intro k
    simp only [spread]
    split
    · exact .blank (.blank (.blank (ih (k + 1))))
    · exact .blank (ih (k + 1))
  | @sym l w j hj hl _ ih =>
    intro k
    rw [spread_no c _ _ _ (hg.sym hj).2.1]
    refine .sym j hj ?_ (ih _)
    rcases hl with rfl | ⟨t, rfl⟩
    · exact .inl rfl
    · exact .inr ⟨_, rfl⟩

theorem baseF_good : (∀ s ∈ baseF, okName (bs s.1) ∧ (s.2 = 1 ∨ s.2 = 2 ∨ s.2 = 3)) ∧ (kss baseF).Nodup := by
  constructor
  · decide
  · decide

theorem symsF_ok (n : Int) (ns : List Int) : Good (symsF n ns) ∧ ∀ s ∈ symsF n ns, (bs s.1).length = 1 := by
  have h1 : ∀ s ∈ baseF, (bs s.1).length = 1 := by decide
  have htake : ∀ m, Good (baseF.take m) ∧ ∀ s ∈ baseF.take m, (bs s.1).length = 1 := fun m =>
    ⟨⟨fun s hs => baseF_good.1 s (List.mem_of_mem_take hs), by unfold kss; rw [List.map_take]; exact List.Sublist.nodup (List.take_sublist _ _) baseF_good.2⟩, fun s hs => h1 s (List.mem_of_mem_take hs)⟩
  unfold symsF
  split
  · exact ⟨⟨by decide, by decide⟩, by decide⟩
  · split
    · split
      · refine ⟨⟨fun s hs => baseF_good.1 s (List.mem_of_mem_drop (List.mem_of_mem_take hs)), ?_⟩, fun s hs => h1 s (List.mem_of_mem_drop (List.mem_of_mem_take hs))⟩
        unfold kss
        rw [List.map_take, List.map_drop]
        exact List.Sublist.nodup ((List.take_sublist _ _).trans (List.drop_sublist _ _)) baseF_good.2
      · exact htake _
    · exact htake _

theorem wtextF_len {ss : List (ByteArray × Int)} (h1 : ∀ s ∈ ss, (bs s.1).length = 1) : ∀ (w : List Int), (∀ x ∈ w, 0 ≤ x ∧ x < ss.length) → (wtextF ss w).length ≤ 5 * w.length := by
  intro w
  induction w with
  | nil => intro _; simp [wtextF]
  | cons x w ih =>
    intro h
    obtain ⟨h0, h2⟩ := h x List.mem_cons_self
    obtain ⟨j, rfl⟩ : ∃ j : Nat, x = j := ⟨x.toNat, by omega⟩
    have hr := ih (fun y hy => h y (List.mem_cons_of_mem _ hy))
    have hs : (symT ss j).length ≤ 4 := by
      rw [symT_nat (by omega : j < ss.length)]
      have := textOf_len ss[j].2 (bs ss[j].1)
      have := h1 _ (List.getElem_mem (by omega : j < ss.length))
      omega
    cases w with
    | nil =>
      have e : wtextF ss [(j : Int)] = symT ss j := rfl
      rw [e]; simp; omega
    | cons y w =>
      have e : wtextF ss ((j : Int) :: y :: w) = symT ss j ++ 32 :: wtextF ss (y :: w) := rfl
      rw [e, List.length_append, List.length_cons, List.length_cons]
      omega

end Go.Proofs.Ytngekapiemkgnaa
