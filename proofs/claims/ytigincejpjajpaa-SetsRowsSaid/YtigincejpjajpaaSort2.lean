/-
  Rows that the library's sort leaves: from its contract over worlds to one over trees.
-/
import Derived.Test.YtigincejpjajpaaAmZK
import Derived.Test.YtigincejpjajpaaAmW
import Derived.Shelf.SlSortCmp.WholeK
import Derived.Shelf.SlSortCmp.Whole1
namespace Go.Am
set_option linter.unusedSimpArgs false
set_option linter.unusedVariables false
open Go.RowKit Go.Proofs
open Go.Sort hiding Below

section
variable {P : Program} {W0 : World} {C : Corr} {nx : Nat} {H : Heap} {w : World}

/-- Numbers alone. -/
def IntV (v : Value) : Prop := ∃ k n, v = .int k n
theorem IntV.refl {v : Value} (h : IntV v) : VR nx H C v v := by obtain ⟨k, n, rfl⟩ := h; exact .int k n
theorem IntV.eq {v v' : Value} (h : IntV v) (hv : VR nx H C v v') : v' = v := by obtain ⟨k, n, rfl⟩ := h; cases hv; rfl

/-- What a row's object says of the world's cells. -/
theorem row_holds (hR : Rel W0 C nx H w) {b e : Nat} {t : Option Nat} {q : Option TypeId} {cs rest : List Value} (ho : H b = some (.cells (cs ++ rest) e t false q)) (hi : ∀ v ∈ cs, IntV v) : Holds id w (C.loc b).1 (C.loc b).2 cs.toArray := by
  obtain ⟨Cc, el, fr, h1, h2, h3, h4, h5⟩ := hR.obj _ _ ho
  intro j hj
  have hj' : j < cs.length := by simpa using hj
  have hlt : (C.loc b).2 + j < Cc.size := by simp at h3; omega
  have hv := h4 j (by simp; omega) hlt
  rw [List.getElem_append_left hj'] at hv
  have he := (hi _ (List.getElem_mem hj')).eq hv
  constructor
  · simp only [World.cell?, h1]
    rw [Array.getElem?_eq_getElem hlt, he]
    simp [hj']
  · have := h5.1 rfl ((C.loc b).2 + j) hlt
    simp only [World.frozen?, h1]
    simp only [Bool.and_eq_false_iff, decide_eq_false_iff_not]
    omega

theorem put_loc (C : Corr) (b : Nat) : C.put b (C.loc b) (C.siz b) = C := by
  unfold Corr.put
  cases C with
  | mk l s => congr 1 <;> (funext i; simp; intro h; rw [h])

/-- The world that holds the row anew, draws and new blocks behind: all is as the tree has it. -/
theorem row_put (hR : Rel W0 C nx H w) {b e : Nat} {t : Option Nat} {q : Option TypeId} {cs cs' rest : List Value} (ho : H b = some (.cells (cs ++ rest) e t false q)) (hl : cs'.length = cs.length) (hi : ∀ v ∈ cs', IntV v) (m : Nat) (os : Array Obj) :
    Rel W0 C nx (H.put b (.cells (cs' ++ rest) e t false q)) (grow (putRow id (Sort.ahead w m) (C.loc b).1 (C.loc b).2 cs'.toArray) os) ∧ Stp nx H C nx (H.put b (.cells (cs' ++ rest) e t false q)) C := by
  obtain ⟨Cc, el, fr, h1, h2, h3, h4, h5⟩ := hR.obj _ _ ho
  have hblk := (hR.obj _ _ ho).blk
  have hown := hR.own _ _ ho rfl
  have hsz : (putRow id (Sort.ahead w m) (C.loc b).1 (C.loc b).2 cs'.toArray).heap.size = w.heap.size := by simp [putRow, mapBlock, Sort.ahead]
  have hold : ∀ k, k < w.heap.size → (grow (putRow id (Sort.ahead w m) (C.loc b).1 (C.loc b).2 cs'.toArray) os).heap[k]? = (w.heap.modify (C.loc b).1 (onCells (putCells id (C.loc b).2 cs'.toArray)))[k]? := fun k hk => by
    rw [heap_grow_old _ _ (by rw [hsz]; exact hk)]
    rfl
  have hother : ∀ k, k < w.heap.size → k ≠ (C.loc b).1 → (grow (putRow id (Sort.ahead w m) (C.loc b).1 (C.loc b).2 cs'.toArray) os).heap[k]? = w.heap[k]? := fun k hk hne => by
    rw [hold k hk, Array.getElem?_modify]
    simp [Ne.symm hne]
  have hthis : (grow (putRow id (Sort.ahead w m) (C.loc b).1 (C.loc b).2 cs'.toArray) os).heap[(C.loc b).1]? = some (.cells (putCells id (C.loc b).2 cs'.toArray Cc) el fr) := by
    rw [hold _ hblk, Array.getElem?_modify]
    simp [h1, onCells]
  have hbel : Below W0.heap.size W0 (grow (putRow id (Sort.ahead w m) (C.loc b).1 (C.loc b).2 cs'.toArray) os) := hR.below.trans ⟨rfl, rfl, rfl, by simp [grow, putRow, mapBlock, Sort.ahead], fun k hk => hother k (by have := hR.below.size; omega) (by omega)⟩
  have key := hR.set (w' := grow (putRow id (Sort.ahead w m) (C.loc b).1 (C.loc b).2 cs'.toArray) os) b _ (.cells (cs' ++ rest) e t false q) (C.loc b) (C.siz b) ho rfl (Nat.le_refl _) (.inl ⟨rfl, rfl, rfl, rfl⟩) (.inl rfl) (fun _ => rfl) hbel hother ?_
  · rw [put_loc] at key
    exact key
  · rintro C' rfl hst
    rw [put_loc] at hst ⊢
    have hsz2 : (putCells id (C.loc b).2 cs'.toArray Cc).size = Cc.size := by simp [putCells]
    refine ⟨_, el, fr, hthis, by rw [hsz2, h2], ?_, ?_, ⟨fun _ => (by rw [hsz2]; exact h5.1 rfl), h5.2.1, fun _ ht => (by
      obtain ⟨q1, q2⟩ := h5.2.2.1 rfl ht
      refine ⟨q1, ?_⟩
      rw [hsz2, q2]; simp; omega), h5.2.2.2⟩⟩
    · rw [hsz2]; simp at h3 ⊢; omega
    · intro i hi1 hi2
      have hi3 : (C.loc b).2 + i < Cc.size := by rw [hsz2] at hi2; exact hi2
      have hget : (putCells id (C.loc b).2 cs'.toArray Cc)[(C.loc b).2 + i] = if i < cs'.length then cs'.toArray[i]! else Cc[(C.loc b).2 + i] := by
        simp only [putCells, Array.getElem_mapIdx, id]
        by_cases hc : i < cs'.length
        · rw [if_pos (by simp; omega), if_pos hc]; congr 1; omega
        · rw [if_neg (by simp; omega), if_neg hc]
      rw [hget]
      by_cases hc : i < cs'.length
      · rw [if_pos hc, List.getElem_append_left hc]
        have e1 : cs'.toArray[i]! = cs'[i] := by simp [hc]
        rw [e1]
        exact (hi _ (List.getElem_mem hc)).refl
      · rw [if_neg hc, List.getElem_append_right (by omega)]
        have := (h4 i (by simp at hi1 ⊢; omega) hi3).mono hst
        rw [List.getElem_append_right (by omega)] at this
        have e2 : rest[i - cs'.length]'(by simp at hi1; omega) = rest[i - cs.length]'(by simp at hi1; omega) := by congr 1; omega
        rw [e2]
        exact this

theorem flatK_list {α : Type} [Inhabited α] (enc : α → List Value) (k : Nat) (hk : ∀ x, (enc x).length = k) (l : List α) : (flatK enc k l.toArray).toList = l.flatMap enc := by
  apply List.ext_getElem?
  intro i
  have hlen : (l.flatMap enc).length = l.length * k := by
    induction l with
    | nil => simp
    | cons x l ih => simp only [List.flatMap_cons, List.length_append, hk, ih, List.length_cons, Nat.add_mul]; omega
  by_cases hi : i < l.length * k
  · have hk0 : 0 < k := by
      rcases Nat.eq_zero_or_pos k with h | h
      · subst h; simp at hi
      · exact h
    have hq : i / k < l.length := by rw [Nat.div_lt_iff_lt_mul hk0]; exact hi
    have e1 : (flatK enc k l.toArray).toList[i]? = some ((enc l[i / k])[i % k]!) := by
      rw [Array.getElem?_toList, Array.getElem?_eq_getElem (by simpa using hi)]
      simp [flatK, hq]
    rw [e1]
    have gen : ∀ (l : List α) (i : Nat), i < l.length * k → (h : i / k < l.length) → (l.flatMap enc)[i]? = some ((enc l[i / k])[i % k]!) := by
      intro l
      induction l with
      | nil => intro i hi; simp at hi
      | cons x l ih =>
        intro i hi h
        rw [List.flatMap_cons]
        by_cases hik : i < k
        · rw [List.getElem?_append_left (by rw [hk]; exact hik)]
          have e0 : i / k = 0 := Nat.div_eq_of_lt hik
          have e2 : i % k = i := Nat.mod_eq_of_lt hik
          simp only [e0, e2, List.getElem_cons_zero]
          rw [List.getElem?_eq_getElem (by rw [hk]; exact hik)]
          simp [hk, hik]
        · rw [List.getElem?_append_right (by rw [hk]; omega), hk]
          have hi' : i - k < l.length * k := by simp only [List.length_cons, Nat.add_mul] at hi; omega
          have ed : i / k = (i - k) / k + 1 := by
            rw [Nat.div_eq_sub_div hk0 (by omega)]
          have em : i % k = (i - k) % k := Nat.mod_eq_sub_mod (by omega)
          have hq' : (i - k) / k < l.length := by rw [Nat.div_lt_iff_lt_mul hk0]; exact hi'
          rw [ih (i - k) hi' hq']
          simp only [ed, em, List.getElem_cons_succ]
    exact (gen l i hi hq).symm
  · rw [List.getElem?_eq_none (by simp; omega), List.getElem?_eq_none (by rw [hlen]; omega)]

theorem perm_list {α : Type} [Inhabited α] {l l' : List α} (h : PermIn 0 l.length l.toArray l'.toArray) : l'.Perm l := by
  obtain ⟨h1, _, h2⟩ := h
  have e : l'.length = l.length := by simpa using h1
  have e1 : l'.toArray.extract 0 l.length = l'.toArray := by rw [← e]; simp
  have e2 : l.toArray.extract 0 l.length = l.toArray := by simp
  rw [e1, e2] at h2
  simpa using h2
theorem sorted_list {α : Type} [Inhabited α] {cf : α → α → Int} {l : List α} (h : SortedIn (ltOf cf) 0 l.length l.toArray) : l.Pairwise (fun x y => ¬ cf y x < 0) := by
  rw [List.pairwise_iff_getElem]
  intro i j hi hj hij
  have := h i j (Nat.zero_le _) hij hj
  simp [hi, hj, ltOf] at this
  omega

/-- The sort's contract over worlds, as one over trees: rows of aggregates of k numbers. -/
theorem sort_callsK {α : Type} [Inhabited α] {enc : α → List Value} {k : Nat} (hk : ∀ x, (enc x).length = k) (hi : ∀ x, ∀ v ∈ enc x, IntV v) {cf : α → α → Int} {f g : FuncId}
    (hs : ∀ (blk off cap : Nat) (d : Array α) (w : World), HoldsK enc k w blk off d → blk < w.heap.size → d.size < 4611686018427387904 → Calls P f #[.slice (some ⟨blk, off, none⟩) d.size cap, .func (.func g) #[] #[]] w fun e w' => e = .returned (.tuple #[]) ∧ ∃ d' n os, PermIn 0 d.size d d' ∧ SortedIn (ltOf cf) 0 d.size d' ∧ w' = sortWorldK enc k w blk off n d' os)
    {b t e : Nat} {q : Option TypeId} {l : List α} {rest : List Value} {c : Nat} (ho : H b = some (.cells (l.flatMap enc ++ rest) e (some t) false q)) (hl : l.length < 4611686018427387904) :
    ACalls P W0 f [.slice (some ⟨b, 0, some t⟩) l.length c, .func (.func g) #[] #[]] nx H fun v nx' H' => v = .tuple #[] ∧ nx' = nx ∧ ∃ l' : List α, l'.Perm l ∧ l'.Pairwise (fun x y => ¬ cf y x < 0) ∧ H' = H.put b (.cells (l'.flatMap enc ++ rest) e (some t) false q) := by
  intro C w args' hR ha
  have hI : ∀ l : List α, ∀ v ∈ l.flatMap enc, IntV v := fun l v hv => by
    obtain ⟨x, _, hx⟩ := List.mem_flatMap.1 hv
    exact hi x v hx
  have hlen : ∀ l : List α, (l.flatMap enc).length = l.length * k := fun l => by
    induction l with
    | nil => simp
    | cons x l ih => simp only [List.flatMap_cons, List.length_append, hk, ih, List.length_cons, Nat.add_mul]; omega
  obtain ⟨h1, h2⟩ := ha
  obtain ⟨v1, v2, rfl⟩ : ∃ v1 v2, args' = [v1, v2] := by
    match args', h1 with
    | [v1, v2], _ => exact ⟨v1, v2, rfl⟩
  have hv1 := h2 0 (by simp) (by simp)
  have hv2 := h2 1 (by simp) (by simp)
  simp only [List.getElem_cons_zero, List.getElem_cons_succ] at hv1 hv2
  obtain ⟨cap', rfl⟩ : ∃ cap', v1 = .slice (some ⟨(C.loc b).1, (C.loc b).2, none⟩) l.length cap' := by
    cases hv1 with
    | slc _ _ _ b' cap' k1 k2 =>
      obtain ⟨e1, _⟩ := k2 _ ho rfl
      exact ⟨cap', by rw [e1]; simp [Corr.at]⟩
  obtain rfl : v2 = .func (.func g) #[] #[] := by
    cases hv2 with
    | func _ _ a' _ b' ha hb _ _ =>
      have : a' = #[] := by apply Array.eq_empty_of_size_eq_zero; simpa using ha.symm
      have : b' = #[] := by apply Array.eq_empty_of_size_eq_zero; simpa using hb.symm
      subst_vars; rfl
  have hH : HoldsK enc k w (C.loc b).1 (C.loc b).2 l.toArray := by
    unfold HoldsK
    have := row_holds hR ho (hI l)
    rwa [← flatK_list enc k hk l, Array.toArray_toList] at this
  refine (hs (C.loc b).1 (C.loc b).2 cap' l.toArray w hH (hR.obj _ _ ho).blk (by simpa using hl)).mono ?_
  rintro e' w' ⟨rfl, d', n, os, hp, hso, rfl⟩
  obtain ⟨l', rfl⟩ : ∃ l' : List α, d' = l'.toArray := ⟨d'.toList, by simp⟩
  have hsize : l'.length = l.length := by have := hp.1; simpa using this
  have hput := row_put hR ho (cs' := l'.flatMap enc) (by rw [hlen, hlen, hsize]) (hI l') n os
  have hw : sortWorldK enc k w (C.loc b).1 (C.loc b).2 n l'.toArray os = grow (putRow id (Sort.ahead w n) (C.loc b).1 (C.loc b).2 (l'.flatMap enc).toArray) os := by
    unfold sortWorldK putRowK
    rw [← flatK_list enc k hk l', Array.toArray_toList]
  rw [hw]
  exact ⟨_, _, C, nx, _, rfl, ⟨rfl, rfl, l', perm_list (by simpa using hp), sorted_list (by rw [hsize]; simpa using hso), rfl⟩, hput.1, .tuple _ _ rfl (fun i h => absurd h (by simp)), hput.2⟩

theorem ACalls.weaken {f : FuncId} {args : List Value} {R R' : Value → Nat → Heap → Prop} (h : ACalls P W0 f args nx H R) (hq : ∀ v n G, R v n G → R' v n G) : ACalls P W0 f args nx H R' := fun C w args' hR ha => by
  refine (h C w args' hR ha).mono ?_
  rintro e w' ⟨v, v', C', nx', H', h1, h2, h3⟩
  exact ⟨v, v', C', nx', H', h1, hq _ _ _ h2, h3⟩

theorem holds_map {α : Type} [Inhabited α] {enc : α → Value} {blk off : Nat} {l : List α} (h : Holds id w blk off (l.map enc).toArray) : Holds enc w blk off l.toArray := by
  intro j hj
  have hj' : j < l.length := by simpa using hj
  have := h j (by simpa using hj)
  simpa [hj'] using this

theorem putRow_map {α : Type} [Inhabited α] (enc : α → Value) (w : World) (blk off : Nat) (l : List α) : putRow enc w blk off l.toArray = putRow id w blk off (l.map enc).toArray := by
  unfold putRow
  congr 1
  funext c
  unfold putCells
  congr 1
  funext k x
  by_cases h : off ≤ k ∧ k < off + l.length
  · rw [if_pos (by simpa using h), if_pos (by simpa using h)]
    have : k - off < l.length := by omega
    simp [this]
  · rw [if_neg (by simpa using h), if_neg (by simpa using h)]

/-- The sort's contract over worlds, as one over trees: rows of numbers. -/
theorem sort_calls1 {α : Type} [Inhabited α] {enc : α → Value} (hi : ∀ x, IntV (enc x)) {cf : α → α → Int} {f g : FuncId}
    (hs : ∀ (blk off cap : Nat) (d : Array α) (w : World), Holds enc w blk off d → blk < w.heap.size → d.size < 4611686018427387904 → Calls P f #[.slice (some ⟨blk, off, none⟩) d.size cap, .func (.func g) #[] #[]] w fun e w' => e = .returned (.tuple #[]) ∧ ∃ d' n os, PermIn 0 d.size d d' ∧ SortedIn (ltOf cf) 0 d.size d' ∧ w' = sortWorld enc w blk off n d' os)
    {b t e : Nat} {q : Option TypeId} {l : List α} {rest : List Value} {c : Nat} (ho : H b = some (.cells (l.map enc ++ rest) e (some t) false q)) (hl : l.length < 4611686018427387904) :
    ACalls P W0 f [.slice (some ⟨b, 0, some t⟩) l.length c, .func (.func g) #[] #[]] nx H fun v nx' H' => v = .tuple #[] ∧ nx' = nx ∧ ∃ l' : List α, l'.Perm l ∧ l'.Pairwise (fun x y => ¬ cf y x < 0) ∧ H' = H.put b (.cells (l'.map enc ++ rest) e (some t) false q) := by
  intro C w args' hR ha
  have hI : ∀ l : List α, ∀ v ∈ l.map enc, IntV v := fun l v hv => by
    obtain ⟨x, _, rfl⟩ := List.mem_map.1 hv
    exact hi x
  obtain ⟨h1, h2⟩ := ha
  obtain ⟨v1, v2, rfl⟩ : ∃ v1 v2, args' = [v1, v2] := by
    match args', h1 with
    | [v1, v2], _ => exact ⟨v1, v2, rfl⟩
  have hv1 := h2 0 (by simp) (by simp)
  have hv2 := h2 1 (by simp) (by simp)
  simp only [List.getElem_cons_zero, List.getElem_cons_succ] at hv1 hv2
  obtain ⟨cap', rfl⟩ : ∃ cap', v1 = .slice (some ⟨(C.loc b).1, (C.loc b).2, none⟩) l.length cap' := by
    cases hv1 with
    | slc _ _ _ b' cap' k1 k2 =>
      obtain ⟨e1, _⟩ := k2 _ ho rfl
      exact ⟨cap', by rw [e1]; simp [Corr.at]⟩
  obtain rfl : v2 = .func (.func g) #[] #[] := by
    cases hv2 with
    | func _ _ a' _ b' ha hb _ _ =>
      have : a' = #[] := by apply Array.eq_empty_of_size_eq_zero; simpa using ha.symm
      have : b' = #[] := by apply Array.eq_empty_of_size_eq_zero; simpa using hb.symm
      subst_vars; rfl
  have hH := holds_map (row_holds hR ho (hI l))
  refine (hs (C.loc b).1 (C.loc b).2 cap' l.toArray w hH (hR.obj _ _ ho).blk (by simpa using hl)).mono ?_
  rintro e' w' ⟨rfl, d', n, os, hp, hso, rfl⟩
  obtain ⟨l', rfl⟩ : ∃ l' : List α, d' = l'.toArray := ⟨d'.toList, by simp⟩
  have hsize : l'.length = l.length := by have := hp.1; simpa using this
  have hput := row_put hR ho (cs' := l'.map enc) (by simp [hsize]) (hI l') n os
  have hw : sortWorld enc w (C.loc b).1 (C.loc b).2 n l'.toArray os = grow (putRow id (Sort.ahead w n) (C.loc b).1 (C.loc b).2 (l'.map enc).toArray) os := by
    unfold sortWorld
    rw [putRow_map]
  rw [hw]
  exact ⟨_, _, C, nx, _, rfl, ⟨rfl, rfl, l', perm_list (by simpa using hp), sorted_list (by rw [hsize]; simpa using hso), rfl⟩, hput.1, .tuple _ _ rfl (fun i h => absurd h (by simp)), hput.2⟩

end
end Go.Am
