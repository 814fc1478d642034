import Derived.Test.YtdadkkmpnecpbaaQSM34
namespace Go.Am
set_option linter.unusedSimpArgs false
set_option linter.unusedVariables false
set_option linter.unnecessarySimpa false
theorem partedL_ref {c : List Int} {rows : List (List Int)} {p q : Nat} (hp : p < rows.length) (hq : q < rows.length) (h : (partedL c rows).getD p 0 = (partedL c rows).getD q 0) : partK c (rows.getD p []) p = partK c (rows.getD q []) q := by
  have hl := partedL_len c rows
  unfold partedL at h hl
  have e := (num_eq ((List.range rows.length).map fun p => partK c (rows.getD p []) p) (i := p) (j := q) (by simpa using hp) (by simpa using hq)).1 (by
    rw [List.getD_eq_getElem?_getD, List.getD_eq_getElem?_getD, List.getElem?_eq_getElem (by omega), List.getElem?_eq_getElem (by omega)] at h
    rw [List.getElem?_eq_getElem (by omega), List.getElem?_eq_getElem (by omega)]
    exact congrArg some h)
  simpa using e
theorem partedL_ref0 {c : List Int} {rows : List (List Int)} {p q : Nat} (hp : p < rows.length) (hq : q < rows.length) (h : (partedL c rows).getD p 0 = (partedL c rows).getD q 0) : c.getD p 0 = c.getD q 0 := by
  have := partedL_ref hp hq h
  unfold partK at this
  rw [List.cons_append, List.cons_append] at this
  exact (List.cons.inj this).1
theorem partK_row {c a b : List Int} {p q : Nat} (h : partK c a p = partK c b q) (hl : a.length = b.length) : (a.map fun q => c.getD q.toNat 0) = b.map fun q => c.getD q.toNat 0 := by
  unfold partK at h
  rw [List.cons_append, List.cons_append] at h
  exact (List.append_inj (List.cons.inj h).2 (by simp [hl])).1
theorem roundL_ref {p q n : Nat} (hp : p < n) (hq : q < n) : ∀ (ways : List (List (List Int))) (c : List Int), (∀ r ∈ ways, r.length = n) → (roundL ways c).getD p 0 = (roundL ways c).getD q 0 → c.getD p 0 = c.getD q 0
  | [], _, _, h => h
  | r :: ways, c, hw, h => by
    have hr := hw r (List.mem_cons_self ..)
    exact partedL_ref0 (by omega) (by omega) (roundL_ref hp hq ways (partedL c r) (fun r hr => hw r (List.mem_cons_of_mem _ hr)) h)
theorem settledL_ref {p q n : Nat} (hp : p < n) (hq : q < n) (ways : List (List (List Int))) (hw : ∀ r ∈ ways, r.length = n) : ∀ (f : Nat) (c : List Int), (settledL ways f c).getD p 0 = (settledL ways f c).getD q 0 → c.getD p 0 = c.getD q 0
  | 0, _, h => h
  | f + 1, c, h => by
    unfold settledL at h
    split at h
    · exact h
    · exact roundL_ref hp hq ways c hw (settledL_ref hp hq ways hw f _ h)
theorem round_each : ∀ (ways : List (List (List Int))) (c : List Int) (n : Nat), Can c → c.length = n → (∀ r ∈ ways, r.length = n) → roundL ways c = c → ∀ r ∈ ways, partedL c r = c
  | [], _, _, _, _, _, _, r, hr => by simp at hr
  | a :: ways, c, n, hc, hl, hw, h, r, hr => by
    have h1 := partedL_finer hc (rows := a) (by rw [hw a (List.mem_cons_self ..), hl])
    have h2 := roundL_finer ways (c := partedL c a) (n := n) (can_num _) (by rw [partedL_len, hw a (List.mem_cons_self ..)]) (fun r hr => hw r (List.mem_cons_of_mem _ hr))
    have e : roundL (a :: ways) c = roundL ways (partedL c a) := rfl
    rw [e] at h
    rw [h] at h2
    have q1 := h1.2 (by have := h1.1; have := h2.2.2.1; omega)
    rcases List.mem_cons.1 hr with rfl | hr
    · exact q1
    · rw [q1] at h
      exact round_each ways c n hc hl (fun r hr => hw r (List.mem_cons_of_mem _ hr)) h r hr
structure Cong (m : Mo) (c : Nat → Int) (p q : Nat) : Prop where
  of : m.of.getD p 0 = m.of.getD q 0
  fin : m.final.getD p false = m.final.getD q false
  inn : ∀ i : Nat, i < m.plains.toNat → c ((m.inn.getD p []).getD i 0).toNat = c ((m.inn.getD q []).getD i 0).toNat
  low : ∀ i : Nat, i < (m.low.getD p []).length → c ((m.low.getD p []).getD i 0).toNat = c ((m.low.getD q []).getD i 0).toNat
  above : m.of.getD p 0 ≠ 0 → ∀ j x : Nat, j < m.closings.toNat → x < m.of.length → c (((m.ret.getD p []).getD j []).getD x 0).toNat = c (((m.ret.getD q []).getD j []).getD x 0).toNat
  below : ∀ j x : Nat, j < m.closings.toNat → x < m.of.length → m.of.getD x 0 ≠ 0 → c (((m.ret.getD x []).getD j []).getD p 0).toNat = c (((m.ret.getD x []).getD j []).getD q 0).toNat
theorem map_at {c a b : List Int} {i : Nat} (h : (a.map fun q => c.getD q.toNat 0) = b.map fun q => c.getD q.toNat 0) (hi : i < a.length) : c.getD (a.getD i 0).toNat 0 = c.getD (b.getD i 0).toNat 0 := by
  have hl : a.length = b.length := by have := congrArg List.length h; simpa using this
  have := congrArg (fun l => l.getD i 0) h
  rwa [map_getD _ _ hi _ 0, map_getD _ _ (by omega) _ 0] at this
theorem classesOf_cong {m : Mo} (hm : ModOk m) {p q : Nat} (hp : p < m.of.length) (hq : q < m.of.length) (h : (classesOfF m).getD p 0 = (classesOfF m).getD q 0) : Cong m (fun x => (classesOfF m).getD x 0) p q := by
  obtain ⟨c1, c2, c3⟩ := classesOf_ok hm
  have hw := waysF_len hm
  have hr := round_each _ _ _ c1 c2 hw c3
  have h0 : (firstL m).getD p 0 = (firstL m).getD q 0 := settledL_ref hp hq _ hw _ _ h
  have hf : firstK m p = firstK m q := by
    have hl := firstL_len m
    unfold firstL at h0 hl
    have := (num_eq ((List.range m.of.length).map (firstK m)) (i := p) (j := q) (by simpa using hp) (by simpa using hq)).1 (by
      rw [List.getD_eq_getElem?_getD, List.getD_eq_getElem?_getD, List.getElem?_eq_getElem (by omega), List.getElem?_eq_getElem (by omega)] at h0
      rw [List.getElem?_eq_getElem (by omega), List.getElem?_eq_getElem (by omega)]
      exact congrArg some h0)
    simpa using this
  have hof : m.of.getD p 0 = m.of.getD q 0 := by unfold firstK at hf; exact (List.cons.inj hf).1
  have hfin : m.final.getD p false = m.final.getD q false := by
    unfold firstK at hf
    have := (List.cons.inj (List.cons.inj hf).2).1
    revert this
    cases m.final.getD p false <;> cases m.final.getD q false <;> simp
  generalize hc : classesOfF m = c at *
  have hrow : ∀ r ∈ waysF m, (r.getD p []).length = (r.getD q []).length → ((r.getD p []).map fun q => c.getD q.toNat 0) = (r.getD q []).map fun q => c.getD q.toNat 0 := by
    intro r hrm hl
    have e := hr r hrm
    exact partK_row (partedL_ref (c := c) (rows := r) (by rw [hw r hrm]; exact hp) (by rw [hw r hrm]; exact hq) (by rw [e]; exact h)) hl
  have hin : m.inn ∈ waysF m := by simp [waysF]
  have hlo : m.low ∈ waysF m := by simp [waysF]
  have hab : ∀ j, j < m.closings.toNat → aboveF m j ∈ waysF m := fun j hj => List.mem_append_right _ (List.mem_flatMap.2 ⟨j, List.mem_range.2 hj, List.mem_cons_self ..⟩)
  have hbe : ∀ j, j < m.closings.toNat → belowF m j ∈ waysF m := fun j hj => List.mem_append_right _ (List.mem_flatMap.2 ⟨j, List.mem_range.2 hj, List.mem_cons_of_mem _ (List.mem_cons_self ..)⟩)
  have hrg : ∀ {k : Nat}, k < m.of.length → (List.range m.of.length).getD k 0 = k := fun hk => by rw [List.getD_eq_getElem?_getD, List.getElem?_eq_getElem (by simpa using hk)]; simp
  refine ⟨hof, hfin, fun i hi => ?_, fun i hi => ?_, fun hz j x hj hx => ?_, fun j x hj hx hz => ?_⟩
  · have l1 := (hm.inn p hp).1
    have l2 := (hm.inn q hq).1
    exact map_at (hrow _ hin (by omega)) (by omega)
  · refine map_at (hrow _ hlo ?_) hi
    by_cases hz : m.of.getD p 0 = 0
    · have l1 := (hm.low0 p hp hz).1
      have l2 := (hm.low0 q hq (by omega)).1
      omega
    · rw [hm.low1 p hp hz, hm.low1 q hq (by omega)]
  · have hz' : m.of.getD q 0 ≠ 0 := by omega
    obtain ⟨l1, k1⟩ := hm.ret1 p hp hz
    obtain ⟨l2, k2⟩ := hm.ret1 q hq hz'
    have e1 : (aboveF m j).getD p [] = (m.ret.getD p []).getD j [] := by
      unfold aboveF; rw [map_getD _ _ (by simpa using hp) _ 0, hrg hp, if_neg hz]
    have e2 : (aboveF m j).getD q [] = (m.ret.getD q []).getD j [] := by
      unfold aboveF; rw [map_getD _ _ (by simpa using hq) _ 0, hrg hq, if_neg hz']
    have e := hrow _ (hab j hj) (by rw [e1, e2, (k1 j (by omega)).1, (k2 j (by omega)).1])
    rw [e1, e2] at e
    exact map_at e (by rw [(k1 j (by omega)).1]; exact hx)
  · have e1 : ∀ {k : Nat}, k < m.of.length → (belowF m j).getD k [] = ((List.range m.of.length).filter fun p => decide (m.of.getD p 0 ≠ 0)).map fun p => ((m.ret.getD p []).getD j []).getD k 0 := fun {k} hk => by
      unfold belowF; rw [map_getD _ _ (by simpa using hk) _ 0, hrg hk]
    have e := hrow _ (hbe j hj) (by rw [e1 hp, e1 hq]; simp)
    rw [e1 hp, e1 hq, List.map_map, List.map_map] at e
    have hmem : x ∈ (List.range m.of.length).filter fun p => decide (m.of.getD p 0 ≠ 0) := List.mem_filter.2 ⟨List.mem_range.2 hx, by simpa using hz⟩
    exact List.map_inj_left.1 e x hmem
theorem pickL_get {l places : List Int} {i : Nat} (h : i < places.length) : (pickL l places).getD i 0 = l.getD (places.getD i 0).toNat 0 := by
  unfold pickL; rw [map_getD _ _ h _ 0]
structure CongR (m : Mo) (p q : Nat) : Prop where
  of : m.of.getD p 0 = m.of.getD q 0
  fin : m.final.getD p false = m.final.getD q false
  inn : ∀ i : Nat, i < m.plains.toNat → (classesF m).getD ((m.inn.getD p []).getD i 0).toNat 0 = (classesF m).getD ((m.inn.getD q []).getD i 0).toNat 0
  low : ∀ i : Nat, i < (m.low.getD p []).length → (classesF m).getD ((m.low.getD p []).getD i 0).toNat 0 = (classesF m).getD ((m.low.getD q []).getD i 0).toNat 0
  above : m.of.getD p 0 ≠ 0 → ∀ j x : Nat, j < m.closings.toNat → (reachedF m).getD x false = true → (classesF m).getD (((m.ret.getD p []).getD j []).getD x 0).toNat 0 = (classesF m).getD (((m.ret.getD q []).getD j []).getD x 0).toNat 0
  below : ∀ j x : Nat, j < m.closings.toNat → (reachedF m).getD x false = true → m.of.getD x 0 ≠ 0 → (classesF m).getD (((m.ret.getD x []).getD j []).getD p 0).toNat 0 = (classesF m).getD (((m.ret.getD x []).getD j []).getD q 0).toNat 0
theorem ret_mem {m : Mo} {p j q : Nat} (hj : j < (m.ret.getD p []).length) : ((m.ret.getD p []).getD j []).getD q 0 ∈ colL (m.ret.getD p []) q := by
  unfold colL
  refine List.mem_map.2 ⟨_, ?_, rfl⟩
  rw [List.getD_eq_getElem?_getD (i := j), List.getElem?_eq_getElem hj]
  exact List.getElem_mem _
structure Sim (m : Mo) (s t : Int × List Int) : Prop where
  len : s.2.length = t.2.length
  left : ∀ i, i < s.2.length → (classesF m).getD (s.2.getD i 0).toNat 0 = (classesF m).getD (t.2.getD i 0).toNat 0
  at' : (classesF m).getD s.1.toNat 0 = (classesF m).getD t.1.toNat 0
theorem getD_take {l : List Int} {i k : Nat} (h : i < k) : (l.take k).getD i 0 = l.getD i 0 := by
  rw [List.getD_eq_getElem?_getD, List.getElem?_take, if_pos h, ← List.getD_eq_getElem?_getD]
end Go.Am
