import Derived.Test.YtdadkkmpnecpbaaQSM50
namespace Go.Am
set_option linter.unusedSimpArgs false
set_option linter.unusedVariables false
set_option linter.unnecessarySimpa false
theorem findS_all {T : Int → Prop} (l : List Int) : ∀ s : List Bool × List Int, (∀ q ∈ s.2, T q) → (∀ p ∈ l, T p) → ∀ q ∈ (findS s l).2, T q := by
  induction l with
  | nil => intro s h _; exact h
  | cons a l ih =>
    intro s h hl
    refine ih (find1 s a) (fun q hq => ?_) fun p hp => hl p (List.mem_cons_of_mem _ hp)
    unfold find1 at hq
    split at hq
    · exact h q hq
    · rcases List.mem_append.1 hq with hq | hq
      · exact h q hq
      · rw [List.mem_singleton.1 hq]; exact hl a (List.mem_cons_self ..)
theorem retF_all {m : Mo} {T : Int → Prop} (hT : RClosed m T) {p : Int} (hp : T p ∧ 0 ≤ p ∧ p < (m.of.length : Int)) : ∀ (l : List Int) (s : List Bool × List Int), (∀ q ∈ s.2, T q) → (∀ q ∈ l, T q ∧ 0 ≤ q ∧ q < (m.of.length : Int)) → ∀ q ∈ (l.foldl (retIn m p) s).2, T q
  | [], _, h, _ => h
  | a :: l, s, h, hl => by
    have ha := hl a (List.mem_cons_self ..)
    refine retF_all hT hp l _ ?_ fun q hq => hl q (List.mem_cons_of_mem _ hq)
    refine findS_all _ _ (findS_all _ _ h (hT.ret p a hp.1 ha.1 ha.2.1 ha.2.2)) (hT.ret a p ha.1 hp.1 hp.2.1 hp.2.2)
theorem reachGo_all {m : Mo} (hm : MoSt m) {T : Int → Prop} (hT : RClosed m T) : ∀ (f i : Nat) (s : List Bool × List Int), SOk m.of.length s → (∀ q ∈ s.2, T q) → ∀ q ∈ (reachGo m f i s).2, T q
  | 0, _, _, _, h => h
  | f + 1, i, s, hs, h => by
    unfold reachGo
    split
    · rename_i hi
      refine reachGo_all hm hT f _ _ (reachStep_ok hm hs hi) ?_
      have hmem := getD_memI hi
      have hp := hs.lt hmem
      have h1 := stepIn_ok hm (p := s.2.getD i 0) hs
      have a1 : ∀ q ∈ (stepIn m (s.2.getD i 0) s).2, T q := findS_all _ _ (findS_all _ _ h (hT.inn _ (h _ hmem))) (hT.low _ (h _ hmem))
      exact retF_all hT ⟨h _ hmem, hp⟩ _ _ a1 fun q hq => ⟨a1 q (List.mem_of_mem_take hq), h1.lt (List.mem_of_mem_take hq)⟩
    · exact h
theorem reached_least {m : Mo} (hm : MoSt m) {T : Int → Prop} (hT : RClosed m T) {p : Nat} (h : (reachedF m).getD p false = true) : T p := by
  have := reachGo_all hm hT (m.of.length + 1) 0 _ (start_ok hm) (findS_all _ _ (by simp) hT.entry)
  exact this p (((reachS_ok hm).mem p).2 ⟨by omega, by rw [Int.toNat_natCast]; exact h⟩)
theorem partedL_eq {c : List Int} {rows : List (List Int)} {p q : Nat} (hp : p < rows.length) (hq : q < rows.length) (h : partK c (rows.getD p []) p = partK c (rows.getD q []) q) : (partedL c rows).getD p 0 = (partedL c rows).getD q 0 := by
  have e := (num_eq ((List.range rows.length).map fun p => partK c (rows.getD p []) p) (i := p) (j := q) (by simpa using hp) (by simpa using hq)).2 (by simpa using h)
  unfold partedL
  rw [List.getD_eq_getElem?_getD, List.getD_eq_getElem?_getD, e]
def Coarse (d : Nat → Int) (n : Nat) (c : List Int) : Prop := ∀ p q, p < n → q < n → d p = d q → c.getD p 0 = c.getD q 0
def RowsD (d : Nat → Int) (n : Nat) (r : List (List Int)) : Prop := r.length = n ∧ ∀ p q, p < n → q < n → d p = d q → (r.getD p []).length = (r.getD q []).length ∧ ∀ i, i < (r.getD p []).length → ((r.getD p []).getD i 0).toNat < n ∧ ((r.getD q []).getD i 0).toNat < n ∧ d ((r.getD p []).getD i 0).toNat = d ((r.getD q []).getD i 0).toNat
theorem parted_coarse {d : Nat → Int} {n : Nat} {c : List Int} {r : List (List Int)} (hc : Coarse d n c) (hr : RowsD d n r) : Coarse d n (partedL c r) := by
  intro p q hp hq h
  obtain ⟨h1, h2⟩ := hr.2 p q hp hq h
  refine partedL_eq (by rw [hr.1]; exact hp) (by rw [hr.1]; exact hq) ?_
  unfold partK
  rw [hc p q hp hq h, h1]
  have : ((r.getD p []).map fun q => c.getD q.toNat 0) = (r.getD q []).map fun q => c.getD q.toNat 0 := by
    refine List.ext_getElem (by rw [List.length_map, List.length_map, h1]) fun i i1 i2 => ?_
    simp only [List.length_map] at i1 i2
    obtain ⟨q1, q2, q3⟩ := h2 i i1
    rw [List.getElem_map, List.getElem_map]
    have := hc _ _ q1 q2 q3
    rw [List.getD_eq_getElem?_getD (l := r.getD p []), List.getElem?_eq_getElem i1, List.getD_eq_getElem?_getD (l := r.getD q []), List.getElem?_eq_getElem i2] at this
    exact this
  rw [this]
theorem round_coarse {d : Nat → Int} {n : Nat} : ∀ (ways : List (List (List Int))) (c : List Int), Coarse d n c → (∀ r ∈ ways, RowsD d n r) → Coarse d n (roundL ways c)
  | [], _, h, _ => h
  | r :: ways, c, h, hw => round_coarse ways (partedL c r) (parted_coarse h (hw r (List.mem_cons_self ..))) fun r hr => hw r (List.mem_cons_of_mem _ hr)
theorem settled_coarse {d : Nat → Int} {n : Nat} (ways : List (List (List Int))) (hw : ∀ r ∈ ways, RowsD d n r) : ∀ (f : Nat) (c : List Int), Coarse d n c → Coarse d n (settledL ways f c)
  | 0, _, h => h
  | f + 1, c, h => by
    unfold settledL
    split
    · exact h
    · exact settled_coarse ways hw f _ (round_coarse ways c h hw)
theorem classesOf_coarse {m : Mo} (hm : ModOk m) {d : Nat → Int} (hd : ∀ p q, p < m.of.length → q < m.of.length → d p = d q → Cong m d p q) : Coarse d m.of.length (classesOfF m) := by
  have hst := hm.st
  have hrg : ∀ {k : Nat}, k < m.of.length → (List.range m.of.length).getD k 0 = k := fun hk => by rw [List.getD_eq_getElem?_getD, List.getElem?_eq_getElem (by simpa using hk)]; simp
  unfold classesOfF
  refine settled_coarse _ ?_ _ _ ?_
  · intro r hr
    refine ⟨waysF_len hm r hr, fun p q hp hq h => ?_⟩
    have hc := hd p q hp hq h
    unfold waysF at hr
    rcases List.mem_append.1 hr with hr | hr
    · simp only [List.mem_cons, List.not_mem_nil, or_false] at hr
      rcases hr with rfl | rfl
      · have l1 := (hm.inn p hp).1
        have l2 := (hm.inn q hq).1
        refine ⟨by omega, fun i hi => ⟨?_, ?_, hc.inn i (by omega)⟩⟩
        · have := hst.inn p _ (getD_memI hi); omega
        · have := hst.inn q _ (getD_memI (l := m.inn.getD q []) (i := i) (by omega)); omega
      · have hl : (m.low.getD p []).length = (m.low.getD q []).length := by
          by_cases hz : m.of.getD p 0 = 0
          · have l1 := (hm.low0 p hp hz).1
            have l2 := (hm.low0 q hq (by rw [← hc.of]; exact hz)).1
            omega
          · rw [hm.low1 p hp hz, hm.low1 q hq (by rw [← hc.of]; exact hz)]
        refine ⟨hl, fun i hi => ⟨?_, ?_, hc.low i hi⟩⟩
        · have := hst.low p _ (getD_memI hi); omega
        · have := hst.low q _ (getD_memI (l := m.low.getD q []) (i := i) (by omega)); omega
    · obtain ⟨j, hj, hr⟩ := List.mem_flatMap.1 hr
      rw [List.mem_range] at hj
      simp only [List.mem_cons, List.not_mem_nil, or_false] at hr
      rcases hr with rfl | rfl
      · unfold aboveF
        rw [map_getD _ _ (by simpa using hp) _ 0, map_getD _ _ (by simpa using hq) _ 0, hrg hp, hrg hq, ← hc.of]
        by_cases hz : m.of.getD p 0 = 0
        · rw [if_pos hz, if_pos hz]
          exact ⟨rfl, fun i hi => by simp at hi⟩
        · rw [if_neg hz, if_neg hz]
          obtain ⟨l1, k1⟩ := hm.ret1 p hp hz
          obtain ⟨l2, k2⟩ := hm.ret1 q hq (by rw [← hc.of]; exact hz)
          obtain ⟨a1, b1⟩ := k1 j (by omega)
          obtain ⟨a2, b2⟩ := k2 j (by omega)
          refine ⟨by omega, fun i hi => ⟨?_, ?_, hc.above hz j i hj (by omega)⟩⟩
          · have := (b1 i (by omega)).1; omega
          · have := (b2 i (by omega)).1; omega
      · unfold belowF
        rw [map_getD _ _ (by simpa using hp) _ 0, map_getD _ _ (by simpa using hq) _ 0, hrg hp, hrg hq]
        refine ⟨by simp, fun i hi => ?_⟩
        rw [List.length_map] at hi
        rw [map_getD _ _ hi _ 0, map_getD _ _ hi _ 0]
        have hmem : ((List.range m.of.length).filter fun p => decide (m.of.getD p 0 ≠ 0)).getD i 0 ∈ (List.range m.of.length).filter fun p => decide (m.of.getD p 0 ≠ 0) := by
          rw [List.getD_eq_getElem?_getD, List.getElem?_eq_getElem hi]; exact List.getElem_mem _
        generalize ((List.range m.of.length).filter fun p => decide (m.of.getD p 0 ≠ 0)).getD i 0 = x at *
        obtain ⟨hx, hz⟩ := List.mem_filter.1 hmem
        rw [List.mem_range] at hx
        have hz : m.of.getD x 0 ≠ 0 := by simpa using hz
        obtain ⟨l1, k1⟩ := hm.ret1 x hx hz
        obtain ⟨a1, b1⟩ := k1 j (by omega)
        refine ⟨?_, ?_, hc.below j x hj hx hz⟩
        · have := (b1 p hp).1; omega
        · have := (b1 q hq).1; omega
  · intro p q hp hq h
    have hc := hd p q hp hq h
    have e := (num_eq ((List.range m.of.length).map (firstK m)) (i := p) (j := q) (by simpa using hp) (by simpa using hq)).2 (by
      simp only [List.getElem_map, List.getElem_range]
      unfold firstK
      rw [hc.of, hc.fin])
    unfold firstL
    rw [List.getD_eq_getElem?_getD, List.getD_eq_getElem?_getD, e]
theorem can_take {c : List Int} (h : Can c) : ∀ k, Can (c.take k) := by
  intro k
  have : ∀ (r l : List Int), numL (l ++ r.reverse) = l ++ r.reverse → numL l = l := by
    intro r l
    induction r with
    | nil => intro h; simpa using h
    | cons a r ih =>
      intro h
      rw [List.reverse_cons, ← List.append_assoc] at h
      unfold numL at h
      rw [numQ_snoc] at h
      simp only [num1] at h
      exact ih (List.append_inj_left' h rfl)
  exact this (c.drop k).reverse (c.take k) (by rw [List.reverse_reverse, List.take_append_drop]; exact h)
theorem leastL_can {c : List Int} (h : Can c) : ∀ i, i ≤ c.length → (leastL c i).length = numD (c.take i)
  | 0, _ => by simp [leastL, numD, numQ]
  | i + 1, hi => by
    have ih := leastL_can h i (by omega)
    have h1 := can_take h (i + 1)
    have hlt : i < c.length := by omega
    rw [List.take_succ_eq_append_getElem hlt] at h1 ⊢
    have e : c.getD i 0 = c[i] := by rw [List.getD_eq_getElem?_getD, List.getElem?_eq_getElem hlt]; rfl
    unfold Can numL at h1
    rw [numQ_snoc] at h1
    simp only [num1] at h1
    have h2 := (List.append_inj_right' h1 rfl)
    have h2 : ((numQ (c.take i)).1.idxOf c[i] : Int) = c[i] := by simpa using h2
    unfold leastL
    unfold numD at ih ⊢
    rw [numQ_snoc, e, ih]
    simp only [num1]
    by_cases hm : c[i] ∈ (numQ (c.take i)).1
    · have := List.idxOf_lt_length_of_mem hm
      rw [if_pos hm, if_neg (by omega), ih]
    · have := List.idxOf_eq_length hm
      rw [if_neg hm, if_pos (by omega), List.length_append, List.length_append, ih]
      rfl
theorem leasts_can {c : List Int} (h : Can c) : (leastsL c).length = numD c := by
  unfold leastsL
  rw [leastL_can h _ (Nat.le_refl _), List.take_length]
theorem classes_ok {m : Mo} (hm : ModOk m) : ClsOk m (classesOfF m) := by
  obtain ⟨c1, c2, c3⟩ := classesOf_ok hm
  have hst := hm.st
  have hp : ∀ {x : Int}, 0 ≤ x ∧ x < (m.of.length : Int) → 0 ≤ (classesOfF m).getD x.toNat 0 := fun h => (can_pos c1 (by omega)).1
  exact ⟨c2, fun p h => hp (hst.entry p h), fun p _ _ x hx => hp (hst.inn p x hx), fun p _ _ x hx => hp (hst.low p x hx), fun p q _ hq _ _ x hx => hp (hst.ret p q hq x hx), fun p q h1 h2 _ e => (classesOf_cong hm h1 h2 e).of, fun p h _ => by rw [leasts_can c1]; exact (can_pos c1 (by omega)).2⟩
theorem small_ok {m : Mo} (hm : ModOk m) : ModOk (smallF m) := merged_ok (bare_ok hm) (classes_ok (bare_ok hm))
theorem small_len {m : Mo} (hm : ModOk m) : (smallF m).of.length ≤ m.of.length ∧ (smallF m).entry.length = m.entry.length := by
  have h1 : (smallF m).of.length = (leastsL (classesOfF (bareF m))).length := by simp [smallF, mergedF]
  have h2 : (bareF m).of.length = (leastsL (rankL (reachedF m))).length := by simp [bareF, mergedF]
  have h3 := leastL_len (classesOfF (bareF m)) (classesOfF (bareF m)).length
  have h4 := leastL_len (rankL (reachedF m)) (rankL (reachedF m)).length
  have h5 := (classesOf_ok (bare_ok hm)).2.1
  have h6 := (rank_ok hm).len
  refine ⟨by unfold leastsL at h1 h2; omega, by simp [smallF, bareF, mergedF, pickL_len]⟩
structure CongS (m : Mo) (cls : List Int) (p q : Nat) : Prop where
  of : m.of.getD p 0 = m.of.getD q 0
  fin : m.final.getD p false = m.final.getD q false
  inn : ∀ i : Nat, i < m.plains.toNat → cls.getD ((m.inn.getD p []).getD i 0).toNat 0 = cls.getD ((m.inn.getD q []).getD i 0).toNat 0
  low : ∀ i : Nat, i < (m.low.getD p []).length → cls.getD ((m.low.getD p []).getD i 0).toNat 0 = cls.getD ((m.low.getD q []).getD i 0).toNat 0
  above : m.of.getD p 0 ≠ 0 → ∀ j x : Nat, j < m.closings.toNat → x < m.of.length → 0 ≤ cls.getD x 0 → cls.getD (((m.ret.getD p []).getD j []).getD x 0).toNat 0 = cls.getD (((m.ret.getD q []).getD j []).getD x 0).toNat 0
  below : ∀ j x : Nat, j < m.closings.toNat → x < m.of.length → 0 ≤ cls.getD x 0 → m.of.getD x 0 ≠ 0 → cls.getD (((m.ret.getD x []).getD j []).getD p 0).toNat 0 = cls.getD (((m.ret.getD x []).getD j []).getD q 0).toNat 0
def AllCong (m : Mo) (cls : List Int) : Prop := ∀ p q : Nat, p < m.of.length → q < m.of.length → 0 ≤ cls.getD p 0 → cls.getD p 0 = cls.getD q 0 → CongS m cls p q
theorem rank_cong {m : Mo} (hm : ModOk m) : AllCong m (rankL (reachedF m)) := by
  intro p q hp hq h0 h
  have hl := reachedF_len hm.st
  have r1 := (rank_pos (is := reachedF m) (p := p) (by omega)).1 h0
  have r2 := (rank_pos (is := reachedF m) (p := q) (by omega)).1 (h ▸ h0)
  rw [rankL_get (by omega), rankL_get (by omega), r1, r2] at h
  simp only [if_true] at h
  have e := rank_inj (by omega) (by omega) r1 r2 (by omega)
  subst e
  exact ⟨rfl, rfl, fun _ _ => rfl, fun _ _ => rfl, fun _ _ _ _ _ _ => rfl, fun _ _ _ _ _ _ => rfl⟩
theorem classes_cong {m : Mo} (hm : ModOk m) : AllCong m (classesOfF m) := fun p q hp hq _ h => by
  have hc := classesOf_cong hm hp hq h
  exact ⟨hc.of, hc.fin, hc.inn, hc.low, fun hz j x hj hx _ => hc.above hz j x hj hx, fun j x hj hx _ hz => hc.below j x hj hx hz⟩
structure Quot1 (m : Mo) (cls : List Int) (p : Nat) : Prop where
  lt : (cls.getD p 0).toNat < (mergedF m cls).of.length
  of : (mergedF m cls).of.getD (cls.getD p 0).toNat 0 = m.of.getD p 0
  fin : (mergedF m cls).final.getD (cls.getD p 0).toNat false = m.final.getD p false
  inl : ((mergedF m cls).inn.getD (cls.getD p 0).toNat []).length = (m.inn.getD p []).length
  inn : ∀ i : Nat, i < m.plains.toNat → ((mergedF m cls).inn.getD (cls.getD p 0).toNat []).getD i 0 = cls.getD ((m.inn.getD p []).getD i 0).toNat 0
  lol : ((mergedF m cls).low.getD (cls.getD p 0).toNat []).length = (m.low.getD p []).length
  low : ∀ i : Nat, i < (m.low.getD p []).length → ((mergedF m cls).low.getD (cls.getD p 0).toNat []).getD i 0 = cls.getD ((m.low.getD p []).getD i 0).toNat 0
  ret : m.of.getD p 0 ≠ 0 → ∀ j q : Nat, j < m.closings.toNat → q < m.of.length → 0 ≤ cls.getD q 0 → (((mergedF m cls).ret.getD (cls.getD p 0).toNat []).getD j []).getD (cls.getD q 0).toNat 0 = cls.getD (((m.ret.getD p []).getD j []).getD q 0).toNat 0
theorem quot {m : Mo} {cls : List Int} (hm : ModOk m) (hc : ClsOk m cls) (hg : AllCong m cls) {p : Nat} (hp : p < m.of.length) (h0 : 0 ≤ cls.getD p 0) : Quot1 m cls p := by
  have hn := hc.num p hp h0
  have hj : (cls.getD p 0).toNat < (leastsL cls).length := by omega
  obtain ⟨x1, x2, x3⟩ := hc.least hj
  have hx : cls.getD ((leastsL cls).getD (cls.getD p 0).toNat 0).toNat 0 = cls.getD p 0 := by rw [x3]; omega
  have hg1 := hg _ _ x1 hp (by omega) hx
  have hlow : (m.low.getD ((leastsL cls).getD (cls.getD p 0).toNat 0).toNat []).length = (m.low.getD p []).length := by
    by_cases hz : m.of.getD p 0 = 0
    · have := (hm.low0 p hp hz).1
      have := (hm.low0 _ x1 (by rw [hg1.of]; exact hz)).1
      omega
    · rw [hm.low1 p hp hz, hm.low1 _ x1 (by rw [hg1.of]; exact hz)]
  have l1 := (hm.inn p hp).1
  have l2 := (hm.inn _ x1).1
  refine ⟨by simpa [mergedF] using hj, ?_, ?_, ?_, fun i hi => ?_, ?_, fun i hi => ?_, fun hz j q hj2 hq hq0 => ?_⟩
  all_goals simp only [mergedF]
  · rw [map_getD _ _ hj _ 0, hg1.of]
  · rw [map_getD _ _ hj _ 0, hg1.fin]
  · rw [map_getD _ _ hj _ 0, pickL_len]; omega
  · rw [map_getD _ _ hj _ 0, pickL_get (by omega), hg1.inn i hi]
  · rw [map_getD _ _ hj _ 0, pickL_len]; exact hlow
  · rw [map_getD _ _ hj _ 0, pickL_get (by omega), hg1.low i (by omega)]
  · have hz1 : m.of.getD ((leastsL cls).getD (cls.getD p 0).toNat 0).toNat 0 ≠ 0 := by rw [hg1.of]; exact hz
    obtain ⟨r1, r2⟩ := hm.ret1 _ x1 hz1
    have hn2 := hc.num q hq hq0
    have hk : (cls.getD q 0).toNat < (leastsL cls).length := by omega
    obtain ⟨y1, y2, y3⟩ := hc.least hk
    have hy : cls.getD ((leastsL cls).getD (cls.getD q 0).toNat 0).toNat 0 = cls.getD q 0 := by rw [y3]; omega
    have hg2 := hg _ _ y1 hq (by omega) hy
    rw [map_getD _ _ hj _ 0, map_getD _ _ (by omega) _ [], pickL_get (by rw [pickL_len]; exact hk), pickL_get hk]
    rw [hg1.above hz1 j _ hj2 y1 (by omega)]
    exact hg2.below j p hj2 hp h0 hz
structure SimQ (cls : List Int) (s t : Int × List Int) : Prop where
  len : s.2.length = t.2.length
  left : ∀ i, i < s.2.length → t.2.getD i 0 = cls.getD (s.2.getD i 0).toNat 0
  at' : t.1 = cls.getD s.1.toNat 0
def Sup (m : Mo) (cls : List Int) (x : Int) : Prop := 0 ≤ x ∧ x < (m.of.length : Int) ∧ 0 ≤ cls.getD x.toNat 0
theorem sup_closed {m : Mo} {cls : List Int} (hm : ModOk m) (hc : ClsOk m cls) : RClosed m (Sup m cls) := by
  have hst := hm.st
  refine ⟨fun p hp => ⟨(hst.entry p hp).1, (hst.entry p hp).2, hc.ent p hp⟩, fun p h x hx => ⟨(hst.inn _ x hx).1, (hst.inn _ x hx).2, hc.inn p.toNat (by have := h.2.1; have := h.1; omega) h.2.2 x hx⟩, fun p h x hx => ⟨(hst.low _ x hx).1, (hst.low _ x hx).2, hc.low p.toNat (by have := h.2.1; have := h.1; omega) h.2.2 x hx⟩, fun p q h1 h2 h3 h4 x hx => ?_⟩
  have a1 := h1.1; have a2 := h1.2.1
  have := hst.ret p.toNat q.toNat (by omega) x hx
  exact ⟨this.1, this.2, hc.ret p.toNat q.toNat (by omega) (by omega) h1.2.2 h2.2.2 x hx⟩
theorem quot_step {m : Mo} {cls : List Int} (hm : ModOk m) (hc : ClsOk m cls) (hg : AllCong m cls) {s t : Int × List Int} (hs : RGood m (Sup m cls) s) (h : SimQ cls s t) (x : Int × Int) : (stepF m s x = none ∧ stepF (mergedF m cls) t x = none) ∨ ∃ s' t', stepF m s x = some s' ∧ stepF (mergedF m cls) t x = some t' ∧ SimQ cls s' t' := by
  obtain ⟨⟨a0, a1⟩, ar, ab⟩ := hs.at
  have hq := quot hm hc hg (p := s.1.toNat) (by omega) ar.2.2
  have hen : (mergedF m cls).entry = pickL cls m.entry := rfl
  have hpl : (mergedF m cls).plains = m.plains := rfl
  have hcl : (mergedF m cls).closings = m.closings := rfl
  unfold stepF
  rw [hen, hpl, hcl, pickL_len]
  by_cases e1 : x.1 = 1
  · rw [if_pos e1, if_pos e1]
    by_cases e2 : 0 ≤ x.2 ∧ x.2 ≤ (m.entry.length : Int) - 2
    · rw [if_pos e2, if_pos e2]
      refine .inr ⟨_, _, rfl, rfl, ⟨by simp [h.len], fun i hi => ?_, pickL_get (by omega)⟩⟩
      simp only [List.length_append, List.length_singleton] at hi
      by_cases hl : i < s.2.length
      · rw [getD_append_lt hl, getD_append_lt (by rw [← h.len]; exact hl)]; exact h.left i hl
      · have e : i = s.2.length := by omega
        rw [e, getD_append_eq, h.len, getD_append_eq]; exact h.at'
    · rw [if_neg e2, if_neg e2]; exact .inl ⟨rfl, rfl⟩
  · rw [if_neg e1, if_neg e1]
    by_cases e2 : x.1 = 2
    · rw [if_pos e2, if_pos e2]
      by_cases e3 : 0 ≤ x.2 ∧ x.2 ≤ m.closings - 1
      · rw [if_pos e3, if_pos e3]
        have hl := h.len
        by_cases e4 : s.2 = []
        · have e5 : t.2 = [] := List.eq_nil_of_length_eq_zero (by rw [← hl, e4]; rfl)
          rw [if_pos e4, if_pos e5]
          have := (hm.low0 s.1.toNat (by omega) (ab.2 e4)).1
          exact .inr ⟨_, _, rfl, rfl, ⟨hl, h.left, by simp only; rw [h.at']; exact hq.low _ (by omega)⟩⟩
        · have e5 : t.2 ≠ [] := fun e => e4 (List.eq_nil_of_length_eq_zero (by rw [hl, e]; rfl))
          rw [if_neg e4, if_neg e5]
          have hp : 0 < s.2.length := List.length_pos_iff.2 e4
          obtain ⟨⟨t0, t1⟩, tr⟩ := hs.top e4
          have hlast := h.left (s.2.length - 1) (by omega)
          have hz : m.of.getD s.1.toNat 0 ≠ 0 := fun e => e4 (ab.1 e)
          refine .inr ⟨_, _, rfl, rfl, ⟨by simp [hl], fun i hi => ?_, ?_⟩⟩
          · simp only [List.length_take] at hi
            rw [getD_take (by omega), getD_take (by omega)]
            exact h.left i (by omega)
          · have q1 := hq.ret hz x.2.toNat (s.2.getD (s.2.length - 1) 0).toNat (by omega) (by omega) tr.2.2
            simp only
            rw [h.at', ← hl, hlast]
            exact q1
      · rw [if_neg e3, if_neg e3]; exact .inl ⟨rfl, rfl⟩
    · rw [if_neg e2, if_neg e2]
      by_cases e3 : x.1 = 3
      · rw [if_pos e3, if_pos e3]
        by_cases e4 : 0 ≤ x.2 ∧ x.2 ≤ m.plains - 1
        · rw [if_pos e4, if_pos e4]
          exact .inr ⟨_, _, rfl, rfl, ⟨h.len, h.left, by simp only; rw [h.at']; exact hq.inn _ (by omega)⟩⟩
        · rw [if_neg e4, if_neg e4]; exact .inl ⟨rfl, rfl⟩
      · rw [if_neg e3, if_neg e3]; exact .inl ⟨rfl, rfl⟩
theorem quot_run {m : Mo} {cls : List Int} (hm : ModOk m) (hc : ClsOk m cls) (hg : AllCong m cls) : ∀ (w : List (Int × Int)) (s t : Int × List Int), RGood m (Sup m cls) s → SimQ cls s t → (runM m w s = none ∧ runM (mergedF m cls) w t = none) ∨ ∃ s' t', runM m w s = some s' ∧ runM (mergedF m cls) w t = some t' ∧ SimQ cls s' t' ∧ RGood m (Sup m cls) s'
  | [], s, t, hs, h => .inr ⟨s, t, rfl, rfl, h, hs⟩
  | x :: w, s, t, hs, h => by
    unfold runM
    rcases quot_step hm hc hg hs h x with ⟨h1, h2⟩ | ⟨s', t', h1, h2, h3⟩
    · rw [h1, h2]; exact .inl ⟨rfl, rfl⟩
    · rw [h1, h2]
      exact quot_run hm hc hg w s' t' (step_good hm (sup_closed hm hc) hs h1) h3
theorem takes_merged {m : Mo} {cls : List Int} (hm : ModOk m) (hc : ClsOk m cls) (hg : AllCong m cls) (w : List (Int × Int)) : takesF (mergedF m cls) w = takesF m w := by
  unfold takesF
  rw [modF_iff.2 hm, modF_iff.2 (merged_ok hm hc)]
  simp only [Bool.true_and]
  have e : (mergedF m cls).entry.getD 0 0 = cls.getD (m.entry.getD 0 0).toNat 0 := pickL_get hm.k.1
  rcases quot_run hm hc hg w (m.entry.getD 0 0, []) ((mergedF m cls).entry.getD 0 0, []) (start_good hm (sup_closed hm hc)) ⟨rfl, fun i hi => by simp at hi, e⟩ with ⟨h1, h2⟩ | ⟨s, t, h1, h2, h3, h4⟩
  · rw [h1, h2]
  · rw [h1, h2]
    obtain ⟨⟨a0, a1⟩, ar, -⟩ := h4.at
    simp only
    rw [h3.at']
    exact (quot hm hc hg (p := s.1.toNat) (by omega) ar.2.2).fin
theorem takes_small {m : Mo} (hm : ModOk m) (w : List (Int × Int)) : takesF (smallF m) w = takesF m w := by
  have hb := bare_ok hm
  unfold smallF
  rw [takes_merged hb (classes_ok hb) (classes_cong hb)]
  exact takes_merged hm (rank_ok hm) (rank_cong hm) w
theorem reached_merged {m : Mo} {cls : List Int} (hm : ModOk m) (hc : ClsOk m cls) (hg : AllCong m cls) {p : Nat} (h : (reachedF m).getD p false = true) : (reachedF (mergedF m cls)).getD (cls.getD p 0).toNat false = true := by
  have hS := reached_closed (merged_ok hm hc).st
  have hst := hm.st
  have hsc := sup_closed hm hc
  have hT : RClosed m fun x => Sup m cls x ∧ (reachedF (mergedF m cls)).getD (cls.getD x.toNat 0).toNat false = true := by
    refine ⟨fun p hp => ⟨hsc.entry p hp, hS.entry _ (List.mem_map.2 ⟨p, hp, rfl⟩)⟩, fun p h x hx => ⟨hsc.inn p h.1 x hx, ?_⟩, fun p h x hx => ⟨hsc.low p h.1 x hx, ?_⟩, fun p q h1 h2 h3 h4 x hx => ⟨hsc.ret p q h1.1 h2.1 h3 h4 x hx, ?_⟩⟩
    · obtain ⟨⟨a0, a1, a2⟩, a3⟩ := h
      have hq := quot hm hc hg (p := p.toNat) (by omega) a2
      have hl := (hm.inn p.toNat (by omega)).1
      obtain ⟨i, hi, rfl⟩ := List.getElem_of_mem hx
      have e := hq.inn i (by omega)
      rw [List.getD_eq_getElem?_getD (l := m.inn.getD p.toNat []), List.getElem?_eq_getElem hi] at e
      have := hS.inn _ a3 _ (getD_memI (i := i) (by rw [hq.inl]; exact hi))
      rw [e] at this
      exact this
    · obtain ⟨⟨a0, a1, a2⟩, a3⟩ := h
      have hq := quot hm hc hg (p := p.toNat) (by omega) a2
      obtain ⟨i, hi, rfl⟩ := List.getElem_of_mem hx
      have e := hq.low i hi
      rw [List.getD_eq_getElem?_getD (l := m.low.getD p.toNat []), List.getElem?_eq_getElem hi] at e
      have := hS.low _ a3 _ (getD_memI (i := i) (by rw [hq.lol]; exact hi))
      rw [e] at this
      exact this
    · obtain ⟨⟨a0, a1, a2⟩, a3⟩ := h1
      obtain ⟨⟨b0, b1, b2⟩, b3⟩ := h2
      have hq := quot hm hc hg (p := p.toNat) (by omega) a2
      unfold colL at hx
      obtain ⟨row, hr, rfl⟩ := List.mem_map.1 hx
      obtain ⟨j, hj, rfl⟩ := List.getElem_of_mem hr
      have hz : m.of.getD p.toNat 0 ≠ 0 := fun e => by rw [hm.ret0 _ (by omega) e] at hj; simp at hj
      have hl := (hm.ret1 p.toNat (by omega) hz).1
      have e := hq.ret hz j q.toNat (by omega) (by omega) b2
      rw [List.getD_eq_getElem?_getD (l := m.ret.getD p.toNat []), List.getElem?_eq_getElem hj] at e
      have hz2 : (mergedF m cls).of.getD (cls.getD p.toNat 0).toNat 0 ≠ 0 := by rw [hq.of]; exact hz
      have hl2 := ((merged_ok hm hc).ret1 _ hq.lt hz2).1
      have hcl : (mergedF m cls).closings = m.closings := rfl
      have := hS.ret _ _ a3 b3 _ (ret_mem (j := j) (by omega))
      rw [e] at this
      exact this
  have := (reached_least hst hT h).2
  rwa [Int.toNat_natCast] at this
theorem bare_reached {m : Mo} (hm : ModOk m) {u : Nat} (hu : u < (bareF m).of.length) : (reachedF (bareF m)).getD u false = true := by
  have hbl : (bareF m).of.length = (leastsL (rankL (reachedF m))).length := by simp [bareF, mergedF]
  have hc := rank_ok hm
  obtain ⟨x1, x2, x3⟩ := hc.least (j := u) (by omega)
  have hl := reachedF_len hm.st
  have hr := (rank_pos (is := reachedF m) (p := ((leastsL (rankL (reachedF m))).getD u 0).toNat) (by omega)).1 (by omega)
  have := reached_merged hm hc (rank_cong hm) hr
  rw [x3, Int.toNat_natCast] at this
  exact this
theorem small_reached {m : Mo} (hm : ModOk m) {u : Nat} (hu : u < (smallF m).of.length) : (reachedF (smallF m)).getD u false = true := by
  have hbl : (smallF m).of.length = (leastsL (classesOfF (bareF m))).length := by simp [smallF, mergedF]
  have hb := bare_ok hm
  have hc := classes_ok hb
  obtain ⟨x1, x2, x3⟩ := hc.least (j := u) (by omega)
  have := reached_merged hb hc (classes_cong hb) (bare_reached hm x1)
  rw [x3, Int.toNat_natCast] at this
  exact this
def idL (n : Nat) : List Int := (List.range n).map fun (i : Nat) => (i : Int)
theorem idL_get {n i : Nat} (h : i < n) : (idL n).getD i 0 = i := by
  unfold idL
  rw [map_getD _ _ (by simpa using h) _ 0, List.getD_eq_getElem?_getD, List.getElem?_eq_getElem (by simpa using h)]
  simp
theorem leastL_id (n : Nat) : ∀ i, i ≤ n → leastL (idL n) i = idL i
  | 0, _ => rfl
  | i + 1, h => by
    have hl : (idL i).length = i := by simp [idL]
    unfold leastL
    rw [leastL_id n i (by omega), idL_get (by omega), hl, if_pos rfl]
    unfold idL
    rw [List.range_succ, List.map_append]; rfl
theorem leasts_id (n : Nat) : leastsL (idL n) = idL n := by
  unfold leastsL
  have hl : (idL n).length = n := by simp [idL]
  rw [hl, leastL_id n n (Nat.le_refl _)]
theorem map_id_get {α : Type} {l : List α} {n : Nat} {d : α} (h : l.length = n) : ((idL n).map fun p => l.getD p.toNat d) = l := by
  refine List.ext_getElem (by simp [idL, h]) fun i h1 h2 => ?_
  have : (idL n)[i]'(by simpa using h1) = (i : Int) := by simp [idL]
  rw [List.getElem_map, this, Int.toNat_natCast, List.getD_eq_getElem?_getD, List.getElem?_eq_getElem h2]; rfl
theorem pick_id {l : List Int} {n : Nat} (h : ∀ x ∈ l, 0 ≤ x ∧ x < (n : Int)) : pickL (idL n) l = l := by
  unfold pickL
  refine List.ext_getElem (by simp) fun i h1 h2 => ?_
  have := h _ (List.getElem_mem h2)
  rw [List.getElem_map, idL_get (by omega)]
  omega
theorem merged_id {m : Mo} (hm : ModOk m) : mergedF m (idL m.of.length) = m := by
  have hst := hm.st
  have hn : ∀ {l : List (List Int)}, l.length = m.of.length → (∀ i, ∀ x ∈ l.getD i [], 0 ≤ x ∧ x < (m.of.length : Int)) → ((idL m.of.length).map fun p => pickL (idL m.of.length) (l.getD p.toNat [])) = l := by
    intro l hl hx
    refine Eq.trans ?_ (map_id_get (d := []) hl)
    refine List.map_congr_left fun p _ => pick_id (hx p.toNat)
  have e5 : ((idL m.of.length).map fun p => (m.ret.getD p.toNat []).map fun row => pickL (idL m.of.length) (pickL row (idL m.of.length))) = m.ret := by
    refine Eq.trans ?_ (map_id_get (d := []) hm.rl)
    refine List.map_congr_left fun p hp => ?_
    refine Eq.trans ?_ (List.map_id _)
    refine List.map_congr_left fun row hr => ?_
    obtain ⟨k, hk, rfl⟩ := List.mem_map.1 hp
    rw [List.mem_range] at hk
    rw [Int.toNat_natCast] at hr
    obtain ⟨j, hj, rfl⟩ := List.getElem_of_mem hr
    have hz : m.of.getD k 0 ≠ 0 := fun e => by rw [hm.ret0 k hk e] at hj; simp at hj
    have hrow := (hm.ret1 k hk hz).2 j hj
    rw [List.getD_eq_getElem?_getD (l := m.ret.getD k []), List.getElem?_eq_getElem hj] at hrow
    simp only [Option.getD_some] at hrow
    have e6 : pickL (m.ret.getD k [])[j] (idL m.of.length) = (m.ret.getD k [])[j] := map_id_get hrow.1
    rw [e6]
    refine pick_id fun x hx => ?_
    obtain ⟨i, hi, rfl⟩ := List.getElem_of_mem hx
    have := (hrow.2 i (by omega)).1
    rwa [List.getD_eq_getElem?_getD, List.getElem?_eq_getElem hi] at this
  unfold mergedF
  simp only [leasts_id]
  rw [pick_id hst.entry, map_id_get rfl, map_id_get hm.fl, hn hm.il hst.inn, hn hm.ll hst.low, e5]
theorem numQ_nodup (l : List Int) (h : l.Nodup) : (numQ l).1 = l := by
  suffices h : ∀ r : List Int, r.reverse.Nodup → (numQ r.reverse).1 = r.reverse by
    have := h l.reverse; rw [List.reverse_reverse] at this; exact this ‹_›
  clear h
  intro r
  induction r with
  | nil => intro _; rfl
  | cons a r ih =>
    intro h
    rw [List.reverse_cons] at h ⊢
    rw [List.nodup_append] at h
    have := ih h.1
    rw [numQ_snoc]
    simp only [num1]
    rw [this, if_neg]
    intro hm
    exact h.2.2 a hm a (List.mem_singleton.2 rfl) rfl
theorem can_inj {c : List Int} {n : Nat} (h : Can c) (hl : c.length = n) (hi : ∀ p q, p < n → q < n → c.getD p 0 = c.getD q 0 → p = q) : c = idL n := by
  have hnd : c.Nodup := by
    unfold List.Nodup
    rw [List.pairwise_iff_getElem]
    intro i j h1 h2 hij e
    have := hi i j (by omega) (by omega) (by
      rw [List.getD_eq_getElem?_getD, List.getD_eq_getElem?_getD, List.getElem?_eq_getElem h1, List.getElem?_eq_getElem h2, e])
    omega
  have hm := numL_map c
  rw [show numL c = c from h, numQ_nodup c hnd] at hm
  refine List.ext_getElem (by simp [idL, hl]) fun i h1 h2 => ?_
  have : c[i] = (c.map fun k => (c.idxOf k : Int))[i]'(by simpa using h1) := by
    congr 1
  rw [this, List.getElem_map, hnd.idxOf_getElem]
  simp [idL]
theorem rank_all {n : Nat} {is : List Bool} (hl : is.length = n) (h : ∀ u, u < n → is.getD u false = true) : rankL is = idL n := by
  have hr : ∀ i, i ≤ n → rankN is i = i := by
    intro i
    induction i with
    | zero => intro _; simp [rankN]
    | succ i ih => intro hi; rw [rankN_succ (by omega), h i (by omega), ih (by omega)]; rfl
  refine List.ext_getElem (by simp [rankL, idL, hl]) fun i h1 h2 => ?_
  simp only [rankL, idL, List.length_map, List.length_range] at h1 h2
  simp only [rankL, idL, List.getElem_map, List.getElem_range]
  rw [h i (by omega), hr i (by omega)]
  rfl
theorem small_rank {m : Mo} (hm : ModOk m) : rankL (reachedF (smallF m)) = idL (smallF m).of.length := rank_all (reachedF_len (small_ok hm).st) fun _ hu => small_reached hm hu
theorem small_bare {m : Mo} (hm : ModOk m) : bareF (smallF m) = smallF m := by
  unfold bareF
  rw [small_rank hm]
  exact merged_id (small_ok hm)
theorem small_classes {m : Mo} (hm : ModOk m) : classesOfF (smallF m) = idL (smallF m).of.length := by
  have hS := small_ok hm
  have hb := bare_ok hm
  have hc := classes_ok hb
  have hg := classes_cong hb
  obtain ⟨c1, c2, c3⟩ := classesOf_ok hS
  have hpos : ∀ {p : Nat}, p < (bareF m).of.length → 0 ≤ (classesOfF (bareF m)).getD p 0 := fun hp => (can_pos (classesOf_ok hb).1 (by rw [(classesOf_ok hb).2.1]; exact hp)).1
  have hco := classesOf_coarse hb (d := fun u => (classesOfF (smallF m)).getD ((classesOfF (bareF m)).getD u 0).toNat 0) (by
    intro p q hp hq h
    have q1 := quot hb hc hg hp (hpos hp)
    have q2 := quot hb hc hg hq (hpos hq)
    have hcg := classesOf_cong hS q1.lt q2.lt h
    change Cong (mergedF (bareF m) (classesOfF (bareF m))) _ _ _ at hcg
    have hof : (bareF m).of.getD p 0 = (bareF m).of.getD q 0 := by have := hcg.of; rwa [q1.of, q2.of] at this
    refine ⟨hof, ?_, fun i hi => ?_, fun i hi => ?_, fun hz j x hj hx => ?_, fun j x hj hx hz => ?_⟩
    · have := hcg.fin; rwa [q1.fin, q2.fin] at this
    · have := hcg.inn i hi
      rw [q1.inn i hi, q2.inn i hi] at this
      exact this
    · have hi2 : i < ((bareF m).low.getD q []).length := by
        by_cases hz : (bareF m).of.getD p 0 = 0
        · have := (hb.low0 p hp hz).1; have := (hb.low0 q hq (by omega)).1; omega
        · rw [hb.low1 p hp hz] at hi; simp at hi
      have := hcg.low i (by rw [q1.lol]; exact hi)
      rw [q1.low i hi, q2.low i hi2] at this
      exact this
    · have qx := quot hb hc hg hx (hpos hx)
      have := hcg.above (by rw [q1.of]; exact hz) j _ hj qx.lt
      rw [q1.ret hz j x hj hx (hpos hx), q2.ret (by omega) j x hj hx (hpos hx)] at this
      exact this
    · have qx := quot hb hc hg hx (hpos hx)
      have := hcg.below j _ hj qx.lt (by rw [qx.of]; exact hz)
      rw [qx.ret hz j p hj hp (hpos hp), qx.ret hz j q hj hq (hpos hq)] at this
      exact this)
  refine can_inj c1 c2 fun p q hp hq h => ?_
  have hbl : (smallF m).of.length = (leastsL (classesOfF (bareF m))).length := by simp [smallF, mergedF]
  obtain ⟨x1, x2, x3⟩ := hc.least (j := p) (by omega)
  obtain ⟨y1, y2, y3⟩ := hc.least (j := q) (by omega)
  have := hco _ _ x1 y1 (by simp only; rw [x3, y3, Int.toNat_natCast, Int.toNat_natCast]; exact h)
  rw [x3, y3] at this
  omega
theorem small_again {m : Mo} (hm : ModOk m) : smallF (smallF m) = smallF m := by
  have e : smallF (smallF m) = mergedF (bareF (smallF m)) (classesOfF (bareF (smallF m))) := rfl
  rw [e, small_bare hm, small_classes hm]
  exact merged_id (small_ok hm)
end Go.Am
