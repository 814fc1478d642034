import Derived.Test.YtdadkkmpnecpbaaQAM34
namespace Go.Am
set_option linter.unusedSimpArgs false
set_option linter.unusedVariables false
set_option linter.unnecessarySimpa false
theorem partedL_ref {c : List Int} {rows : List (List Int)} {p q : Nat} (hp : p < rows.length) (hq : q < rows.length) (h : (partedL c rows).getD p 0 = (partedL c rows).getD q 0) : partK c (rows.getD p []) p = partK c (rows.getD q []) q := by
  have hl := partedL_len c rows
  unfold partedL at h hl
  have e := (num_eq ((List.range rows.length).map fun p => partK c (rows.getD p []) p) (i := p) (j := q) (by simpa using hp) (by simpa using hq)).1 (by
    rw [List.getD_eq_getElem?_getD, List.getD_eq_getElem?_getD, List.getElem?_eq_getElem (by omega), List.getElem?_eq_getElem (by omega)] at h
    rw [List.getElem?_eq_getElem (by omega), List.getElem?_eq_getElem (by omega)]
    exact congrArg some h)
  simpa using e
theorem partedL_ref0 {c : List Int} {rows : List (List Int)} {p q : Nat} (hp : p < rows.length) (hq : q < rows.length) (h : (partedL c rows).getD p 0 = (partedL c rows).getD q 0) : c.getD p 0 = c.getD q 0 := by
  have := partedL_ref hp hq h
  unfold partK at this
  rw [List.cons_append, List.cons_append] at this
  exact (List.cons.inj this).1
theorem partK_row {c a b : List Int} {p q : Nat} (h : partK c a p = partK c b q) (hl : a.length = b.length) : (a.map fun q => c.getD q.toNat 0) = b.map fun q => c.getD q.toNat 0 := by
  unfold partK at h
  rw [List.cons_append, List.cons_append] at h
  exact (List.append_inj (List.cons.inj h).2 (by simp [hl])).1
theorem roundL_ref {p q n : Nat} (hp : p < n) (hq : q < n) : ∀ (ways : List (List (List Int))) (c : List Int), (∀ r ∈ ways, r.length = n) → (roundL ways c).getD p 0 = (roundL ways c).getD q 0 → c.getD p 0 = c.getD q 0
  | [], _, _, h => h
  | r :: ways, c, hw, h => by
    have hr := hw r (List.mem_cons_self ..)
    exact partedL_ref0 (by omega) (by omega) (roundL_ref hp hq ways (partedL c r) (fun r hr => hw r (List.mem_cons_of_mem _ hr)) h)
theorem settledL_ref {p q n : Nat} (hp : p < n) (hq : q < n) (ways : List (List (List Int))) (hw : ∀ r ∈ ways, r.length = n) : ∀ (f : Nat) (c : List Int), (settledL ways f c).getD p 0 = (settledL ways f c).getD q 0 → c.getD p 0 = c.getD q 0
  | 0, _, h => h
  | f + 1, c, h => by
    unfold settledL at h
    split at h
    · exact h
    · exact roundL_ref hp hq ways c hw (settledL_ref hp hq ways hw f _ h)
theorem round_each : ∀ (ways : List (List (List Int))) (c : List Int) (n : Nat), Can c → c.length = n → (∀ r ∈ ways, r.length = n) → roundL ways c = c → ∀ r ∈ ways, partedL c r = c
  | [], _, _, _, _, _, _, r, hr => by simp at hr
  | a :: ways, c, n, hc, hl, hw, h, r, hr => by
    have h1 := partedL_finer hc (rows := a) (by rw [hw a (List.mem_cons_self ..), hl])
    have h2 := roundL_finer ways (c := partedL c a) (n := n) (can_num _) (by rw [partedL_len, hw a (List.mem_cons_self ..)]) (fun r hr => hw r (List.mem_cons_of_mem _ hr))
    have e : roundL (a :: ways) c = roundL ways (partedL c a) := rfl
    rw [e] at h
    rw [h] at h2
    have q1 := h1.2 (by have := h1.1; have := h2.2.2.1; omega)
    rcases List.mem_cons.1 hr with rfl | hr
    · exact q1
    · rw [q1] at h
      exact round_each ways c n hc hl (fun r hr => hw r (List.mem_cons_of_mem _ hr)) h r hr
structure Cong (m : Mo) (c : Nat → Int) (p q : Nat) : Prop where
  of : m.of.getD p 0 = m.of.getD q 0
  fin : m.final.getD p false = m.final.getD q false
  inn : ∀ i : Nat, i < m.plains.toNat → c ((m.inn.getD p []).getD i 0).toNat = c ((m.inn.getD q []).getD i 0).toNat
  low : ∀ i : Nat, i < (m.low.getD p []).length → c ((m.low.getD p []).getD i 0).toNat = c ((m.low.getD q []).getD i 0).toNat
  above : m.of.getD p 0 ≠ 0 → ∀ j x : Nat, j < m.closings.toNat → x < m.of.length → c (((m.ret.getD p []).getD j []).getD x 0).toNat = c (((m.ret.getD q []).getD j []).getD x 0).toNat
  below : ∀ j x : Nat, j < m.closings.toNat → x < m.of.length → m.of.getD x 0 ≠ 0 → c (((m.ret.getD x []).getD j []).getD p 0).toNat = c (((m.ret.getD x []).getD j []).getD q 0).toNat
theorem map_at {c a b : List Int} {i : Nat} (h : (a.map fun q => c.getD q.toNat 0) = b.map fun q => c.getD q.toNat 0) (hi : i < a.length) : c.getD (a.getD i 0).toNat 0 = c.getD (b.getD i 0).toNat 0 := by
  have hl : a.length = b.length := by have := congrArg List.length h; simpa using this
  have := congrArg (fun l => l.getD i 0) h
  rwa [map_getD _ _ hi _ 0, map_getD _ _ (by omega) _ 0] at this
theorem classesOf_cong {m : Mo} (hm : ModOk m) {p q : Nat} (hp : p < m.of.length) (hq : q < m.of.length) (h : (classesOfF m).getD p 0 = (classesOfF m).getD q 0) : Cong m (fun x => (classesOfF m).getD x 0) p q := by
  obtain ⟨c1, c2, c3⟩ := classesOf_ok hm
  have hw := waysF_len hm
  have hr := round_each _ _ _ c1 c2 hw c3
  have h0 : (firstL m).getD p 0 = (firstL m).getD q 0 := settledL_ref hp hq _ hw _ _ h
  have hf : firstK m p = firstK m q := by
    have hl := firstL_len m
    unfold firstL at h0 hl
    have := (num_eq ((List.range m.of.length).map (firstK m)) (i := p) (j := q) (by simpa using hp) (by simpa using hq)).1 (by
      rw [List.getD_eq_getElem?_getD, List.getD_eq_getElem?_getD, List.getElem?_eq_getElem (by omega), List.getElem?_eq_getElem (by omega)] at h0
      rw [List.getElem?_eq_getElem (by omega), List.getElem?_eq_getElem (by omega)]
      exact congrArg some h0)
    simpa using this
  have hof : m.of.getD p 0 = m.of.getD q 0 := by unfold firstK at hf; exact (List.cons.inj hf).1
  have hfin : m.final.getD p false = m.final.getD q false := by
    unfold firstK at hf
    have := (List.cons.inj (List.cons.inj hf).2).1
    revert this
    cases m.final.getD p false <;> cases m.final.getD q false <;> simp
  generalize hc : classesOfF m = c at *
  have hrow : ∀ r ∈ waysF m, (r.getD p []).length = (r.getD q []).length → ((r.getD p []).map fun q => c.getD q.toNat 0) = (r.getD q []).map fun q => c.getD q.toNat 0 := by
    intro r hrm hl
    have e := hr r hrm
    exact partK_row (partedL_ref (c := c) (rows := r) (by rw [hw r hrm]; exact hp) (by rw [hw r hrm]; exact hq) (by rw [e]; exact h)) hl
  have hin : m.inn ∈ waysF m := by simp [waysF]
  have hlo : m.low ∈ waysF m := by simp [waysF]
  have hab : ∀ j, j < m.closings.toNat → aboveF m j ∈ waysF m := fun j hj => List.mem_append_right _ (List.mem_flatMap.2 ⟨j, List.mem_range.2 hj, List.mem_cons_self ..⟩)
  have hbe : ∀ j, j < m.closings.toNat → belowF m j ∈ waysF m := fun j hj => List.mem_append_right _ (List.mem_flatMap.2 ⟨j, List.mem_range.2 hj, List.mem_cons_of_mem _ (List.mem_cons_self ..)⟩)
  have hrg : ∀ {k : Nat}, k < m.of.length → (List.range m.of.length).getD k 0 = k := fun hk => by rw [List.getD_eq_getElem?_getD, List.getElem?_eq_getElem (by simpa using hk)]; simp
  refine ⟨hof, hfin, fun i hi => ?_, fun i hi => ?_, fun hz j x hj hx => ?_, fun j x hj hx hz => ?_⟩
  · have l1 := (hm.inn p hp).1
    have l2 := (hm.inn q hq).1
    exact map_at (hrow _ hin (by omega)) (by omega)
  · refine map_at (hrow _ hlo ?_) hi
    by_cases hz : m.of.getD p 0 = 0
    · have l1 := (hm.low0 p hp hz).1
      have l2 := (hm.low0 q hq (by omega)).1
      omega
    · rw [hm.low1 p hp hz, hm.low1 q hq (by omega)]
  · have hz' : m.of.getD q 0 ≠ 0 := by omega
    obtain ⟨l1, k1⟩ := hm.ret1 p hp hz
    obtain ⟨l2, k2⟩ := hm.ret1 q hq hz'
    have e1 : (aboveF m j).getD p [] = (m.ret.getD p []).getD j [] := by
      unfold aboveF; rw [map_getD _ _ (by simpa using hp) _ 0, hrg hp, if_neg hz]
    have e2 : (aboveF m j).getD q [] = (m.ret.getD q []).getD j [] := by
      unfold aboveF; rw [map_getD _ _ (by simpa using hq) _ 0, hrg hq, if_neg hz']
    have e := hrow _ (hab j hj) (by rw [e1, e2, (k1 j (by omega)).1, (k2 j (by omega)).1])
    rw [e1, e2] at e
    exact map_at e (by rw [(k1 j (by omega)).1]; exact hx)
  · have e1 : ∀ {k : Nat}, k < m.of.length → (belowF m j).getD k [] = ((List.range m.of.length).filter fun p => decide (m.of.getD p 0 ≠ 0)).map fun p => ((m.ret.getD p []).getD j []).getD k 0 := fun {k} hk => by
      unfold belowF; rw [map_getD _ _ (by simpa using hk) _ 0, hrg hk]
    have e := hrow _ (hbe j hj) (by rw [e1 hp, e1 hq]; simp)
    rw [e1 hp, e1 hq, List.map_map, List.map_map] at e
    have hmem : x ∈ (List.range m.of.length).filter fun p => decide (m.of.getD p 0 ≠ 0) := List.mem_filter.2 ⟨List.mem_range.2 hx, by simpa using hz⟩
    exact List.map_inj_left.1 e x hmem
theorem rank_back {is : List Bool} {p : Nat} (h : is.getD p false = true) : rankN is p < (leastsL (rankL is)).length ∧ (leastsL (rankL is)).getD (rankN is p) 0 = p := by
  have hp := getD_lt_len h
  have hl : (rankL is).length = is.length := by simp [rankL]
  have hn := rank_num hp h
  obtain ⟨⟨h1, h2⟩, h3⟩ := leastL_ok (rankL is) (rankL is).length (Nat.le_refl _) _ hn
  refine ⟨hn, ?_⟩
  change (leastL (rankL is) (rankL is).length).getD (rankN is p) 0 = p
  generalize (leastL (rankL is) (rankL is).length).getD (rankN is p) 0 = x at *
  have hx : x.toNat < is.length := by omega
  have h4 : is.getD x.toNat false = true := (rank_pos hx).1 (by omega)
  rw [rankL_get hx, h4] at h3
  simp only [if_true] at h3
  have := rank_inj hx hp h4 h (by omega)
  omega
theorem classesF_get {m : Mo} (hm : ModOk m) {p : Nat} (h : (reachedF m).getD p false = true) : (classesF m).getD p 0 = (classesOfF (bareF m)).getD (rankN (reachedF m) p) 0 := by
  have hp := getD_lt_len h
  have hl : (rankL (reachedF m)).length = (reachedF m).length := by simp [rankL]
  unfold classesF
  rw [map_getD _ _ (by omega) _ 0, rankL_get hp, h]
  simp only [if_true]
  rw [if_neg (by omega), Int.toNat_natCast]
theorem pickL_get {l places : List Int} {i : Nat} (h : i < places.length) : (pickL l places).getD i 0 = l.getD (places.getD i 0).toNat 0 := by
  unfold pickL; rw [map_getD _ _ h _ 0]
structure CongR (m : Mo) (p q : Nat) : Prop where
  of : m.of.getD p 0 = m.of.getD q 0
  fin : m.final.getD p false = m.final.getD q false
  inn : ∀ i : Nat, i < m.plains.toNat → (classesF m).getD ((m.inn.getD p []).getD i 0).toNat 0 = (classesF m).getD ((m.inn.getD q []).getD i 0).toNat 0
  low : ∀ i : Nat, i < (m.low.getD p []).length → (classesF m).getD ((m.low.getD p []).getD i 0).toNat 0 = (classesF m).getD ((m.low.getD q []).getD i 0).toNat 0
  above : m.of.getD p 0 ≠ 0 → ∀ j x : Nat, j < m.closings.toNat → (reachedF m).getD x false = true → (classesF m).getD (((m.ret.getD p []).getD j []).getD x 0).toNat 0 = (classesF m).getD (((m.ret.getD q []).getD j []).getD x 0).toNat 0
  below : ∀ j x : Nat, j < m.closings.toNat → (reachedF m).getD x false = true → m.of.getD x 0 ≠ 0 → (classesF m).getD (((m.ret.getD x []).getD j []).getD p 0).toNat 0 = (classesF m).getD (((m.ret.getD x []).getD j []).getD q 0).toNat 0
theorem ret_mem {m : Mo} {p j q : Nat} (hj : j < (m.ret.getD p []).length) : ((m.ret.getD p []).getD j []).getD q 0 ∈ colL (m.ret.getD p []) q := by
  unfold colL
  refine List.mem_map.2 ⟨_, ?_, rfl⟩
  rw [List.getD_eq_getElem?_getD (i := j), List.getElem?_eq_getElem hj]
  exact List.getElem_mem _
theorem classesF_cong {m : Mo} (hm : ModOk m) {p q : Nat} (hp : (reachedF m).getD p false = true) (hq : (reachedF m).getD q false = true) (h : (classesF m).getD p 0 = (classesF m).getD q 0) : CongR m p q := by
  have hl := reachedF_len hm.st
  have hb := bare_ok hm
  have hcl := reached_closed hm.st
  have hpn := getD_lt_len hp
  have hqn := getD_lt_len hq
  rw [classesF_get hm hp, classesF_get hm hq] at h
  obtain ⟨rp, bp⟩ := rank_back hp
  obtain ⟨rq, bq⟩ := rank_back hq
  have hbl : (bareF m).of.length = (leastsL (rankL (reachedF m))).length := by simp [bareF, mergedF]
  have hc := classesOf_cong hb (by omega) (by omega) h
  have eof : ∀ {x : Nat}, (reachedF m).getD x false = true → (bareF m).of.getD (rankN (reachedF m) x) 0 = m.of.getD x 0 := fun hx => by
    obtain ⟨r, b⟩ := rank_back hx
    simp only [bareF, mergedF]
    rw [map_getD _ _ r _ 0, b, Int.toNat_natCast]
  have efin : ∀ {x : Nat}, (reachedF m).getD x false = true → (bareF m).final.getD (rankN (reachedF m) x) false = m.final.getD x false := fun hx => by
    obtain ⟨r, b⟩ := rank_back hx
    simp only [bareF, mergedF]
    rw [map_getD _ _ r _ 0, b, Int.toNat_natCast]
  have einn : ∀ {x : Nat}, (reachedF m).getD x false = true → (bareF m).inn.getD (rankN (reachedF m) x) [] = pickL (rankL (reachedF m)) (m.inn.getD x []) := fun hx => by
    obtain ⟨r, b⟩ := rank_back hx
    simp only [bareF, mergedF]
    rw [map_getD _ _ r _ 0, b, Int.toNat_natCast]
  have elow : ∀ {x : Nat}, (reachedF m).getD x false = true → (bareF m).low.getD (rankN (reachedF m) x) [] = pickL (rankL (reachedF m)) (m.low.getD x []) := fun hx => by
    obtain ⟨r, b⟩ := rank_back hx
    simp only [bareF, mergedF]
    rw [map_getD _ _ r _ 0, b, Int.toNat_natCast]
  have eret : ∀ {x j y : Nat}, (reachedF m).getD x false = true → (reachedF m).getD y false = true → j < (m.ret.getD x []).length → (((bareF m).ret.getD (rankN (reachedF m) x) []).getD j []).getD (rankN (reachedF m) y) 0 = (rankL (reachedF m)).getD (((m.ret.getD x []).getD j []).getD y 0).toNat 0 := fun {x j y} hx hy hj => by
    obtain ⟨r, b⟩ := rank_back hx
    obtain ⟨r2, b2⟩ := rank_back hy
    simp only [bareF, mergedF]
    rw [map_getD _ _ r _ 0, b, Int.toNat_natCast, map_getD _ _ hj _ [], pickL_get (by rw [pickL_len]; exact r2), pickL_get r2, b2, Int.toNat_natCast]
  -- a reached state's class
  have key : ∀ {x : Int}, 0 ≤ x → (reachedF m).getD x.toNat false = true → (classesF m).getD x.toNat 0 = (classesOfF (bareF m)).getD ((rankL (reachedF m)).getD x.toNat 0).toNat 0 := fun {x} h0 hx => by
    rw [classesF_get hm hx, rankL_get (getD_lt_len hx), hx]
    simp
  have hnn : ∀ {x : Nat}, (reachedF m).getD x false = true → x < m.of.length := fun hx => by have := getD_lt_len hx; omega
  have hof : m.of.getD p 0 = m.of.getD q 0 := by have := hc.of; rwa [eof hp, eof hq] at this
  refine ⟨hof, ?_, fun i hi => ?_, fun i hi => ?_, fun hz j x hj hx => ?_, fun j x hj hx hz => ?_⟩
  · have := hc.fin; rwa [efin hp, efin hq] at this
  · have l1 := hm.inn p (hnn hp)
    have l2 := hm.inn q (hnn hq)
    have m1 := getD_memI (l := m.inn.getD p []) (i := i) (by omega)
    have m2 := getD_memI (l := m.inn.getD q []) (i := i) (by omega)
    have := hc.inn i hi
    rw [einn hp, einn hq, pickL_get (by omega), pickL_get (by omega)] at this
    rw [key (l1.2 _ m1).1.1 (hcl.inn p hp _ m1), key (l2.2 _ m2).1.1 (hcl.inn q hq _ m2)]
    exact this
  · have hi2 : i < (m.low.getD q []).length := by
      by_cases hz : m.of.getD p 0 = 0
      · have := (hm.low0 p (hnn hp) hz).1; have := (hm.low0 q (hnn hq) (by omega)).1; omega
      · rw [hm.low1 p (hnn hp) hz] at hi; simp at hi
    have m1 := getD_memI (l := m.low.getD p []) (i := i) (by omega)
    have m2 := getD_memI (l := m.low.getD q []) (i := i) (by omega)
    have := hc.low i (by rw [elow hp, pickL_len]; exact hi)
    rw [elow hp, elow hq, pickL_get (by omega), pickL_get (by omega)] at this
    rw [key (hm.st.low _ _ m1).1 (hcl.low p hp _ m1), key (hm.st.low _ _ m2).1 (hcl.low q hq _ m2)]
    exact this
  · have l1 := (hm.ret1 p (hnn hp) hz).1
    have l2 := (hm.ret1 q (hnn hq) (by omega)).1
    obtain ⟨rx, bx⟩ := rank_back hx
    have := hc.above (by rw [eof hp]; exact hz) j (rankN (reachedF m) x) hj (by omega)
    rw [eret hp hx (by omega), eret hq hx (by omega)] at this
    have m1 := ret_mem (m := m) (p := p) (j := j) (q := x) (by omega)
    have m2 := ret_mem (m := m) (p := q) (j := j) (q := x) (by omega)
    rw [key (hm.st.ret _ _ (hnn hx) _ m1).1 (hcl.ret p x hp hx _ m1), key (hm.st.ret _ _ (hnn hx) _ m2).1 (hcl.ret q x hq hx _ m2)]
    exact this
  · have l1 := (hm.ret1 x (hnn hx) hz).1
    obtain ⟨rx, bx⟩ := rank_back hx
    have := hc.below j (rankN (reachedF m) x) hj (by omega) (by rw [eof hx]; exact hz)
    rw [eret hx hp (by omega), eret hx hq (by omega)] at this
    have m1 := ret_mem (m := m) (p := x) (j := j) (q := p) (by omega)
    have m2 := ret_mem (m := m) (p := x) (j := j) (q := q) (by omega)
    rw [key (hm.st.ret _ _ (hnn hp) _ m1).1 (hcl.ret x p hx hp _ m1), key (hm.st.ret _ _ (hnn hq) _ m2).1 (hcl.ret x q hx hq _ m2)]
    exact this
def ReachR (m : Mo) (x : Int) : Prop := 0 ≤ x ∧ (reachedF m).getD x.toNat false = true
theorem reachR_closed {m : Mo} (hok : ModOk m) : RClosed m (ReachR m) := by
  have hc := reached_closed hok.st
  exact ⟨fun p hp => ⟨(hok.st.entry p hp).1, hc.entry p hp⟩, fun p h x hx => ⟨(hok.st.inn _ x hx).1, hc.inn _ h.2 x hx⟩, fun p h x hx => ⟨(hok.st.low _ x hx).1, hc.low _ h.2 x hx⟩, fun p q h1 h2 h3 h4 x hx => ⟨(hok.st.ret _ _ (by omega) x hx).1, hc.ret _ _ h1.2 h2.2 x hx⟩⟩
structure Sim (m : Mo) (s t : Int × List Int) : Prop where
  len : s.2.length = t.2.length
  left : ∀ i, i < s.2.length → (classesF m).getD (s.2.getD i 0).toNat 0 = (classesF m).getD (t.2.getD i 0).toNat 0
  at' : (classesF m).getD s.1.toNat 0 = (classesF m).getD t.1.toNat 0
theorem getD_take {l : List Int} {i k : Nat} (h : i < k) : (l.take k).getD i 0 = l.getD i 0 := by
  rw [List.getD_eq_getElem?_getD, List.getElem?_take, if_pos h, ← List.getD_eq_getElem?_getD]
theorem sim_step {m : Mo} (hm : ModOk m) {s t : Int × List Int} (hs : RGood m (ReachR m) s) (ht : RGood m (ReachR m) t) (h : Sim m s t) (x : Int × Int) : (stepF m s x = none ∧ stepF m t x = none) ∨ ∃ s' t', stepF m s x = some s' ∧ stepF m t x = some t' ∧ Sim m s' t' := by
  obtain ⟨⟨a0, a1⟩, ar, ab⟩ := hs.at
  obtain ⟨⟨b0, b1⟩, br, bb⟩ := ht.at
  have hc := classesF_cong hm ar.2 br.2 h.at'
  unfold stepF
  by_cases e1 : x.1 = 1
  · rw [if_pos e1, if_pos e1]
    by_cases e2 : 0 ≤ x.2 ∧ x.2 ≤ (m.entry.length : Int) - 2
    · rw [if_pos e2, if_pos e2]
      refine .inr ⟨_, _, rfl, rfl, ⟨by simp [h.len], fun i hi => ?_, rfl⟩⟩
      simp only [List.length_append, List.length_singleton] at hi
      by_cases hl : i < s.2.length
      · rw [getD_append_lt hl, getD_append_lt (by rw [← h.len]; exact hl)]; exact h.left i hl
      · have e : i = s.2.length := by omega
        rw [e, getD_append_eq, h.len, getD_append_eq]; exact h.at'
    · rw [if_neg e2, if_neg e2]; exact .inl ⟨rfl, rfl⟩
  · rw [if_neg e1, if_neg e1]
    by_cases e2 : x.1 = 2
    · rw [if_pos e2, if_pos e2]
      by_cases e3 : 0 ≤ x.2 ∧ x.2 ≤ m.closings - 1
      · rw [if_pos e3, if_pos e3]
        have hl := h.len
        by_cases e4 : s.2 = []
        · have e5 : t.2 = [] := List.eq_nil_of_length_eq_zero (by rw [← hl, e4]; rfl)
          rw [if_pos e4, if_pos e5]
          have := (hm.low0 s.1.toNat (by omega) (ab.2 e4)).1
          exact .inr ⟨_, _, rfl, rfl, ⟨hl, h.left, hc.low _ (by omega)⟩⟩
        · have e5 : t.2 ≠ [] := fun e => e4 (List.eq_nil_of_length_eq_zero (by rw [hl, e]; rfl))
          rw [if_neg e4, if_neg e5]
          have hp : 0 < s.2.length := List.length_pos_iff.2 e4
          obtain ⟨⟨t0, t1⟩, tr⟩ := hs.top e4
          obtain ⟨⟨u0, u1⟩, ur⟩ := ht.top e5
          have hlast := h.left (s.2.length - 1) (by omega)
          rw [hl] at hlast t0 t1 tr
          have hz : m.of.getD s.1.toNat 0 ≠ 0 := fun e => e4 (ab.1 e)
          have hz2 : m.of.getD t.1.toNat 0 ≠ 0 := fun e => e5 (bb.1 e)
          have hc2 := classesF_cong hm tr.2 ur.2 hlast
          refine .inr ⟨_, _, rfl, rfl, ⟨by simp [hl], fun i hi => ?_, ?_⟩⟩
          · simp only [List.length_take] at hi
            rw [getD_take (by omega), getD_take (by omega)]
            exact h.left i (by omega)
          · have q1 := hc.above hz x.2.toNat _ (by omega) tr.2
            have q2 := hc2.below x.2.toNat t.1.toNat (by omega) br.2 hz2
            rw [hl]
            exact q1.trans q2
      · rw [if_neg e3, if_neg e3]; exact .inl ⟨rfl, rfl⟩
    · rw [if_neg e2, if_neg e2]
      by_cases e3 : x.1 = 3
      · rw [if_pos e3, if_pos e3]
        by_cases e4 : 0 ≤ x.2 ∧ x.2 ≤ m.plains - 1
        · rw [if_pos e4, if_pos e4]
          exact .inr ⟨_, _, rfl, rfl, ⟨h.len, h.left, hc.inn _ (by omega)⟩⟩
        · rw [if_neg e4, if_neg e4]; exact .inl ⟨rfl, rfl⟩
      · rw [if_neg e3, if_neg e3]; exact .inl ⟨rfl, rfl⟩
theorem sim_run {m : Mo} (hm : ModOk m) : ∀ (w : List (Int × Int)) (s t : Int × List Int), RGood m (ReachR m) s → RGood m (ReachR m) t → Sim m s t → (runM m w s = none ∧ runM m w t = none) ∨ ∃ s' t', runM m w s = some s' ∧ runM m w t = some t' ∧ Sim m s' t' ∧ RGood m (ReachR m) s' ∧ RGood m (ReachR m) t'
  | [], s, t, hs, ht, h => .inr ⟨s, t, rfl, rfl, h, hs, ht⟩
  | x :: w, s, t, hs, ht, h => by
    have hR := reachR_closed hm
    unfold runM
    rcases sim_step hm hs ht h x with ⟨h1, h2⟩ | ⟨s', t', h1, h2, h3⟩
    · rw [h1, h2]; exact .inl ⟨rfl, rfl⟩
    · rw [h1, h2]
      exact sim_run hm w s' t' (step_good hm hR hs h1) (step_good hm hR ht h2) h3
def reEntry (m : Mo) (x : Int) : Mo := { m with entry := m.entry.set 0 x }
theorem reEntry_run {m : Mo} {x : Int} : ∀ (w : List (Int × Int)) s, runM (reEntry m x) w s = runM m w s := by
  intro w
  induction w with
  | nil => intro s; rfl
  | cons y w ih =>
    intro s
    have : stepF (reEntry m x) s y = stepF m s y := by
      unfold stepF reEntry
      simp only [List.length_set]
      split
      · split
        · rename_i h
          have e : (m.entry.set 0 x).getD (y.2 + 1).toNat 0 = m.entry.getD (y.2 + 1).toNat 0 := by
            rw [List.getD_eq_getElem?_getD, List.getElem?_set_ne (by omega), ← List.getD_eq_getElem?_getD]
          rw [e]
        · rfl
      · rfl
    unfold runM
    rw [this]
    cases stepF m s y with
    | none => rfl
    | some t => exact ih t
theorem reEntry_ok {m : Mo} (hm : ModOk m) {x : Int} (h0 : 0 ≤ x) (h1 : x < (m.of.length : Int)) (hz : m.of.getD x.toNat 0 = 0) : ModOk (reEntry m x) := by
  have hk := hm.k
  refine ⟨hm.pl, hm.cl, hm.n, by simpa [reEntry] using hm.k, hm.fl, hm.il, hm.ll, hm.rl, fun p hp => by simpa [reEntry] using hm.of p hp, fun i hi => ?_, hm.inn, hm.low0, hm.low1, hm.ret0, hm.ret1⟩
  simp only [reEntry, List.length_set] at hi ⊢
  by_cases e : i = 0
  · subst e
    have : (m.entry.set 0 x).getD 0 0 = x := by rw [List.getD_eq_getElem?_getD, List.getElem?_set_self hk.1]; rfl
    rw [this]
    exact ⟨⟨h0, h1⟩, hz⟩
  · have : (m.entry.set 0 x).getD i 0 = m.entry.getD i 0 := by rw [List.getD_eq_getElem?_getD, List.getElem?_set_ne (by omega), ← List.getD_eq_getElem?_getD]
    rw [this]
    exact hm.entry i hi
theorem takes_apart {m : Mo} (hm : ModOk m) {x y : Int} (hx : 0 ≤ x ∧ x < (m.of.length : Int)) (hy : 0 ≤ y ∧ y < (m.of.length : Int)) (hc0 : 0 ≤ (classesF m).getD x.toNat 0) (hc : (classesF m).getD x.toNat 0 = (classesF m).getD y.toNat 0) (hz : m.of.getD x.toNat 0 = 0) (w : List (Int × Int)) : takesF (reEntry m x) w = takesF (reEntry m y) w := by
  have r1 := (classesF_pos hm (p := x.toNat) (by omega)).1 hc0
  have r2 := (classesF_pos hm (p := y.toNat) (by omega)).1 (by omega)
  have hcg := classesF_cong hm r1 r2 hc
  have hz2 : m.of.getD y.toNat 0 = 0 := by rw [← hcg.of]; exact hz
  have m1 := modF_iff.2 (reEntry_ok hm hx.1 hx.2 hz)
  have m2 := modF_iff.2 (reEntry_ok hm hy.1 hy.2 hz2)
  have hk := hm.k
  have e1 : ∀ z, (reEntry m z).entry.getD 0 0 = z := fun z => by unfold reEntry; rw [List.getD_eq_getElem?_getD, List.getElem?_set_self hk.1]; rfl
  have good : ∀ z : Int, (0 ≤ z ∧ z < (m.of.length : Int)) → (reachedF m).getD z.toNat false = true → m.of.getD z.toNat 0 = 0 → RGood m (ReachR m) (z, []) := fun z hz hr h0 => by
    refine ⟨fun u hu => ?_, fun i hi => ?_⟩
    · rw [List.nil_append, List.mem_singleton] at hu; subst hu; exact ⟨hz, hz.1, hr⟩
    · simp only [List.nil_append, List.length_singleton] at hi
      have : i = 0 := by omega
      subst this
      simpa using h0
  unfold takesF
  rw [m1, m2, e1, e1, reEntry_run, reEntry_run]
  simp only [Bool.true_and]
  rcases sim_run hm w (x, []) (y, []) (good x hx r1 hz) (good y hy r2 hz2) ⟨rfl, fun i hi => by simp at hi, hc⟩ with ⟨h1, h2⟩ | ⟨s, t, h1, h2, h3, h4, h5⟩
  · rw [h1, h2]
  · rw [h1, h2]
    exact (classesF_cong hm h4.at.2.1.2 h5.at.2.1.2 h3.at').fin
end Go.Am
