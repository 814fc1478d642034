import Derived.Test.YtjgbcpagfghfnaaQWM49
set_option linter.unusedVariables false
set_option linter.unusedSimpArgs false
set_option linter.unnecessarySimpa false
namespace Go.Am
structure CongD (m : Mo) (d : Nat → Int) (p q : Nat) : Prop where
  of : m.of.getD p 0 = m.of.getD q 0
  fin : m.final.getD p false = m.final.getD q false
  inn : ∀ i : Nat, i < m.plains.toNat → d ((m.inn.getD p []).getD i 0).toNat = d ((m.inn.getD q []).getD i 0).toNat
  low : ∀ i : Nat, i < (m.low.getD p []).length → d ((m.low.getD p []).getD i 0).toNat = d ((m.low.getD q []).getD i 0).toNat
  above : m.of.getD p 0 ≠ 0 → ∀ j x : Nat, j < m.closings.toNat → (reachedF m).getD x false = true → d (((m.ret.getD p []).getD j []).getD x 0).toNat = d (((m.ret.getD q []).getD j []).getD x 0).toNat
  below : ∀ j x : Nat, j < m.closings.toNat → (reachedF m).getD x false = true → m.of.getD x 0 ≠ 0 → d (((m.ret.getD x []).getD j []).getD p 0).toNat = d (((m.ret.getD x []).getD j []).getD q 0).toNat
theorem rank_forth {is : List Bool} {u : Nat} (h : u < (leastsL (rankL is)).length) : ∃ x, is.getD x false = true ∧ rankN is x = u ∧ (leastsL (rankL is)).getD u 0 = (x : Int) := by
  have hl : (rankL is).length = is.length := by simp [rankL]
  obtain ⟨⟨h1, h2⟩, h3⟩ := leastL_ok (rankL is) (rankL is).length (Nat.le_refl _) _ h
  have e : leastsL (rankL is) = leastL (rankL is) (rankL is).length := rfl
  rw [e]
  generalize (leastL (rankL is) (rankL is).length).getD u 0 = x at *
  have hx : x.toNat < is.length := by omega
  have h4 : is.getD x.toNat false = true := (rank_pos hx).1 (by omega)
  rw [rankL_get hx, h4] at h3
  simp only [if_true] at h3
  exact ⟨x.toNat, h4, by omega, by omega⟩
theorem classesF_coarse {m : Mo} (hm : ModOk m) {d : Nat → Int} (hd : ∀ p q, (reachedF m).getD p false = true → (reachedF m).getD q false = true → d p = d q → CongD m d p q) {p q : Nat} (hp : (reachedF m).getD p false = true) (hq : (reachedF m).getD q false = true) (h : d p = d q) : (classesF m).getD p 0 = (classesF m).getD q 0 := by
  have hl := reachedF_len hm.st
  have hb := bare_ok hm
  have hcl := reached_closed hm.st
  have hbl : (bareF m).of.length = (leastsL (rankL (reachedF m))).length := by simp [bareF, mergedF]
  have eof : ∀ {x : Nat}, (reachedF m).getD x false = true → (bareF m).of.getD (rankN (reachedF m) x) 0 = m.of.getD x 0 := fun hx => by
    obtain ⟨r, b⟩ := rank_back hx
    simp only [bareF, mergedF]
    rw [map_getD _ _ r _ 0, b, Int.toNat_natCast]
  have efin : ∀ {x : Nat}, (reachedF m).getD x false = true → (bareF m).final.getD (rankN (reachedF m) x) false = m.final.getD x false := fun hx => by
    obtain ⟨r, b⟩ := rank_back hx
    simp only [bareF, mergedF]
    rw [map_getD _ _ r _ 0, b, Int.toNat_natCast]
  have einn : ∀ {x : Nat}, (reachedF m).getD x false = true → (bareF m).inn.getD (rankN (reachedF m) x) [] = pickL (rankL (reachedF m)) (m.inn.getD x []) := fun hx => by
    obtain ⟨r, b⟩ := rank_back hx
    simp only [bareF, mergedF]
    rw [map_getD _ _ r _ 0, b, Int.toNat_natCast]
  have elow : ∀ {x : Nat}, (reachedF m).getD x false = true → (bareF m).low.getD (rankN (reachedF m) x) [] = pickL (rankL (reachedF m)) (m.low.getD x []) := fun hx => by
    obtain ⟨r, b⟩ := rank_back hx
    simp only [bareF, mergedF]
    rw [map_getD _ _ r _ 0, b, Int.toNat_natCast]
  have eret : ∀ {x j y : Nat}, (reachedF m).getD x false = true → (reachedF m).getD y false = true → j < (m.ret.getD x []).length → (((bareF m).ret.getD (rankN (reachedF m) x) []).getD j []).getD (rankN (reachedF m) y) 0 = (rankL (reachedF m)).getD (((m.ret.getD x []).getD j []).getD y 0).toNat 0 := fun {x j y} hx hy hj => by
    obtain ⟨r, b⟩ := rank_back hx
    obtain ⟨r2, b2⟩ := rank_back hy
    simp only [bareF, mergedF]
    rw [map_getD _ _ r _ 0, b, Int.toNat_natCast, map_getD _ _ hj _ [], pickL_get (by rw [pickL_len]; exact r2), pickL_get r2, b2, Int.toNat_natCast]
  have hnn : ∀ {x : Nat}, (reachedF m).getD x false = true → x < m.of.length := fun hx => by have := getD_lt_len hx; omega
  obtain ⟨d', hd'⟩ : ∃ d' : Nat → Int, ∀ u, d' u = d ((leastsL (rankL (reachedF m))).getD u 0).toNat := ⟨_, fun _ => rfl⟩
  have dr : ∀ {x : Nat}, (reachedF m).getD x false = true → d' (rankN (reachedF m) x) = d x := fun hx => by rw [hd', (rank_back hx).2, Int.toNat_natCast]
  have key : ∀ {x : Int}, (reachedF m).getD x.toNat false = true → d' ((rankL (reachedF m)).getD x.toNat 0).toNat = d x.toNat := fun {x} hx => by
    rw [rankL_get (getD_lt_len hx), hx]
    simp only [if_true]
    rw [Int.toNat_natCast, dr hx]
  have hco := classesOf_coarse hb (d := d') (fun u v hu hv huv => by
    obtain ⟨p, hp, rfl, -⟩ := rank_forth (by omega : u < (leastsL (rankL (reachedF m))).length)
    obtain ⟨q, hq, rfl, -⟩ := rank_forth (by omega : v < (leastsL (rankL (reachedF m))).length)
    rw [dr hp, dr hq] at huv
    have hc := hd p q hp hq huv
    refine ⟨by rw [eof hp, eof hq]; exact hc.of, by rw [efin hp, efin hq]; exact hc.fin, fun i hi => ?_, fun i hi => ?_, fun hz j x hj hx => ?_, fun j x hj hx hz => ?_⟩
    · replace hi : i < m.plains.toNat := hi
      have l1 := hm.inn p (hnn hp)
      have l2 := hm.inn q (hnn hq)
      have m1 := getD_memI (l := m.inn.getD p []) (i := i) (by omega)
      have m2 := getD_memI (l := m.inn.getD q []) (i := i) (by omega)
      rw [einn hp, einn hq, pickL_get (by omega), pickL_get (by omega), key (hcl.inn p hp _ m1), key (hcl.inn q hq _ m2)]
      exact hc.inn i hi
    · rw [elow hp, pickL_len] at hi
      have hi2 : i < (m.low.getD q []).length := by
        by_cases hz : m.of.getD p 0 = 0
        · have := (hm.low0 p (hnn hp) hz).1; have := (hm.low0 q (hnn hq) (by rw [← hc.of]; exact hz)).1; omega
        · rw [hm.low1 p (hnn hp) hz] at hi; simp at hi
      have m1 := getD_memI (l := m.low.getD p []) (i := i) (by omega)
      have m2 := getD_memI (l := m.low.getD q []) (i := i) (by omega)
      rw [elow hp, elow hq, pickL_get (by omega), pickL_get (by omega), key (hcl.low p hp _ m1), key (hcl.low q hq _ m2)]
      exact hc.low i hi
    · rw [eof hp] at hz
      replace hj : j < m.closings.toNat := hj
      obtain ⟨x, hX, rfl, -⟩ := rank_forth (by omega : x < (leastsL (rankL (reachedF m))).length)
      have l1 := (hm.ret1 p (hnn hp) hz).1
      have l2 := (hm.ret1 q (hnn hq) (by rw [← hc.of]; exact hz)).1
      rw [eret hp hX (by omega), eret hq hX (by omega), key (hcl.ret p x hp hX _ (ret_mem (by omega))), key (hcl.ret q x hq hX _ (ret_mem (by omega)))]
      exact hc.above hz j x hj hX
    · replace hj : j < m.closings.toNat := hj
      obtain ⟨x, hX, rfl, -⟩ := rank_forth (by omega : x < (leastsL (rankL (reachedF m))).length)
      rw [eof hX] at hz
      have l1 := (hm.ret1 x (hnn hX) hz).1
      rw [eret hX hp (by omega), eret hX hq (by omega), key (hcl.ret x p hX hp _ (ret_mem (by omega))), key (hcl.ret x q hX hq _ (ret_mem (by omega)))]
      exact hc.below j x hj hX hz)
  rw [classesF_get hm hp, classesF_get hm hq]
  exact hco _ _ (by rw [hbl]; exact (rank_back hp).1) (by rw [hbl]; exact (rank_back hq).1) (by rw [dr hp, dr hq]; exact h)
structure Cover (m x : Mo) (π : Nat → Nat) : Prop where
  lt : ∀ s, s < x.of.length → π s < m.of.length
  pl : x.plains = m.plains
  cl : x.closings = m.closings
  of : ∀ s, s < x.of.length → x.of.getD s 0 = m.of.getD (π s) 0
  fin : ∀ s, s < x.of.length → x.final.getD s false = m.final.getD (π s) false
  elen : x.entry.length = m.entry.length
  entry : ∀ i, i < m.entry.length → π (x.entry.getD i 0).toNat = (m.entry.getD i 0).toNat
  inn : ∀ s i, s < x.of.length → i < m.plains.toNat → π ((x.inn.getD s []).getD i 0).toNat = ((m.inn.getD (π s) []).getD i 0).toNat
  low : ∀ s i, s < x.of.length → i < (x.low.getD s []).length → π ((x.low.getD s []).getD i 0).toNat = ((m.low.getD (π s) []).getD i 0).toNat
  ret : ∀ s t j, s < x.of.length → t < x.of.length → x.of.getD s 0 ≠ 0 → j < m.closings.toNat → π (((x.ret.getD s []).getD j []).getD t 0).toNat = (((m.ret.getD (π s) []).getD j []).getD (π t) 0).toNat
theorem mem_getD {l : List Int} {y : Int} (h : y ∈ l) : ∃ i, i < l.length ∧ y = l.getD i 0 := by
  obtain ⟨i, hi, rfl⟩ := List.getElem_of_mem h
  exact ⟨i, hi, by rw [List.getD_eq_getElem?_getD, List.getElem?_eq_getElem hi]; rfl⟩
theorem mem_col {rows : List (List Int)} {q : Nat} {y : Int} (h : y ∈ colL rows q) : ∃ j, j < rows.length ∧ y = (rows.getD j []).getD q 0 := by
  unfold colL at h
  obtain ⟨r, hr, rfl⟩ := List.mem_map.1 h
  obtain ⟨j, hj, rfl⟩ := List.getElem_of_mem hr
  exact ⟨j, hj, by rw [List.getD_eq_getElem?_getD (l := rows), List.getElem?_eq_getElem hj]; rfl⟩
theorem reached_lt {m : Mo} (hm : ModOk m) {p : Nat} (h : (reachedF m).getD p false = true) : p < m.of.length := by
  have := getD_lt_len h; have := reachedF_len hm.st; omega
theorem low_len {m x : Mo} {π : Nat → Nat} (hm : ModOk m) (hx : ModOk x) (hc : Cover m x π) {s : Nat} (hs : s < x.of.length) : (x.low.getD s []).length = (m.low.getD (π s) []).length := by
  have ho := hc.of s hs
  by_cases hz : x.of.getD s 0 = 0
  · have h1 := (hx.low0 s hs hz).1
    have h2 := (hm.low0 (π s) (hc.lt s hs) (by rw [← ho]; exact hz)).1
    have := hc.cl
    omega
  · rw [hx.low1 s hs hz, hm.low1 (π s) (hc.lt s hs) (by rw [← ho]; exact hz)]
theorem cover_down {m x : Mo} {π : Nat → Nat} (hm : ModOk m) (hx : ModOk x) (hc : Cover m x π) {s : Nat} (h : (reachedF x).getD s false = true) : (reachedF m).getD (π s) false = true := by
  have hcl := reached_closed hm.st
  have hst := hx.st
  have := reached_least hst (T := fun p => 0 ≤ p ∧ p < (x.of.length : Int) ∧ (reachedF m).getD (π p.toNat) false = true) ⟨?_, ?_, ?_, ?_⟩ h
  · have h3 := this.2.2
    rwa [Int.toNat_natCast] at h3
  · intro p hp
    refine ⟨(hst.entry p hp).1, (hst.entry p hp).2, ?_⟩
    obtain ⟨i, hi, rfl⟩ := mem_getD hp
    have hi2 : i < m.entry.length := by have := hc.elen; omega
    rw [hc.entry i hi2]
    exact hcl.entry _ (getD_memI hi2)
  · intro p hp y hy
    refine ⟨(hst.inn _ y hy).1, (hst.inn _ y hy).2, ?_⟩
    obtain ⟨i, hi, rfl⟩ := mem_getD hy
    have hs : p.toNat < x.of.length := by omega
    have l1 := (hx.inn _ hs).1
    have l2 := (hm.inn _ (hc.lt _ hs)).1
    have hpl := hc.pl
    rw [hc.inn _ i hs (by omega)]
    exact hcl.inn _ hp.2.2 _ (getD_memI (by omega))
  · intro p hp y hy
    refine ⟨(hst.low _ y hy).1, (hst.low _ y hy).2, ?_⟩
    obtain ⟨i, hi, rfl⟩ := mem_getD hy
    have hs : p.toNat < x.of.length := by omega
    have hll := low_len hm hx hc hs
    rw [hc.low _ i hs hi]
    exact hcl.low _ hp.2.2 _ (getD_memI (by omega))
  · intro p q hp hq q0 q1 y hy
    have ht : q.toNat < x.of.length := by omega
    refine ⟨(hst.ret _ _ ht y hy).1, (hst.ret _ _ ht y hy).2, ?_⟩
    obtain ⟨j, hj, rfl⟩ := mem_col hy
    have hs : p.toNat < x.of.length := by omega
    have ho := hc.of _ hs
    have hcc := hc.cl
    by_cases hz : x.of.getD p.toNat 0 = 0
    · rw [hx.ret0 _ hs hz] at hj; simp at hj
    · have l1 := (hx.ret1 _ hs hz).1
      have l2 := (hm.ret1 _ (hc.lt _ hs) (by rw [← ho]; exact hz)).1
      rw [hc.ret _ _ j hs ht hz (by omega)]
      exact hcl.ret _ _ hp.2.2 hq.2.2 _ (ret_mem (by omega))
theorem cover_up {m x : Mo} {π : Nat → Nat} (hm : ModOk m) (hx : ModOk x) (hc : Cover m x π) {p : Nat} (h : (reachedF m).getD p false = true) : ∃ s, (reachedF x).getD s false = true ∧ π s = p := by
  have hcl := reached_closed hx.st
  have hst := hm.st
  have := reached_least hst (T := fun p => 0 ≤ p ∧ p < (m.of.length : Int) ∧ ∃ s, (reachedF x).getD s false = true ∧ π s = p.toNat) ⟨?_, ?_, ?_, ?_⟩ h
  · have h3 := this.2.2
    rwa [Int.toNat_natCast] at h3
  · intro p hp
    refine ⟨(hst.entry p hp).1, (hst.entry p hp).2, ?_⟩
    obtain ⟨i, hi, rfl⟩ := mem_getD hp
    exact ⟨_, hcl.entry _ (getD_memI (by have := hc.elen; omega)), hc.entry i hi⟩
  · intro p hp y hy
    refine ⟨(hst.inn _ y hy).1, (hst.inn _ y hy).2, ?_⟩
    obtain ⟨s, hs1, hs2⟩ := hp.2.2
    have hs := reached_lt hx hs1
    obtain ⟨i, hi, rfl⟩ := mem_getD hy
    have l1 := (hx.inn _ hs).1
    have l2 := (hm.inn _ (hc.lt _ hs)).1
    have hpl := hc.pl
    rw [← hs2] at hi ⊢
    exact ⟨_, hcl.inn _ hs1 _ (getD_memI (by omega)), hc.inn s i hs (by omega)⟩
  · intro p hp y hy
    refine ⟨(hst.low _ y hy).1, (hst.low _ y hy).2, ?_⟩
    obtain ⟨s, hs1, hs2⟩ := hp.2.2
    have hs := reached_lt hx hs1
    obtain ⟨i, hi, rfl⟩ := mem_getD hy
    have hll := low_len hm hx hc hs
    rw [← hs2] at hi ⊢
    exact ⟨_, hcl.low _ hs1 _ (getD_memI (by omega)), hc.low s i hs (by omega)⟩
  · intro p q hp hq q0 q1 y hy
    have ht0 : q.toNat < m.of.length := by omega
    refine ⟨(hst.ret _ _ ht0 y hy).1, (hst.ret _ _ ht0 y hy).2, ?_⟩
    obtain ⟨s, hs1, hs2⟩ := hp.2.2
    obtain ⟨t, ht1, ht2⟩ := hq.2.2
    have hs := reached_lt hx hs1
    have ht := reached_lt hx ht1
    obtain ⟨j, hj, rfl⟩ := mem_col hy
    have ho := hc.of _ hs
    have hcc := hc.cl
    rw [← hs2] at hj ⊢
    rw [← ht2]
    by_cases hz : x.of.getD s 0 = 0
    · rw [hm.ret0 _ (hc.lt _ hs) (by rw [← ho]; exact hz)] at hj; simp at hj
    · have l1 := (hx.ret1 _ hs hz).1
      have l2 := (hm.ret1 _ (hc.lt _ hs) (by rw [← ho]; exact hz)).1
      exact ⟨_, hcl.ret _ _ hs1 ht1 _ (ret_mem (by omega)), hc.ret s t j hs ht hz (by omega)⟩
theorem cover_same {m x : Mo} {π : Nat → Nat} (hm : ModOk m) (hx : ModOk x) (hc : Cover m x π) {s t : Nat} (hs : (reachedF x).getD s false = true) (ht : (reachedF x).getD t false = true) (h : (classesF m).getD (π s) 0 = (classesF m).getD (π t) 0) : (classesF x).getD s 0 = (classesF x).getD t 0 := by
  refine classesF_coarse hx (d := fun s => (classesF m).getD (π s) 0) (fun p q hp hq e => ?_) hs ht h
  have c := classesF_cong hm (cover_down hm hx hc hp) (cover_down hm hx hc hq) e
  have lp := reached_lt hx hp
  have lq := reached_lt hx hq
  have hpl := hc.pl
  have hcc := hc.cl
  have hof : x.of.getD p 0 = x.of.getD q 0 := by rw [hc.of p lp, hc.of q lq]; exact c.of
  refine ⟨hof, by rw [hc.fin p lp, hc.fin q lq]; exact c.fin, fun i hi => ?_, fun i hi => ?_, fun hz j y hj hy => ?_, fun j y hj hy hz => ?_⟩
  · show (classesF m).getD (π _) 0 = (classesF m).getD (π _) 0
    rw [hc.inn p i lp (by omega), hc.inn q i lq (by omega)]
    exact c.inn i (by omega)
  · show (classesF m).getD (π _) 0 = (classesF m).getD (π _) 0
    have hi2 : i < (x.low.getD q []).length := by
      by_cases hz : x.of.getD p 0 = 0
      · have := (hx.low0 p lp hz).1; have := (hx.low0 q lq (by rw [← hof]; exact hz)).1; omega
      · rw [hx.low1 p lp hz] at hi; simp at hi
    rw [hc.low p i lp hi, hc.low q i lq hi2]
    exact c.low i (by rw [← low_len hm hx hc lp]; exact hi)
  · show (classesF m).getD (π _) 0 = (classesF m).getD (π _) 0
    have ly := reached_lt hx hy
    rw [hc.ret p y j lp ly hz (by omega), hc.ret q y j lq ly (by rw [← hof]; exact hz) (by omega)]
    exact c.above (by rw [← hc.of p lp]; exact hz) j _ (by omega) (cover_down hm hx hc hy)
  · show (classesF m).getD (π _) 0 = (classesF m).getD (π _) 0
    have ly := reached_lt hx hy
    rw [hc.ret y p j ly lp hz (by omega), hc.ret y q j ly lq hz (by omega)]
    exact c.below j _ (by omega) (cover_down hm hx hc hy) (by rw [← hc.of y ly]; exact hz)
theorem cover_same' {m x : Mo} {π : Nat → Nat} (hm : ModOk m) (hx : ModOk x) (hc : Cover m x π) {s t : Nat} (hs : (reachedF x).getD s false = true) (ht : (reachedF x).getD t false = true) (h : (classesF x).getD s 0 = (classesF x).getD t 0) : (classesF m).getD (π s) 0 = (classesF m).getD (π t) 0 := by
  have hex : ∀ p, ∃ v : Int, ∀ s, (reachedF x).getD s false = true → π s = p → (classesF x).getD s 0 = v := fun p => by
    by_cases hp : ∃ s, (reachedF x).getD s false = true ∧ π s = p
    · obtain ⟨s, h1, h2⟩ := hp
      exact ⟨_, fun t h3 h4 => cover_same hm hx hc h3 h1 (by rw [h2, h4])⟩
    · exact ⟨0, fun s h1 h2 => absurd ⟨s, h1, h2⟩ hp⟩
  obtain ⟨d, hd⟩ : ∃ d : Nat → Int, ∀ p s, (reachedF x).getD s false = true → π s = p → (classesF x).getD s 0 = d p := ⟨fun p => Classical.choose (hex p), fun p => Classical.choose_spec (hex p)⟩
  have hcl := reached_closed hx.st
  refine classesF_coarse hm (d := d) (fun p q hp hq e => ?_) (cover_down hm hx hc hs) (cover_down hm hx hc ht) (by rw [← hd _ s hs rfl, ← hd _ t ht rfl]; exact h)
  obtain ⟨u, hu, rfl⟩ := cover_up hm hx hc hp
  obtain ⟨v, hv, rfl⟩ := cover_up hm hx hc hq
  rw [← hd _ u hu rfl, ← hd _ v hv rfl] at e
  have c := classesF_cong hx hu hv e
  have lu := reached_lt hx hu
  have lv := reached_lt hx hv
  have hpl := hc.pl
  have hcc := hc.cl
  have hof : m.of.getD (π u) 0 = m.of.getD (π v) 0 := by rw [← hc.of u lu, ← hc.of v lv]; exact c.of
  refine ⟨hof, by rw [← hc.fin u lu, ← hc.fin v lv]; exact c.fin, fun i hi => ?_, fun i hi => ?_, fun hz j y hj hy => ?_, fun j y hj hy hz => ?_⟩
  · have l1 := (hx.inn _ lu).1
    have l2 := (hx.inn _ lv).1
    rw [← hc.inn u i lu hi, ← hc.inn v i lv hi, ← hd _ _ (hcl.inn u hu _ (getD_memI (i := i) (by omega))) rfl, ← hd _ _ (hcl.inn v hv _ (getD_memI (i := i) (by omega))) rfl]
    exact c.inn i (by omega)
  · have e1 := low_len hm hx hc lu
    have e2 := low_len hm hx hc lv
    have hi2 : i < (m.low.getD (π v) []).length := by
      by_cases hz : m.of.getD (π u) 0 = 0
      · have := (hm.low0 _ (hc.lt _ lu) hz).1; have := (hm.low0 _ (hc.lt _ lv) (by rw [← hof]; exact hz)).1; omega
      · rw [hm.low1 _ (hc.lt _ lu) hz] at hi; simp at hi
    rw [← hc.low u i lu (by omega), ← hc.low v i lv (by omega), ← hd _ _ (hcl.low u hu _ (getD_memI (i := i) (by omega))) rfl, ← hd _ _ (hcl.low v hv _ (getD_memI (i := i) (by omega))) rfl]
    exact c.low i (by omega)
  · obtain ⟨y, hY, rfl⟩ := cover_up hm hx hc hy
    have ly := reached_lt hx hY
    have hzu : x.of.getD u 0 ≠ 0 := by rw [hc.of u lu]; exact hz
    have hzv : x.of.getD v 0 ≠ 0 := by rw [hc.of v lv, ← hof]; exact hz
    have l1 := (hx.ret1 u lu hzu).1
    have l2 := (hx.ret1 v lv hzv).1
    rw [← hc.ret u y j lu ly hzu hj, ← hc.ret v y j lv ly hzv hj, ← hd _ _ (hcl.ret u y hu hY _ (ret_mem (j := j) (by omega))) rfl, ← hd _ _ (hcl.ret v y hv hY _ (ret_mem (j := j) (by omega))) rfl]
    exact c.above hzu j y (by omega) hY
  · obtain ⟨y, hY, rfl⟩ := cover_up hm hx hc hy
    have ly := reached_lt hx hY
    have hzy : x.of.getD y 0 ≠ 0 := by rw [hc.of y ly]; exact hz
    have l1 := (hx.ret1 y ly hzy).1
    rw [← hc.ret y u j ly lu hzy hj, ← hc.ret y v j ly lv hzy hj, ← hd _ _ (hcl.ret y u hY hu _ (ret_mem (j := j) (by omega))) rfl, ← hd _ _ (hcl.ret y v hY hv _ (ret_mem (j := j) (by omega))) rfl]
    exact c.below j y (by omega) hY hzy
theorem class_lt {m : Mo} (hm : ModOk m) {p : Nat} (h : (reachedF m).getD p false = true) : 0 ≤ (classesF m).getD p 0 ∧ (classesF m).getD p 0 < ((smallF m).of.length : Int) := by
  obtain ⟨c1, c2, -⟩ := classesOf_ok (bare_ok hm)
  have hbl : (bareF m).of.length = (leastsL (rankL (reachedF m))).length := by simp [bareF, mergedF]
  have hk : (smallF m).of.length = numD (classesOfF (bareF m)) := by
    rw [← leasts_can c1]; simp [smallF, mergedF]
  rw [classesF_get hm h, hk]
  exact can_pos c1 (by rw [c2, hbl]; exact (rank_back h).1)
theorem class_onto {m : Mo} (hm : ModOk m) {k : Nat} (h : k < (smallF m).of.length) : ∃ p, (reachedF m).getD p false = true ∧ (classesF m).getD p 0 = (k : Int) := by
  have hbl : (bareF m).of.length = (leastsL (rankL (reachedF m))).length := by simp [bareF, mergedF]
  have hk : (smallF m).of.length = (leastsL (classesOfF (bareF m))).length := by simp [smallF, mergedF]
  obtain ⟨h1, h2, h3⟩ := (classes_ok (bare_ok hm)).least (j := k) (by omega)
  obtain ⟨p, hp, hr, -⟩ := rank_forth (by omega : ((leastsL (classesOfF (bareF m))).getD k 0).toNat < (leastsL (rankL (reachedF m))).length)
  exact ⟨p, hp, by rw [classesF_get hm hp, hr]; exact h3⟩
theorem inj_le {a b : Nat} {R : Nat → Nat → Prop} (h : ∀ k, k < a → ∃ l, l < b ∧ R k l) (hi : ∀ k k' l, k < a → k' < a → R k l → R k' l → k = k') : a ≤ b := by
  have hex : ∀ k, ∃ l, k < a → l < b ∧ R k l := fun k => by
    by_cases hk : k < a
    · obtain ⟨l, hl⟩ := h k hk; exact ⟨l, fun _ => hl⟩
    · exact ⟨0, fun q => absurd q hk⟩
  obtain ⟨f, hf⟩ : ∃ f : Nat → Nat, ∀ k, k < a → f k < b ∧ R k (f k) := ⟨fun k => Classical.choose (hex k), fun k => Classical.choose_spec (hex k)⟩
  have hn : ((List.range a).map f).Nodup := by
    unfold List.Nodup
    rw [List.pairwise_map]
    refine List.Pairwise.imp_of_mem ?_ List.nodup_range
    intro k k' hk hk' hne e
    have q1 := List.mem_range.1 hk
    have q2 := List.mem_range.1 hk'
    exact hne (hi k k' (f k) q1 q2 (hf k q1).2 (by rw [e]; exact (hf k' q2).2))
  have := nodup_le b _ hn (fun y hy => by
    obtain ⟨k, hk, rfl⟩ := List.mem_map.1 hy
    exact (hf k (List.mem_range.1 hk)).1)
  simpa using this
theorem cover_small {m x : Mo} {π : Nat → Nat} (hm : ModOk m) (hx : ModOk x) (hc : Cover m x π) : (smallF x).of.length = (smallF m).of.length := by
  refine Nat.le_antisymm (inj_le (R := fun k l => ∃ s, (reachedF x).getD s false = true ∧ (classesF x).getD s 0 = (k : Int) ∧ (classesF m).getD (π s) 0 = (l : Int)) (fun k hk => ?_) ?_) (inj_le (R := fun k l => ∃ s, (reachedF x).getD s false = true ∧ (classesF m).getD (π s) 0 = (k : Int) ∧ (classesF x).getD s 0 = (l : Int)) (fun k hk => ?_) ?_)
  · obtain ⟨s, hs, e⟩ := class_onto hx hk
    have := class_lt hm (cover_down hm hx hc hs)
    exact ⟨((classesF m).getD (π s) 0).toNat, by omega, s, hs, e, by omega⟩
  · rintro k k' l - - ⟨s, hs, e1, e2⟩ ⟨t, ht, e3, e4⟩
    have := cover_same hm hx hc hs ht (by rw [e2, e4])
    omega
  · obtain ⟨p, hp, e⟩ := class_onto hm hk
    obtain ⟨s, hs, rfl⟩ := cover_up hm hx hc hp
    have := class_lt hx hs
    exact ⟨((classesF x).getD s 0).toNat, by omega, s, hs, e, by omega⟩
  · rintro k k' l - - ⟨s, hs, e1, e2⟩ ⟨t, ht, e3, e4⟩
    have := cover_same' hm hx hc hs ht (by rw [e2, e4])
    omega
end Go.Am
namespace Go.Am
def OverR (n : Nat) (l k : List Int) : Prop := l.length = k.length ∧ ∀ i : Nat, i < k.length → l.getD i 0 = k.getD i 0 ∨ l.getD i 0 = k.getD i 0 + n
def OverC (n : Nat) (l k : List Int) : Prop := l.length = 2 * n ∧ ∀ i : Nat, i < 2 * n → l.getD i 0 = k.getD (i % n) 0 ∨ l.getD i 0 = k.getD (i % n) 0 + n
structure Twice (m x : Mo) : Prop where
  pl : x.plains = m.plains
  cl : x.closings = m.closings
  of : x.of = m.of ++ m.of
  en : x.entry = m.entry
  fi : x.final = m.final ++ m.final
  il : x.inn.length = 2 * m.of.length
  ll : x.low.length = 2 * m.of.length
  rl : x.ret.length = 2 * m.of.length
  inn : ∀ s : Nat, s < 2 * m.of.length → OverR m.of.length (x.inn.getD s []) (m.inn.getD (s % m.of.length) [])
  low : ∀ s : Nat, s < 2 * m.of.length → OverR m.of.length (x.low.getD s []) (m.low.getD (s % m.of.length) [])
  ret : ∀ s : Nat, s < 2 * m.of.length → (x.ret.getD s []).length = (m.ret.getD (s % m.of.length) []).length ∧ ∀ j : Nat, j < (m.ret.getD (s % m.of.length) []).length → OverC m.of.length ((x.ret.getD s []).getD j []) ((m.ret.getD (s % m.of.length) []).getD j [])
theorem dbl_getD {α : Type} {l : List α} {d : α} {s : Nat} (h : s < 2 * l.length) : (l ++ l).getD s d = l.getD (s % l.length) d := by
  rw [List.getD_eq_getElem?_getD, List.getD_eq_getElem?_getD]
  by_cases h1 : s < l.length
  · rw [List.getElem?_append_left h1, Nat.mod_eq_of_lt h1]
  · rw [List.getElem?_append_right (by omega), Nat.mod_eq_sub_mod (by omega), Nat.mod_eq_of_lt (by omega)]
theorem add_toNat_mod {n : Nat} {y z : Int} (hn : 0 < n) (h0 : 0 ≤ y) (h1 : y < (n : Int)) (hz : z = y ∨ z = y + n) : (0 ≤ z ∧ z < ((2 * n : Nat) : Int)) ∧ z.toNat % n = y.toNat := by
  rcases hz with rfl | rfl
  · exact ⟨by omega, Nat.mod_eq_of_lt (by omega)⟩
  · refine ⟨by omega, ?_⟩
    rw [show (y + n).toNat = y.toNat + n by omega, Nat.add_mod_right, Nat.mod_eq_of_lt (by omega)]
theorem over_mem {n : Nat} {l k : List Int} (h : OverR n l k) {z : Int} (hz : z ∈ l) : ∃ y ∈ k, z = y ∨ z = y + n := by
  obtain ⟨i, hi, rfl⟩ := mem_getD hz
  have hk : i < k.length := by have := h.1; omega
  exact ⟨_, getD_memI hk, h.2 i hk⟩
theorem twice_ok {m x : Mo} (hm : ModOk m) (hn : m.of.length ≤ 30) (h : Twice m x) : ModOk x := by
  have hl : x.of.length = 2 * m.of.length := by rw [h.of, List.length_append]; omega
  have hn0 := hm.n.1
  have hlt : ∀ s, s % m.of.length < m.of.length := fun s => Nat.mod_lt _ (by omega)
  have hof : ∀ s, s < 2 * m.of.length → x.of.getD s 0 = m.of.getD (s % m.of.length) 0 := fun s hs => by rw [h.of, dbl_getD hs]
  have key : ∀ {y z : Int}, 0 ≤ y → y < (m.of.length : Int) → (z = y ∨ z = y + m.of.length) → (0 ≤ z ∧ z < (x.of.length : Int)) ∧ x.of.getD z.toNat 0 = m.of.getD y.toNat 0 := fun {y z} h0 h1 hz => by
    obtain ⟨a, b⟩ := add_toNat_mod hn0 h0 h1 hz
    refine ⟨by rw [hl]; exact a, ?_⟩
    rw [hof _ (by omega), b]
  refine ⟨by rw [h.pl]; exact hm.pl, by rw [h.cl]; exact hm.cl, by omega, by rw [h.en]; exact hm.k, by rw [h.fi, List.length_append, hm.fl]; omega, by rw [h.il]; omega, by rw [h.ll]; omega, by rw [h.rl]; omega, fun p hp => ?_, fun i hi => ?_, fun p hp => ?_, fun p hp hz => ?_, fun p hp hz => ?_, fun p hp hz => ?_, fun p hp hz => ?_⟩
  · rw [hl] at hp
    rw [hof p hp, h.en]
    exact hm.of _ (hlt p)
  · rw [h.en] at hi ⊢
    obtain ⟨⟨a, b⟩, c⟩ := hm.entry i hi
    obtain ⟨d, e⟩ := key a b (.inl rfl)
    exact ⟨d, by rw [e]; exact c⟩
  · rw [hl] at hp
    have o := h.inn p hp
    obtain ⟨a, b⟩ := hm.inn _ (hlt p)
    refine ⟨by rw [o.1, h.pl]; exact a, fun z hz => ?_⟩
    obtain ⟨y, hy, e⟩ := over_mem o hz
    obtain ⟨⟨c, d⟩, f⟩ := b y hy
    obtain ⟨g, k⟩ := key c d e
    exact ⟨g, by rw [k, hof p hp]; exact f⟩
  · rw [hl] at hp
    have o := h.low p hp
    rw [hof p hp] at hz
    obtain ⟨a, b⟩ := hm.low0 _ (hlt p) hz
    refine ⟨by rw [o.1, h.cl]; exact a, fun z hz => ?_⟩
    obtain ⟨y, hy, e⟩ := over_mem o hz
    obtain ⟨⟨c, d⟩, f⟩ := b y hy
    obtain ⟨g, k⟩ := key c d e
    exact ⟨g, by rw [k]; exact f⟩
  · rw [hl] at hp
    have o := h.low p hp
    rw [hof p hp] at hz
    have := hm.low1 _ (hlt p) hz
    rw [this] at o
    exact List.eq_nil_of_length_eq_zero o.1
  · rw [hl] at hp
    have o := (h.ret p hp).1
    rw [hof p hp] at hz
    have := hm.ret0 _ (hlt p) hz
    rw [this] at o
    exact List.eq_nil_of_length_eq_zero o
  · rw [hl] at hp
    obtain ⟨o1, o2⟩ := h.ret p hp
    rw [hof p hp] at hz
    obtain ⟨a, b⟩ := hm.ret1 _ (hlt p) hz
    refine ⟨by rw [o1, h.cl]; exact a, fun j hj => ?_⟩
    obtain ⟨c1, c2⟩ := o2 j (by omega)
    refine ⟨by rw [c1, hl], fun q hq => ?_⟩
    rw [hl] at hq
    obtain ⟨⟨d1, d2⟩, d3⟩ := (b j (by omega)).2 _ (hlt q)
    obtain ⟨e1, e2⟩ := key d1 d2 (c2 q hq)
    exact ⟨e1, by rw [e2, hof q hq]; exact d3⟩
theorem twice_cover {m x : Mo} (hm : ModOk m) (h : Twice m x) : Cover m x (· % m.of.length) := by
  have hl : x.of.length = 2 * m.of.length := by rw [h.of, List.length_append]; omega
  have hn0 := hm.n.1
  have hlt : ∀ s, s % m.of.length < m.of.length := fun s => Nat.mod_lt _ (by omega)
  have hof : ∀ s, s < 2 * m.of.length → x.of.getD s 0 = m.of.getD (s % m.of.length) 0 := fun s hs => by rw [h.of, dbl_getD hs]
  refine ⟨fun s _ => hlt s, h.pl, h.cl, fun s hs => hof s (by omega), fun s hs => ?_, by rw [h.en], fun i hi => ?_, fun s i hs hi => ?_, fun s i hs hi => ?_, fun s t j hs ht hz hj => ?_⟩
  · have hfl := hm.fl
    rw [h.fi, dbl_getD (by omega), hfl]
  · rw [h.en]
    obtain ⟨⟨a, b⟩, c⟩ := hm.entry i hi
    exact Nat.mod_eq_of_lt (by omega)
  · rw [hl] at hs
    obtain ⟨a, b⟩ := hm.inn _ (hlt s)
    have hi2 : i < (m.inn.getD (s % m.of.length) []).length := by omega
    obtain ⟨⟨c, d⟩, -⟩ := b _ (getD_memI hi2)
    exact (add_toNat_mod hn0 c d ((h.inn s hs).2 i hi2)).2
  · rw [hl] at hs
    have o := h.low s hs
    have hi2 : i < (m.low.getD (s % m.of.length) []).length := by have := o.1; omega
    by_cases hz : m.of.getD (s % m.of.length) 0 = 0
    · obtain ⟨⟨c, d⟩, -⟩ := (hm.low0 _ (hlt s) hz).2 _ (getD_memI hi2)
      exact (add_toNat_mod hn0 c d (o.2 i hi2)).2
    · rw [hm.low1 _ (hlt s) hz] at hi2
      exact absurd hi2 (by simp)
  · rw [hl] at hs ht
    rw [hof s hs] at hz
    obtain ⟨o1, o2⟩ := h.ret s hs
    obtain ⟨a, b⟩ := hm.ret1 _ (hlt s) hz
    have hj2 : j < (m.ret.getD (s % m.of.length) []).length := by omega
    obtain ⟨⟨d1, d2⟩, -⟩ := (b j hj2).2 _ (hlt t)
    exact (add_toNat_mod hn0 d1 d2 ((o2 j hj2).2 t ht)).2
def OverP (n : Nat) (l k : List Int) (i : Nat) : Prop := l.length = i ∧ ∀ j : Nat, j < i → l.getD j 0 = k.getD j 0 ∨ l.getD j 0 = k.getD j 0 + n
def OverQ (n : Nat) (l k : List Int) (i : Nat) : Prop := l.length = i ∧ ∀ j : Nat, j < i → l.getD j 0 = k.getD (j % n) 0 ∨ l.getD j 0 = k.getD (j % n) 0 + n
theorem snoc_getD {α : Type} {l : List α} {z d : α} {i j : Nat} (hl : l.length = i) (hj : j < i + 1) : (l ++ [z]).getD j d = if j = i then z else l.getD j d := by
  rw [List.getD_eq_getElem?_getD]
  split
  · subst_vars
    rw [List.getElem?_append_right (Nat.le_refl _)]
    simp
  · rw [List.getElem?_append_left (by omega), ← List.getD_eq_getElem?_getD]
theorem OverP.zero {n : Nat} {k : List Int} : OverP n [] k 0 := ⟨rfl, fun j hj => by omega⟩
theorem OverQ.zero {n : Nat} {k : List Int} : OverQ n [] k 0 := ⟨rfl, fun j hj => by omega⟩
theorem OverP.snoc {n : Nat} {l k : List Int} {i : Nat} {z : Int} (h : OverP n l k i) (hz : z = k.getD i 0 ∨ z = k.getD i 0 + n) : OverP n (l ++ [z]) k (i + 1) := by
  refine ⟨by rw [List.length_append, h.1]; rfl, fun j hj => ?_⟩
  rw [snoc_getD h.1 hj]
  split
  · subst_vars; exact hz
  · exact h.2 j (by omega)
theorem OverQ.snoc {n : Nat} {l k : List Int} {i : Nat} {z : Int} (h : OverQ n l k i) (hz : z = k.getD (i % n) 0 ∨ z = k.getD (i % n) 0 + n) : OverQ n (l ++ [z]) k (i + 1) := by
  refine ⟨by rw [List.length_append, h.1]; rfl, fun j hj => ?_⟩
  rw [snoc_getD h.1 hj]
  split
  · subst_vars; exact hz
  · exact h.2 j (by omega)
def OverL (n : Nat) (l k : List (List Int)) (i : Nat) : Prop := l.length = i ∧ ∀ j : Nat, j < i → OverC n (l.getD j []) (k.getD j [])
theorem OverL.zero {n : Nat} {k : List (List Int)} : OverL n [] k 0 := ⟨rfl, fun j hj => by omega⟩
theorem OverL.snoc {n : Nat} {l k : List (List Int)} {i : Nat} {z : List Int} (h : OverL n l k i) (hz : OverC n z (k.getD i [])) : OverL n (l ++ [z]) k (i + 1) := by
  refine ⟨by rw [List.length_append, h.1]; rfl, fun j hj => ?_⟩
  rw [snoc_getD h.1 hj]
  split
  · subst_vars; exact hz
  · exact h.2 j (by omega)
structure TwR (m : Mo) (I W : List (List Int)) (R : List (List (List Int))) (s : Nat) : Prop where
  il : I.length = s
  ll : W.length = s
  rl : R.length = s
  inn : ∀ t : Nat, t < s → OverR m.of.length (I.getD t []) (m.inn.getD (t % m.of.length) [])
  low : ∀ t : Nat, t < s → OverR m.of.length (W.getD t []) (m.low.getD (t % m.of.length) [])
  ret : ∀ t : Nat, t < s → OverL m.of.length (R.getD t []) (m.ret.getD (t % m.of.length) []) (m.ret.getD (t % m.of.length) []).length
theorem TwR.zero {m : Mo} : TwR m [] [] [] 0 := ⟨rfl, rfl, rfl, fun t h => by omega, fun t h => by omega, fun t h => by omega⟩
theorem TwR.snoc {m : Mo} {I W : List (List Int)} {R : List (List (List Int))} {s : Nat} {a b : List Int} {c : List (List Int)} (h : TwR m I W R s) (ha : OverR m.of.length a (m.inn.getD (s % m.of.length) [])) (hb : OverR m.of.length b (m.low.getD (s % m.of.length) [])) (hc : OverL m.of.length c (m.ret.getD (s % m.of.length) []) (m.ret.getD (s % m.of.length) []).length) : TwR m (I ++ [a]) (W ++ [b]) (R ++ [c]) (s + 1) := by
  refine ⟨by rw [List.length_append, h.il]; rfl, by rw [List.length_append, h.ll]; rfl, by rw [List.length_append, h.rl]; rfl, fun t ht => ?_, fun t ht => ?_, fun t ht => ?_⟩
  · rw [snoc_getD h.il ht]
    split
    · subst_vars; exact ha
    · exact h.inn t (by omega)
  · rw [snoc_getD h.ll ht]
    split
    · subst_vars; exact hb
    · exact h.low t (by omega)
  · rw [snoc_getD h.rl ht]
    split
    · subst_vars; exact hc
    · exact h.ret t (by omega)
theorem TwR.twice {m : Mo} {I W : List (List Int)} {R : List (List (List Int))} (h : TwR m I W R (2 * m.of.length)) : Twice m ⟨m.plains, m.closings, m.of ++ m.of, m.entry, m.final ++ m.final, I, W, R⟩ :=
  ⟨rfl, rfl, rfl, rfl, rfl, h.il, h.ll, h.rl, h.inn, h.low, fun s hs => h.ret s hs⟩
end Go.Am
