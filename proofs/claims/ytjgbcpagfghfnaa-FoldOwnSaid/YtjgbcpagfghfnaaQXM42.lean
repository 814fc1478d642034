import Derived.Test.YtjgbcpagfghfnaaQXM29
set_option linter.unusedVariables false
set_option linter.unusedSimpArgs false
set_option linter.unnecessarySimpa false
namespace Go.Am
theorem partedL_ref {c : List Int} {rows : List (List Int)} {p q : Nat} (hp : p < rows.length) (hq : q < rows.length) (h : (partedL c rows).getD p 0 = (partedL c rows).getD q 0) : partK c (rows.getD p []) p = partK c (rows.getD q []) q := by
 have hl := partedL_len c rows
 unfold partedL at h hl
 have e := (num_eq ((List.range rows.length).map fun p => partK c (rows.getD p []) p) (i := p) (j := q) (by simpa using hp) (by simpa using hq)).1 (by
  rw [List.getD_eq_getElem?_getD, List.getD_eq_getElem?_getD, List.getElem?_eq_getElem (by omega), List.getElem?_eq_getElem (by omega)] at h
  rw [List.getElem?_eq_getElem (by omega), List.getElem?_eq_getElem (by omega)]
  exact congrArg some h)
 simpa using e
theorem partedL_ref0 {c : List Int} {rows : List (List Int)} {p q : Nat} (hp : p < rows.length) (hq : q < rows.length) (h : (partedL c rows).getD p 0 = (partedL c rows).getD q 0) : c.getD p 0 = c.getD q 0 := by
 have := partedL_ref hp hq h
 unfold partK at this
 rw [List.cons_append, List.cons_append] at this
 exact (List.cons.inj this).1
theorem partK_row {c a b : List Int} {p q : Nat} (h : partK c a p = partK c b q) (hl : a.length = b.length) : (a.map fun q => c.getD q.toNat 0) = b.map fun q => c.getD q.toNat 0 := by
 unfold partK at h
 rw [List.cons_append, List.cons_append] at h
 exact (List.append_inj (List.cons.inj h).2 (by simp [hl])).1
theorem roundL_ref {p q n : Nat} (hp : p < n) (hq : q < n) : ∀ (ways : List (List (List Int))) (c : List Int), (∀ r ∈ ways, r.length = n) → (roundL ways c).getD p 0 = (roundL ways c).getD q 0 → c.getD p 0 = c.getD q 0
 | [], _, _, h => h
 | r :: ways, c, hw, h => by
  have hr := hw r (List.mem_cons_self ..)
  exact partedL_ref0 (by omega) (by omega) (roundL_ref hp hq ways (partedL c r) (fun r hr => hw r (List.mem_cons_of_mem _ hr)) h)
theorem settledL_ref {p q n : Nat} (hp : p < n) (hq : q < n) (ways : List (List (List Int))) (hw : ∀ r ∈ ways, r.length = n) : ∀ (f : Nat) (c : List Int), (settledL ways f c).getD p 0 = (settledL ways f c).getD q 0 → c.getD p 0 = c.getD q 0
 | 0, _, h => h
 | f + 1, c, h => by
  unfold settledL at h
  split at h
  ·exact h
  ·exact roundL_ref hp hq ways c hw (settledL_ref hp hq ways hw f _ h)
theorem round_each : ∀ (ways : List (List (List Int))) (c : List Int) (n : Nat), Can c → c.length = n → (∀ r ∈ ways, r.length = n) → roundL ways c = c → ∀ r ∈ ways, partedL c r = c
 | [], _, _, _, _, _, _, r, hr => by simp at hr
 | a :: ways, c, n, hc, hl, hw, h, r, hr => by
  have h1 := partedL_finer hc (rows := a) (by rw [hw a (List.mem_cons_self ..), hl])
  have h2 := roundL_finer ways (c := partedL c a) (n := n) (can_num _) (by rw [partedL_len, hw a (List.mem_cons_self ..)]) (fun r hr => hw r (List.mem_cons_of_mem _ hr))
  have e : roundL (a :: ways) c = roundL ways (partedL c a) := rfl
  rw [e] at h
  rw [h] at h2
  have q1 := h1.2 (by have := h1.1; have := h2.2.2.1; omega)
  rcases List.mem_cons.1 hr with rfl | hr
  ·exact q1
  ·rw [q1] at h
   exact round_each ways c n hc hl (fun r hr => hw r (List.mem_cons_of_mem _ hr)) h r hr
structure Cong (m : Mo) (c : Nat → Int) (p q : Nat) : Prop where
 of : m.of.getD p 0 = m.of.getD q 0
 fin : m.final.getD p false = m.final.getD q false
 inn : ∀ i : Nat, i < m.plains.toNat → c ((m.inn.getD p []).getD i 0).toNat = c ((m.inn.getD q []).getD i 0).toNat
 low : ∀ i : Nat, i < (m.low.getD p []).length → c ((m.low.getD p []).getD i 0).toNat = c ((m.low.getD q []).getD i 0).toNat
 above : m.of.getD p 0 ≠ 0 → ∀ j x : Nat, j < m.closings.toNat → x < m.of.length → c (((m.ret.getD p []).getD j []).getD x 0).toNat = c (((m.ret.getD q []).getD j []).getD x 0).toNat
 below : ∀ j x : Nat, j < m.closings.toNat → x < m.of.length → m.of.getD x 0 ≠ 0 → c (((m.ret.getD x []).getD j []).getD p 0).toNat = c (((m.ret.getD x []).getD j []).getD q 0).toNat
theorem map_at {c a b : List Int} {i : Nat} (h : (a.map fun q => c.getD q.toNat 0) = b.map fun q => c.getD q.toNat 0) (hi : i < a.length) : c.getD (a.getD i 0).toNat 0 = c.getD (b.getD i 0).toNat 0 := by
 have hl : a.length = b.length := by have := congrArg List.length h; simpa using this
 have := congrArg (fun l => l.getD i 0) h
 rwa [map_getD _ _ hi _ 0, map_getD _ _ (by omega) _ 0] at this
theorem classesOf_cong {m : Mo} (hm : ModOk m) {p q : Nat} (hp : p < m.of.length) (hq : q < m.of.length) (h : (classesOfF m).getD p 0 = (classesOfF m).getD q 0) : Cong m (fun x => (classesOfF m).getD x 0) p q := by
 obtain ⟨c1, c2, c3⟩ := classesOf_ok hm
 have hw := waysF_len hm
 have hr := round_each _ _ _ c1 c2 hw c3
 have h0 : (firstL m).getD p 0 = (firstL m).getD q 0 := settledL_ref hp hq _ hw _ _ h
 have hf : firstK m p = firstK m q := by
  have hl := firstL_len m
  unfold firstL at h0 hl
  have := (num_eq ((List.range m.of.length).map (firstK m)) (i := p) (j := q) (by simpa using hp) (by simpa using hq)).1 (by
   rw [List.getD_eq_getElem?_getD, List.getD_eq_getElem?_getD, List.getElem?_eq_getElem (by omega), List.getElem?_eq_getElem (by omega)] at h0
   rw [List.getElem?_eq_getElem (by omega), List.getElem?_eq_getElem (by omega)]
   exact congrArg some h0)
  simpa using this
 have hof : m.of.getD p 0 = m.of.getD q 0 := by unfold firstK at hf; exact (List.cons.inj hf).1
 have hfin : m.final.getD p false = m.final.getD q false := by
  unfold firstK at hf
  have := (List.cons.inj (List.cons.inj hf).2).1
  revert this
  cases m.final.getD p false <;> cases m.final.getD q false <;> simp
 generalize hc : classesOfF m = c at *
 have hrow : ∀ r ∈ waysF m, (r.getD p []).length = (r.getD q []).length → ((r.getD p []).map fun q => c.getD q.toNat 0) = (r.getD q []).map fun q => c.getD q.toNat 0 := by
  intro r hrm hl
  have e := hr r hrm
  exact partK_row (partedL_ref (c := c) (rows := r) (by rw [hw r hrm]; exact hp) (by rw [hw r hrm]; exact hq) (by rw [e]; exact h)) hl
 have hin : m.inn ∈ waysF m := by simp [waysF]
 have hlo : m.low ∈ waysF m := by simp [waysF]
 have hab : ∀ j, j < m.closings.toNat → aboveF m j ∈ waysF m := fun j hj => List.mem_append_right _ (List.mem_flatMap.2 ⟨j, List.mem_range.2 hj, List.mem_cons_self ..⟩)
 have hbe : ∀ j, j < m.closings.toNat → belowF m j ∈ waysF m := fun j hj => List.mem_append_right _ (List.mem_flatMap.2 ⟨j, List.mem_range.2 hj, List.mem_cons_of_mem _ (List.mem_cons_self ..)⟩)
 have hrg : ∀ {k : Nat}, k < m.of.length → (List.range m.of.length).getD k 0 = k := fun hk => by rw [List.getD_eq_getElem?_getD, List.getElem?_eq_getElem (by simpa using hk)]; simp
 refine ⟨hof, hfin, fun i hi => ?_, fun i hi => ?_, fun hz j x hj hx => ?_, fun j x hj hx hz => ?_⟩
 ·have l1 := (hm.inn p hp).1
  have l2 := (hm.inn q hq).1
  exact map_at (hrow _ hin (by omega)) (by omega)
 ·refine map_at (hrow _ hlo ?_) hi
  by_cases hz : m.of.getD p 0 = 0
  ·have l1 := (hm.low0 p hp hz).1
   have l2 := (hm.low0 q hq (by omega)).1
   omega
  ·rw [hm.low1 p hp hz, hm.low1 q hq (by omega)]
 ·have hz' : m.of.getD q 0 ≠ 0 := by omega
  obtain ⟨l1, k1⟩ := hm.ret1 p hp hz
  obtain ⟨l2, k2⟩ := hm.ret1 q hq hz'
  have e1 : (aboveF m j).getD p [] = (m.ret.getD p []).getD j [] := by
   unfold aboveF; rw [map_getD _ _ (by simpa using hp) _ 0, hrg hp, if_neg hz]
  have e2 : (aboveF m j).getD q [] = (m.ret.getD q []).getD j [] := by
   unfold aboveF; rw [map_getD _ _ (by simpa using hq) _ 0, hrg hq, if_neg hz']
  have e := hrow _ (hab j hj) (by rw [e1, e2, (k1 j (by omega)).1, (k2 j (by omega)).1])
  rw [e1, e2] at e
  exact map_at e (by rw [(k1 j (by omega)).1]; exact hx)
 ·have e1 : ∀ {k : Nat}, k < m.of.length → (belowF m j).getD k [] = ((List.range m.of.length).filter fun p => decide (m.of.getD p 0 ≠ 0)).map fun p => ((m.ret.getD p []).getD j []).getD k 0 := fun {k} hk => by
   unfold belowF; rw [map_getD _ _ (by simpa using hk) _ 0, hrg hk]
  have e := hrow _ (hbe j hj) (by rw [e1 hp, e1 hq]; simp)
  rw [e1 hp, e1 hq, List.map_map, List.map_map] at e
  have hmem : x ∈ (List.range m.of.length).filter fun p => decide (m.of.getD p 0 ≠ 0) := List.mem_filter.2 ⟨List.mem_range.2 hx, by simpa using hz⟩
  exact List.map_inj_left.1 e x hmem
theorem rank_back {is : List Bool} {p : Nat} (h : is.getD p false = true) : rankN is p < (leastsL (rankL is)).length ∧ (leastsL (rankL is)).getD (rankN is p) 0 = p := by
 have hp := getD_lt_len h
 have hl : (rankL is).length = is.length := by simp [rankL]
 have hn := rank_num hp h
 obtain ⟨⟨h1, h2⟩, h3⟩ := leastL_ok (rankL is) (rankL is).length (Nat.le_refl _) _ hn
 refine ⟨hn, ?_⟩
 change (leastL (rankL is) (rankL is).length).getD (rankN is p) 0 = p
 generalize (leastL (rankL is) (rankL is).length).getD (rankN is p) 0 = x at *
 have hx : x.toNat < is.length := by omega
 have h4 : is.getD x.toNat false = true := (rank_pos hx).1 (by omega)
 rw [rankL_get hx, h4] at h3
 simp only [if_true] at h3
 have := rank_inj hx hp h4 h (by omega)
 omega
theorem classesF_get {m : Mo} (hm : ModOk m) {p : Nat} (h : (reachedF m).getD p false = true) : (classesF m).getD p 0 = (classesOfF (bareF m)).getD (rankN (reachedF m) p) 0 := by
 have hp := getD_lt_len h
 have hl : (rankL (reachedF m)).length = (reachedF m).length := by simp [rankL]
 unfold classesF
 rw [map_getD _ _ (by omega) _ 0, rankL_get hp, h]
 simp only [if_true]
 rw [if_neg (by omega), Int.toNat_natCast]
theorem pickL_get {l places : List Int} {i : Nat} (h : i < places.length) : (pickL l places).getD i 0 = l.getD (places.getD i 0).toNat 0 := by
 unfold pickL; rw [map_getD _ _ h _ 0]
structure CongR (m : Mo) (p q : Nat) : Prop where
 of : m.of.getD p 0 = m.of.getD q 0
 fin : m.final.getD p false = m.final.getD q false
 inn : ∀ i : Nat, i < m.plains.toNat → (classesF m).getD ((m.inn.getD p []).getD i 0).toNat 0 = (classesF m).getD ((m.inn.getD q []).getD i 0).toNat 0
 low : ∀ i : Nat, i < (m.low.getD p []).length → (classesF m).getD ((m.low.getD p []).getD i 0).toNat 0 = (classesF m).getD ((m.low.getD q []).getD i 0).toNat 0
 above : m.of.getD p 0 ≠ 0 → ∀ j x : Nat, j < m.closings.toNat → (reachedF m).getD x false = true → (classesF m).getD (((m.ret.getD p []).getD j []).getD x 0).toNat 0 = (classesF m).getD (((m.ret.getD q []).getD j []).getD x 0).toNat 0
 below : ∀ j x : Nat, j < m.closings.toNat → (reachedF m).getD x false = true → m.of.getD x 0 ≠ 0 → (classesF m).getD (((m.ret.getD x []).getD j []).getD p 0).toNat 0 = (classesF m).getD (((m.ret.getD x []).getD j []).getD q 0).toNat 0
theorem ret_mem {m : Mo} {p j q : Nat} (hj : j < (m.ret.getD p []).length) : ((m.ret.getD p []).getD j []).getD q 0 ∈ colL (m.ret.getD p []) q := by
 unfold colL
 refine List.mem_map.2 ⟨_, ?_, rfl⟩
 rw [List.getD_eq_getElem?_getD (i := j), List.getElem?_eq_getElem hj]
 exact List.getElem_mem _
theorem classesF_cong {m : Mo} (hm : ModOk m) {p q : Nat} (hp : (reachedF m).getD p false = true) (hq : (reachedF m).getD q false = true) (h : (classesF m).getD p 0 = (classesF m).getD q 0) : CongR m p q := by
 have hl := reachedF_len hm.st
 have hb := bare_ok hm
 have hcl := reached_closed hm.st
 have hpn := getD_lt_len hp
 have hqn := getD_lt_len hq
 rw [classesF_get hm hp, classesF_get hm hq] at h
 obtain ⟨rp, bp⟩ := rank_back hp
 obtain ⟨rq, bq⟩ := rank_back hq
 have hbl : (bareF m).of.length = (leastsL (rankL (reachedF m))).length := by simp [bareF, mergedF]
 have hc := classesOf_cong hb (by omega) (by omega) h
 have eof : ∀ {x : Nat}, (reachedF m).getD x false = true → (bareF m).of.getD (rankN (reachedF m) x) 0 = m.of.getD x 0 := fun hx => by
  obtain ⟨r, b⟩ := rank_back hx
  simp only [bareF, mergedF]
  rw [map_getD _ _ r _ 0, b, Int.toNat_natCast]
 have efin : ∀ {x : Nat}, (reachedF m).getD x false = true → (bareF m).final.getD (rankN (reachedF m) x) false = m.final.getD x false := fun hx => by
  obtain ⟨r, b⟩ := rank_back hx
  simp only [bareF, mergedF]
  rw [map_getD _ _ r _ 0, b, Int.toNat_natCast]
 have einn : ∀ {x : Nat}, (reachedF m).getD x false = true → (bareF m).inn.getD (rankN (reachedF m) x) [] = pickL (rankL (reachedF m)) (m.inn.getD x []) := fun hx => by
  obtain ⟨r, b⟩ := rank_back hx
  simp only [bareF, mergedF]
  rw [map_getD _ _ r _ 0, b, Int.toNat_natCast]
 have elow : ∀ {x : Nat}, (reachedF m).getD x false = true → (bareF m).low.getD (rankN (reachedF m) x) [] = pickL (rankL (reachedF m)) (m.low.getD x []) := fun hx => by
  obtain ⟨r, b⟩ := rank_back hx
  simp only [bareF, mergedF]
  rw [map_getD _ _ r _ 0, b, Int.toNat_natCast]
 have eret : ∀ {x j y : Nat}, (reachedF m).getD x false = true → (reachedF m).getD y false = true → j < (m.ret.getD x []).length → (((bareF m).ret.getD (rankN (reachedF m) x) []).getD j []).getD (rankN (reachedF m) y) 0 = (rankL (reachedF m)).getD (((m.ret.getD x []).getD j []).getD y 0).toNat 0 := fun {x j y} hx hy hj => by
  obtain ⟨r, b⟩ := rank_back hx
  obtain ⟨r2, b2⟩ := rank_back hy
  simp only [bareF, mergedF]
  rw [map_getD _ _ r _ 0, b, Int.toNat_natCast, map_getD _ _ hj _ [], pickL_get (by rw [pickL_len]; exact r2), pickL_get r2, b2, Int.toNat_natCast]
 -- a reached state's class
 have key : ∀ {x : Int}, 0 ≤ x → (reachedF m).getD x.toNat false = true → (classesF m).getD x.toNat 0 = (classesOfF (bareF m)).getD ((rankL (reachedF m)).getD x.toNat 0).toNat 0 := fun {x} h0 hx => by
  rw [classesF_get hm hx, rankL_get (getD_lt_len hx), hx]
  simp
 have hnn : ∀ {x : Nat}, (reachedF m).getD x false = true → x < m.of.length := fun hx => by have := getD_lt_len hx; omega
 have hof : m.of.getD p 0 = m.of.getD q 0 := by have := hc.of; rwa [eof hp, eof hq] at this
 refine ⟨hof, ?_, fun i hi => ?_, fun i hi => ?_, fun hz j x hj hx => ?_, fun j x hj hx hz => ?_⟩
 ·have := hc.fin; rwa [efin hp, efin hq] at this
 ·have l1 := hm.inn p (hnn hp)
  have l2 := hm.inn q (hnn hq)
  have m1 := getD_memI (l := m.inn.getD p []) (i := i) (by omega)
  have m2 := getD_memI (l := m.inn.getD q []) (i := i) (by omega)
  have := hc.inn i hi
  rw [einn hp, einn hq, pickL_get (by omega), pickL_get (by omega)] at this
  rw [key (l1.2 _ m1).1.1 (hcl.inn p hp _ m1), key (l2.2 _ m2).1.1 (hcl.inn q hq _ m2)]
  exact this
 ·have hi2 : i < (m.low.getD q []).length := by
   by_cases hz : m.of.getD p 0 = 0
   ·have := (hm.low0 p (hnn hp) hz).1; have := (hm.low0 q (hnn hq) (by omega)).1; omega
   ·rw [hm.low1 p (hnn hp) hz] at hi; simp at hi
  have m1 := getD_memI (l := m.low.getD p []) (i := i) (by omega)
  have m2 := getD_memI (l := m.low.getD q []) (i := i) (by omega)
  have := hc.low i (by rw [elow hp, pickL_len]; exact hi)
  rw [elow hp, elow hq, pickL_get (by omega), pickL_get (by omega)] at this
  rw [key (hm.st.low _ _ m1).1 (hcl.low p hp _ m1), key (hm.st.low _ _ m2).1 (hcl.low q hq _ m2)]
  exact this
 ·have l1 := (hm.ret1 p (hnn hp) hz).1
  have l2 := (hm.ret1 q (hnn hq) (by omega)).1
  obtain ⟨rx, bx⟩ := rank_back hx
  have := hc.above (by rw [eof hp]; exact hz) j (rankN (reachedF m) x) hj (by omega)
  rw [eret hp hx (by omega), eret hq hx (by omega)] at this
  have m1 := ret_mem (m := m) (p := p) (j := j) (q := x) (by omega)
  have m2 := ret_mem (m := m) (p := q) (j := j) (q := x) (by omega)
  rw [key (hm.st.ret _ _ (hnn hx) _ m1).1 (hcl.ret p x hp hx _ m1), key (hm.st.ret _ _ (hnn hx) _ m2).1 (hcl.ret q x hq hx _ m2)]
  exact this
 ·have l1 := (hm.ret1 x (hnn hx) hz).1
  obtain ⟨rx, bx⟩ := rank_back hx
  have := hc.below j (rankN (reachedF m) x) hj (by omega) (by rw [eof hx]; exact hz)
  rw [eret hx hp (by omega), eret hx hq (by omega)] at this
  have m1 := ret_mem (m := m) (p := x) (j := j) (q := p) (by omega)
  have m2 := ret_mem (m := m) (p := x) (j := j) (q := q) (by omega)
  rw [key (hm.st.ret _ _ (hnn hp) _ m1).1 (hcl.ret x p hx hp _ m1), key (hm.st.ret _ _ (hnn hq) _ m2).1 (hcl.ret x q hx hq _ m2)]
  exact this
structure Sim (m : Mo) (s t : Int × List Int) : Prop where
 len : s.2.length = t.2.length
 left : ∀ i, i < s.2.length → (classesF m).getD (s.2.getD i 0).toNat 0 = (classesF m).getD (t.2.getD i 0).toNat 0
 at' : (classesF m).getD s.1.toNat 0 = (classesF m).getD t.1.toNat 0
end Go.Am
namespace Go.Am
theorem findS_all {T : Int → Prop} (l : List Int) : ∀ s : List Bool × List Int, (∀ q ∈ s.2, T q) → (∀ p ∈ l, T p) → ∀ q ∈ (findS s l).2, T q := by
 induction l with
 | nil => intro s h _; exact h
 | cons a l ih =>
  intro s h hl
  refine ih (find1 s a) (fun q hq => ?_) fun p hp => hl p (List.mem_cons_of_mem _ hp)
  unfold find1 at hq
  split at hq
  ·exact h q hq
  ·rcases List.mem_append.1 hq with hq | hq
   ·exact h q hq
   ·rw [List.mem_singleton.1 hq]; exact hl a (List.mem_cons_self ..)
theorem retF_all {m : Mo} {T : Int → Prop} (hT : RClosed m T) {p : Int} (hp : T p ∧ 0 ≤ p ∧ p < (m.of.length : Int)) : ∀ (l : List Int) (s : List Bool × List Int), (∀ q ∈ s.2, T q) → (∀ q ∈ l, T q ∧ 0 ≤ q ∧ q < (m.of.length : Int)) → ∀ q ∈ (l.foldl (retIn m p) s).2, T q
 | [], _, h, _ => h
 | a :: l, s, h, hl => by
  have ha := hl a (List.mem_cons_self ..)
  refine retF_all hT hp l _ ?_ fun q hq => hl q (List.mem_cons_of_mem _ hq)
  refine findS_all _ _ (findS_all _ _ h (hT.ret p a hp.1 ha.1 ha.2.1 ha.2.2)) (hT.ret a p ha.1 hp.1 hp.2.1 hp.2.2)
theorem reachGo_all {m : Mo} (hm : MoSt m) {T : Int → Prop} (hT : RClosed m T) : ∀ (f i : Nat) (s : List Bool × List Int), SOk m.of.length s → (∀ q ∈ s.2, T q) → ∀ q ∈ (reachGo m f i s).2, T q
 | 0, _, _, _, h => h
 | f + 1, i, s, hs, h => by
  unfold reachGo
  split
  ·rename_i hi
   refine reachGo_all hm hT f _ _ (reachStep_ok hm hs hi) ?_
   have hmem := getD_memI hi
   have hp := hs.lt hmem
   have h1 := stepIn_ok hm (p := s.2.getD i 0) hs
   have a1 : ∀ q ∈ (stepIn m (s.2.getD i 0) s).2, T q := findS_all _ _ (findS_all _ _ h (hT.inn _ (h _ hmem))) (hT.low _ (h _ hmem))
   exact retF_all hT ⟨h _ hmem, hp⟩ _ _ a1 fun q hq => ⟨a1 q (List.mem_of_mem_take hq), h1.lt (List.mem_of_mem_take hq)⟩
  ·exact h
theorem reached_least {m : Mo} (hm : MoSt m) {T : Int → Prop} (hT : RClosed m T) {p : Nat} (h : (reachedF m).getD p false = true) : T p := by
 have := reachGo_all hm hT (m.of.length + 1) 0 _ (start_ok hm) (findS_all _ _ (by simp) hT.entry)
 exact this p (((reachS_ok hm).mem p).2 ⟨by omega, by rw [Int.toNat_natCast]; exact h⟩)
theorem partedL_eq {c : List Int} {rows : List (List Int)} {p q : Nat} (hp : p < rows.length) (hq : q < rows.length) (h : partK c (rows.getD p []) p = partK c (rows.getD q []) q) : (partedL c rows).getD p 0 = (partedL c rows).getD q 0 := by
 have e := (num_eq ((List.range rows.length).map fun p => partK c (rows.getD p []) p) (i := p) (j := q) (by simpa using hp) (by simpa using hq)).2 (by simpa using h)
 unfold partedL
 rw [List.getD_eq_getElem?_getD, List.getD_eq_getElem?_getD, e]
def Coarse (d : Nat → Int) (n : Nat) (c : List Int) : Prop := ∀ p q, p < n → q < n → d p = d q → c.getD p 0 = c.getD q 0
def RowsD (d : Nat → Int) (n : Nat) (r : List (List Int)) : Prop := r.length = n ∧ ∀ p q, p < n → q < n → d p = d q → (r.getD p []).length = (r.getD q []).length ∧ ∀ i, i < (r.getD p []).length → ((r.getD p []).getD i 0).toNat < n ∧ ((r.getD q []).getD i 0).toNat < n ∧ d ((r.getD p []).getD i 0).toNat = d ((r.getD q []).getD i 0).toNat
theorem parted_coarse {d : Nat → Int} {n : Nat} {c : List Int} {r : List (List Int)} (hc : Coarse d n c) (hr : RowsD d n r) : Coarse d n (partedL c r) := by
 intro p q hp hq h
 obtain ⟨h1, h2⟩ := hr.2 p q hp hq h
 refine partedL_eq (by rw [hr.1]; exact hp) (by rw [hr.1]; exact hq) ?_
 unfold partK
 rw [hc p q hp hq h, h1]
 have : ((r.getD p []).map fun q => c.getD q.toNat 0) = (r.getD q []).map fun q => c.getD q.toNat 0 := by
  refine List.ext_getElem (by rw [List.length_map, List.length_map, h1]) fun i i1 i2 => ?_
  simp only [List.length_map] at i1 i2
  obtain ⟨q1, q2, q3⟩ := h2 i i1
  rw [List.getElem_map, List.getElem_map]
  have := hc _ _ q1 q2 q3
  rw [List.getD_eq_getElem?_getD (l := r.getD p []), List.getElem?_eq_getElem i1, List.getD_eq_getElem?_getD (l := r.getD q []), List.getElem?_eq_getElem i2] at this
  exact this
 rw [this]
theorem round_coarse {d : Nat → Int} {n : Nat} : ∀ (ways : List (List (List Int))) (c : List Int), Coarse d n c → (∀ r ∈ ways, RowsD d n r) → Coarse d n (roundL ways c)
 | [], _, h, _ => h
 | r :: ways, c, h, hw => round_coarse ways (partedL c r) (parted_coarse h (hw r (List.mem_cons_self ..))) fun r hr => hw r (List.mem_cons_of_mem _ hr)
theorem settled_coarse {d : Nat → Int} {n : Nat} (ways : List (List (List Int))) (hw : ∀ r ∈ ways, RowsD d n r) : ∀ (f : Nat) (c : List Int), Coarse d n c → Coarse d n (settledL ways f c)
 | 0, _, h => h
 | f + 1, c, h => by
  unfold settledL
  split
  ·exact h
  ·exact settled_coarse ways hw f _ (round_coarse ways c h hw)
theorem classesOf_coarse {m : Mo} (hm : ModOk m) {d : Nat → Int} (hd : ∀ p q, p < m.of.length → q < m.of.length → d p = d q → Cong m d p q) : Coarse d m.of.length (classesOfF m) := by
 have hst := hm.st
 have hrg : ∀ {k : Nat}, k < m.of.length → (List.range m.of.length).getD k 0 = k := fun hk => by rw [List.getD_eq_getElem?_getD, List.getElem?_eq_getElem (by simpa using hk)]; simp
 unfold classesOfF
 refine settled_coarse _ ?_ _ _ ?_
 ·intro r hr
  refine ⟨waysF_len hm r hr, fun p q hp hq h => ?_⟩
  have hc := hd p q hp hq h
  unfold waysF at hr
  rcases List.mem_append.1 hr with hr | hr
  ·simp only [List.mem_cons, List.not_mem_nil, or_false] at hr
   rcases hr with rfl | rfl
   ·have l1 := (hm.inn p hp).1
    have l2 := (hm.inn q hq).1
    refine ⟨by omega, fun i hi => ⟨?_, ?_, hc.inn i (by omega)⟩⟩
    ·have := hst.inn p _ (getD_memI hi); omega
    ·have := hst.inn q _ (getD_memI (l := m.inn.getD q []) (i := i) (by omega)); omega
   ·have hl : (m.low.getD p []).length = (m.low.getD q []).length := by
     by_cases hz : m.of.getD p 0 = 0
     ·have l1 := (hm.low0 p hp hz).1
      have l2 := (hm.low0 q hq (by rw [← hc.of]; exact hz)).1
      omega
     ·rw [hm.low1 p hp hz, hm.low1 q hq (by rw [← hc.of]; exact hz)]
    refine ⟨hl, fun i hi => ⟨?_, ?_, hc.low i hi⟩⟩
    ·have := hst.low p _ (getD_memI hi); omega
    ·have := hst.low q _ (getD_memI (l := m.low.getD q []) (i := i) (by omega)); omega
  ·obtain ⟨j, hj, hr⟩ := List.mem_flatMap.1 hr
   rw [List.mem_range] at hj
   simp only [List.mem_cons, List.not_mem_nil, or_false] at hr
   rcases hr with rfl | rfl
   ·unfold aboveF
    rw [map_getD _ _ (by simpa using hp) _ 0, map_getD _ _ (by simpa using hq) _ 0, hrg hp, hrg hq, ← hc.of]
    by_cases hz : m.of.getD p 0 = 0
    ·rw [if_pos hz, if_pos hz]
     exact ⟨rfl, fun i hi => by simp at hi⟩
    ·rw [if_neg hz, if_neg hz]
     obtain ⟨l1, k1⟩ := hm.ret1 p hp hz
     obtain ⟨l2, k2⟩ := hm.ret1 q hq (by rw [← hc.of]; exact hz)
     obtain ⟨a1, b1⟩ := k1 j (by omega)
     obtain ⟨a2, b2⟩ := k2 j (by omega)
     refine ⟨by omega, fun i hi => ⟨?_, ?_, hc.above hz j i hj (by omega)⟩⟩
     ·have := (b1 i (by omega)).1; omega
     ·have := (b2 i (by omega)).1; omega
   ·unfold belowF
    rw [map_getD _ _ (by simpa using hp) _ 0, map_getD _ _ (by simpa using hq) _ 0, hrg hp, hrg hq]
    refine ⟨by simp, fun i hi => ?_⟩
    rw [List.length_map] at hi
    rw [map_getD _ _ hi _ 0, map_getD _ _ hi _ 0]
    have hmem : ((List.range m.of.length).filter fun p => decide (m.of.getD p 0 ≠ 0)).getD i 0 ∈ (List.range m.of.length).filter fun p => decide (m.of.getD p 0 ≠ 0) := by
     rw [List.getD_eq_getElem?_getD, List.getElem?_eq_getElem hi]; exact List.getElem_mem _
    generalize ((List.range m.of.length).filter fun p => decide (m.of.getD p 0 ≠ 0)).getD i 0 = x at *
    obtain ⟨hx, hz⟩ := List.mem_filter.1 hmem
    rw [List.mem_range] at hx
    have hz : m.of.getD x 0 ≠ 0 := by simpa using hz
    obtain ⟨l1, k1⟩ := hm.ret1 x hx hz
    obtain ⟨a1, b1⟩ := k1 j (by omega)
    refine ⟨?_, ?_, hc.below j x hj hx hz⟩
    ·have := (b1 p hp).1; omega
    ·have := (b1 q hq).1; omega
 ·intro p q hp hq h
  have hc := hd p q hp hq h
  have e := (num_eq ((List.range m.of.length).map (firstK m)) (i := p) (j := q) (by simpa using hp) (by simpa using hq)).2 (by
   simp only [List.getElem_map, List.getElem_range]
   unfold firstK
   rw [hc.of, hc.fin])
  unfold firstL
  rw [List.getD_eq_getElem?_getD, List.getD_eq_getElem?_getD, e]
theorem can_take {c : List Int} (h : Can c) : ∀ k, Can (c.take k) := by
 intro k
 have : ∀ (r l : List Int), numL (l ++ r.reverse) = l ++ r.reverse → numL l = l := by
  intro r l
  induction r with
  | nil => intro h; simpa using h
  | cons a r ih =>
   intro h
   rw [List.reverse_cons, ← List.append_assoc] at h
   unfold numL at h
   rw [numQ_snoc] at h
   simp only [num1] at h
   exact ih (List.append_inj_left' h rfl)
 exact this (c.drop k).reverse (c.take k) (by rw [List.reverse_reverse, List.take_append_drop]; exact h)
theorem leastL_can {c : List Int} (h : Can c) : ∀ i, i ≤ c.length → (leastL c i).length = numD (c.take i)
 | 0, _ => by simp [leastL, numD, numQ]
 | i + 1, hi => by
  have ih := leastL_can h i (by omega)
  have h1 := can_take h (i + 1)
  have hlt : i < c.length := by omega
  rw [List.take_succ_eq_append_getElem hlt] at h1 ⊢
  have e : c.getD i 0 = c[i] := by rw [List.getD_eq_getElem?_getD, List.getElem?_eq_getElem hlt]; rfl
  unfold Can numL at h1
  rw [numQ_snoc] at h1
  simp only [num1] at h1
  have h2 := (List.append_inj_right' h1 rfl)
  have h2 : ((numQ (c.take i)).1.idxOf c[i] : Int) = c[i] := by simpa using h2
  unfold leastL
  unfold numD at ih ⊢
  rw [numQ_snoc, e, ih]
  simp only [num1]
  by_cases hm : c[i] ∈ (numQ (c.take i)).1
  ·have := List.idxOf_lt_length_of_mem hm
   rw [if_pos hm, if_neg (by omega), ih]
  ·have := List.idxOf_eq_length hm
   rw [if_neg hm, if_pos (by omega), List.length_append, List.length_append, ih]
   rfl
theorem leasts_can {c : List Int} (h : Can c) : (leastsL c).length = numD c := by
 unfold leastsL
 rw [leastL_can h _ (Nat.le_refl _), List.take_length]
theorem classes_ok {m : Mo} (hm : ModOk m) : ClsOk m (classesOfF m) := by
 obtain ⟨c1, c2, c3⟩ := classesOf_ok hm
 have hst := hm.st
 have hp : ∀ {x : Int}, 0 ≤ x ∧ x < (m.of.length : Int) → 0 ≤ (classesOfF m).getD x.toNat 0 := fun h => (can_pos c1 (by omega)).1
 exact ⟨c2, fun p h => hp (hst.entry p h), fun p _ _ x hx => hp (hst.inn p x hx), fun p _ _ x hx => hp (hst.low p x hx), fun p q _ hq _ _ x hx => hp (hst.ret p q hq x hx), fun p q h1 h2 _ e => (classesOf_cong hm h1 h2 e).of, fun p h _ => by rw [leasts_can c1]; exact (can_pos c1 (by omega)).2⟩
theorem small_ok {m : Mo} (hm : ModOk m) : ModOk (smallF m) := merged_ok (bare_ok hm) (classes_ok (bare_ok hm))
structure CongS (m : Mo) (cls : List Int) (p q : Nat) : Prop where
 of : m.of.getD p 0 = m.of.getD q 0
 fin : m.final.getD p false = m.final.getD q false
 inn : ∀ i : Nat, i < m.plains.toNat → cls.getD ((m.inn.getD p []).getD i 0).toNat 0 = cls.getD ((m.inn.getD q []).getD i 0).toNat 0
 low : ∀ i : Nat, i < (m.low.getD p []).length → cls.getD ((m.low.getD p []).getD i 0).toNat 0 = cls.getD ((m.low.getD q []).getD i 0).toNat 0
 above : m.of.getD p 0 ≠ 0 → ∀ j x : Nat, j < m.closings.toNat → x < m.of.length → 0 ≤ cls.getD x 0 → cls.getD (((m.ret.getD p []).getD j []).getD x 0).toNat 0 = cls.getD (((m.ret.getD q []).getD j []).getD x 0).toNat 0
 below : ∀ j x : Nat, j < m.closings.toNat → x < m.of.length → 0 ≤ cls.getD x 0 → m.of.getD x 0 ≠ 0 → cls.getD (((m.ret.getD x []).getD j []).getD p 0).toNat 0 = cls.getD (((m.ret.getD x []).getD j []).getD q 0).toNat 0
structure Quot1 (m : Mo) (cls : List Int) (p : Nat) : Prop where
 lt : (cls.getD p 0).toNat < (mergedF m cls).of.length
 of : (mergedF m cls).of.getD (cls.getD p 0).toNat 0 = m.of.getD p 0
 fin : (mergedF m cls).final.getD (cls.getD p 0).toNat false = m.final.getD p false
 inl : ((mergedF m cls).inn.getD (cls.getD p 0).toNat []).length = (m.inn.getD p []).length
 inn : ∀ i : Nat, i < m.plains.toNat → ((mergedF m cls).inn.getD (cls.getD p 0).toNat []).getD i 0 = cls.getD ((m.inn.getD p []).getD i 0).toNat 0
 lol : ((mergedF m cls).low.getD (cls.getD p 0).toNat []).length = (m.low.getD p []).length
 low : ∀ i : Nat, i < (m.low.getD p []).length → ((mergedF m cls).low.getD (cls.getD p 0).toNat []).getD i 0 = cls.getD ((m.low.getD p []).getD i 0).toNat 0
 ret : m.of.getD p 0 ≠ 0 → ∀ j q : Nat, j < m.closings.toNat → q < m.of.length → 0 ≤ cls.getD q 0 → (((mergedF m cls).ret.getD (cls.getD p 0).toNat []).getD j []).getD (cls.getD q 0).toNat 0 = cls.getD (((m.ret.getD p []).getD j []).getD q 0).toNat 0
structure SimQ (cls : List Int) (s t : Int × List Int) : Prop where
 len : s.2.length = t.2.length
 left : ∀ i, i < s.2.length → t.2.getD i 0 = cls.getD (s.2.getD i 0).toNat 0
 at' : t.1 = cls.getD s.1.toNat 0
end Go.Am
