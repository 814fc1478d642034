import Derived.Test.YtjgbcpagfghfnaaQXM42
set_option linter.unusedVariables false
set_option linter.unusedSimpArgs false
set_option linter.unnecessarySimpa false
namespace Go.Am
structure CongD (m : Mo) (d : Nat → Int) (p q : Nat) : Prop where
 of : m.of.getD p 0 = m.of.getD q 0
 fin : m.final.getD p false = m.final.getD q false
 inn : ∀ i : Nat, i < m.plains.toNat → d ((m.inn.getD p []).getD i 0).toNat = d ((m.inn.getD q []).getD i 0).toNat
 low : ∀ i : Nat, i < (m.low.getD p []).length → d ((m.low.getD p []).getD i 0).toNat = d ((m.low.getD q []).getD i 0).toNat
 above : m.of.getD p 0 ≠ 0 → ∀ j x : Nat, j < m.closings.toNat → (reachedF m).getD x false = true → d (((m.ret.getD p []).getD j []).getD x 0).toNat = d (((m.ret.getD q []).getD j []).getD x 0).toNat
 below : ∀ j x : Nat, j < m.closings.toNat → (reachedF m).getD x false = true → m.of.getD x 0 ≠ 0 → d (((m.ret.getD x []).getD j []).getD p 0).toNat = d (((m.ret.getD x []).getD j []).getD q 0).toNat
theorem rank_forth {is : List Bool} {u : Nat} (h : u < (leastsL (rankL is)).length) : ∃ x, is.getD x false = true ∧ rankN is x = u ∧ (leastsL (rankL is)).getD u 0 = (x : Int) := by
 have hl : (rankL is).length = is.length := by simp [rankL]
 obtain ⟨⟨h1, h2⟩, h3⟩ := leastL_ok (rankL is) (rankL is).length (Nat.le_refl _) _ h
 have e : leastsL (rankL is) = leastL (rankL is) (rankL is).length := rfl
 rw [e]
 generalize (leastL (rankL is) (rankL is).length).getD u 0 = x at *
 have hx : x.toNat < is.length := by omega
 have h4 : is.getD x.toNat false = true := (rank_pos hx).1 (by omega)
 rw [rankL_get hx, h4] at h3
 simp only [if_true] at h3
 exact ⟨x.toNat, h4, by omega, by omega⟩
theorem classesF_coarse {m : Mo} (hm : ModOk m) {d : Nat → Int} (hd : ∀ p q, (reachedF m).getD p false = true → (reachedF m).getD q false = true → d p = d q → CongD m d p q) {p q : Nat} (hp : (reachedF m).getD p false = true) (hq : (reachedF m).getD q false = true) (h : d p = d q) : (classesF m).getD p 0 = (classesF m).getD q 0 := by
 have hl := reachedF_len hm.st
 have hb := bare_ok hm
 have hcl := reached_closed hm.st
 have hbl : (bareF m).of.length = (leastsL (rankL (reachedF m))).length := by simp [bareF, mergedF]
 have eof : ∀ {x : Nat}, (reachedF m).getD x false = true → (bareF m).of.getD (rankN (reachedF m) x) 0 = m.of.getD x 0 := fun hx => by
  obtain ⟨r, b⟩ := rank_back hx
  simp only [bareF, mergedF]
  rw [map_getD _ _ r _ 0, b, Int.toNat_natCast]
 have efin : ∀ {x : Nat}, (reachedF m).getD x false = true → (bareF m).final.getD (rankN (reachedF m) x) false = m.final.getD x false := fun hx => by
  obtain ⟨r, b⟩ := rank_back hx
  simp only [bareF, mergedF]
  rw [map_getD _ _ r _ 0, b, Int.toNat_natCast]
 have einn : ∀ {x : Nat}, (reachedF m).getD x false = true → (bareF m).inn.getD (rankN (reachedF m) x) [] = pickL (rankL (reachedF m)) (m.inn.getD x []) := fun hx => by
  obtain ⟨r, b⟩ := rank_back hx
  simp only [bareF, mergedF]
  rw [map_getD _ _ r _ 0, b, Int.toNat_natCast]
 have elow : ∀ {x : Nat}, (reachedF m).getD x false = true → (bareF m).low.getD (rankN (reachedF m) x) [] = pickL (rankL (reachedF m)) (m.low.getD x []) := fun hx => by
  obtain ⟨r, b⟩ := rank_back hx
  simp only [bareF, mergedF]
  rw [map_getD _ _ r _ 0, b, Int.toNat_natCast]
 have eret : ∀ {x j y : Nat}, (reachedF m).getD x false = true → (reachedF m).getD y false = true → j < (m.ret.getD x []).length → (((bareF m).ret.getD (rankN (reachedF m) x) []).getD j []).getD (rankN (reachedF m) y) 0 = (rankL (reachedF m)).getD (((m.ret.getD x []).getD j []).getD y 0).toNat 0 := fun {x j y} hx hy hj => by
  obtain ⟨r, b⟩ := rank_back hx
  obtain ⟨r2, b2⟩ := rank_back hy
  simp only [bareF, mergedF]
  rw [map_getD _ _ r _ 0, b, Int.toNat_natCast, map_getD _ _ hj _ [], pickL_get (by rw [pickL_len]; exact r2), pickL_get r2, b2, Int.toNat_natCast]
 have hnn : ∀ {x : Nat}, (reachedF m).getD x false = true → x < m.of.length := fun hx => by have := getD_lt_len hx; omega
 obtain ⟨d', hd'⟩ : ∃ d' : Nat → Int, ∀ u, d' u = d ((leastsL (rankL (reachedF m))).getD u 0).toNat := ⟨_, fun _ => rfl⟩
 have dr : ∀ {x : Nat}, (reachedF m).getD x false = true → d' (rankN (reachedF m) x) = d x := fun hx => by rw [hd', (rank_back hx).2, Int.toNat_natCast]
 have key : ∀ {x : Int}, (reachedF m).getD x.toNat false = true → d' ((rankL (reachedF m)).getD x.toNat 0).toNat = d x.toNat := fun {x} hx => by
  rw [rankL_get (getD_lt_len hx), hx]
  simp only [if_true]
  rw [Int.toNat_natCast, dr hx]
 have hco := classesOf_coarse hb (d := d') (fun u v hu hv huv => by
  obtain ⟨p, hp, rfl, -⟩ := rank_forth (by omega : u < (leastsL (rankL (reachedF m))).length)
  obtain ⟨q, hq, rfl, -⟩ := rank_forth (by omega : v < (leastsL (rankL (reachedF m))).length)
  rw [dr hp, dr hq] at huv
  have hc := hd p q hp hq huv
  refine ⟨by rw [eof hp, eof hq]; exact hc.of, by rw [efin hp, efin hq]; exact hc.fin, fun i hi => ?_, fun i hi => ?_, fun hz j x hj hx => ?_, fun j x hj hx hz => ?_⟩
  ·replace hi : i < m.plains.toNat := hi
   have l1 := hm.inn p (hnn hp)
   have l2 := hm.inn q (hnn hq)
   have m1 := getD_memI (l := m.inn.getD p []) (i := i) (by omega)
   have m2 := getD_memI (l := m.inn.getD q []) (i := i) (by omega)
   rw [einn hp, einn hq, pickL_get (by omega), pickL_get (by omega), key (hcl.inn p hp _ m1), key (hcl.inn q hq _ m2)]
   exact hc.inn i hi
  ·rw [elow hp, pickL_len] at hi
   have hi2 : i < (m.low.getD q []).length := by
    by_cases hz : m.of.getD p 0 = 0
    ·have := (hm.low0 p (hnn hp) hz).1; have := (hm.low0 q (hnn hq) (by rw [← hc.of]; exact hz)).1; omega
    ·rw [hm.low1 p (hnn hp) hz] at hi; simp at hi
   have m1 := getD_memI (l := m.low.getD p []) (i := i) (by omega)
   have m2 := getD_memI (l := m.low.getD q []) (i := i) (by omega)
   rw [elow hp, elow hq, pickL_get (by omega), pickL_get (by omega), key (hcl.low p hp _ m1), key (hcl.low q hq _ m2)]
   exact hc.low i hi
  ·rw [eof hp] at hz
   replace hj : j < m.closings.toNat := hj
   obtain ⟨x, hX, rfl, -⟩ := rank_forth (by omega : x < (leastsL (rankL (reachedF m))).length)
   have l1 := (hm.ret1 p (hnn hp) hz).1
   have l2 := (hm.ret1 q (hnn hq) (by rw [← hc.of]; exact hz)).1
   rw [eret hp hX (by omega), eret hq hX (by omega), key (hcl.ret p x hp hX _ (ret_mem (by omega))), key (hcl.ret q x hq hX _ (ret_mem (by omega)))]
   exact hc.above hz j x hj hX
  ·replace hj : j < m.closings.toNat := hj
   obtain ⟨x, hX, rfl, -⟩ := rank_forth (by omega : x < (leastsL (rankL (reachedF m))).length)
   rw [eof hX] at hz
   have l1 := (hm.ret1 x (hnn hX) hz).1
   rw [eret hX hp (by omega), eret hX hq (by omega), key (hcl.ret x p hX hp _ (ret_mem (by omega))), key (hcl.ret x q hX hq _ (ret_mem (by omega)))]
   exact hc.below j x hj hX hz)
 rw [classesF_get hm hp, classesF_get hm hq]
 exact hco _ _ (by rw [hbl]; exact (rank_back hp).1) (by rw [hbl]; exact (rank_back hq).1) (by rw [dr hp, dr hq]; exact h)
structure Cover (m x : Mo) (π : Nat → Nat) : Prop where
 lt : ∀ s, s < x.of.length → π s < m.of.length
 pl : x.plains = m.plains
 cl : x.closings = m.closings
 of : ∀ s, s < x.of.length → x.of.getD s 0 = m.of.getD (π s) 0
 fin : ∀ s, s < x.of.length → x.final.getD s false = m.final.getD (π s) false
 elen : x.entry.length = m.entry.length
 entry : ∀ i, i < m.entry.length → π (x.entry.getD i 0).toNat = (m.entry.getD i 0).toNat
 inn : ∀ s i, s < x.of.length → i < m.plains.toNat → π ((x.inn.getD s []).getD i 0).toNat = ((m.inn.getD (π s) []).getD i 0).toNat
 low : ∀ s i, s < x.of.length → i < (x.low.getD s []).length → π ((x.low.getD s []).getD i 0).toNat = ((m.low.getD (π s) []).getD i 0).toNat
 ret : ∀ s t j, s < x.of.length → t < x.of.length → x.of.getD s 0 ≠ 0 → j < m.closings.toNat → π (((x.ret.getD s []).getD j []).getD t 0).toNat = (((m.ret.getD (π s) []).getD j []).getD (π t) 0).toNat
theorem mem_getD {l : List Int} {y : Int} (h : y ∈ l) : ∃ i, i < l.length ∧ y = l.getD i 0 := by
 obtain ⟨i, hi, rfl⟩ := List.getElem_of_mem h
 exact ⟨i, hi, by rw [List.getD_eq_getElem?_getD, List.getElem?_eq_getElem hi]; rfl⟩
theorem mem_col {rows : List (List Int)} {q : Nat} {y : Int} (h : y ∈ colL rows q) : ∃ j, j < rows.length ∧ y = (rows.getD j []).getD q 0 := by
 unfold colL at h
 obtain ⟨r, hr, rfl⟩ := List.mem_map.1 h
 obtain ⟨j, hj, rfl⟩ := List.getElem_of_mem hr
 exact ⟨j, hj, by rw [List.getD_eq_getElem?_getD (l := rows), List.getElem?_eq_getElem hj]; rfl⟩
theorem reached_lt {m : Mo} (hm : ModOk m) {p : Nat} (h : (reachedF m).getD p false = true) : p < m.of.length := by
 have := getD_lt_len h; have := reachedF_len hm.st; omega
end Go.Am
namespace Go.Am
def preL (is : List Bool) (n : Nat) : List Nat := (List.range n).filter fun q => is.getD q false
theorem preL_succ (is : List Bool) (n : Nat) : preL is (n + 1) = preL is n ++ (if is.getD n false then [n] else []) := by
 unfold preL
 rw [List.range_succ, List.filter_append]
 cases h : is.getD n false
 ·rw [List.filter_cons_of_neg (by rw [h]; simp)]; simp
 ·rw [List.filter_cons_of_pos (by rw [h])]; simp
theorem preL_mem {is : List Bool} {n q : Nat} : q ∈ preL is n ↔ q < n ∧ is.getD q false = true := by
 unfold preL
 rw [List.mem_filter, List.mem_range]
theorem least_pre (is : List Bool) : ∀ i, i ≤ is.length → leastL (rankL is) i = (preL is i).map (fun (p : Nat) => (p : Int))
 | 0, _ => rfl
 | i + 1, hi => by
  have ih := least_pre is i (by omega)
  have hr := rank_least is i (by omega)
  unfold leastL
  rw [rankL_get (by omega), preL_succ, hr]
  cases is.getD i false
  ·rw [if_neg (by simp)]; simpa using ih
  ·rw [if_pos (by simp), ih]; simp
theorem can_pre {m : Mo} (hm : ModOk m) : Can ((preL (reachedF m) m.of.length).map fun p => (classesF m).getD p 0) := by
 have hl := reachedF_len hm.st
 obtain ⟨c1, c2, -⟩ := classesOf_ok (bare_ok hm)
 have hbl : (bareF m).of.length = (leastsL (rankL (reachedF m))).length := by simp [bareF, mergedF]
 have hrl : (rankL (reachedF m)).length = (reachedF m).length := by simp [rankL]
 have e1 : leastsL (rankL (reachedF m)) = (preL (reachedF m) m.of.length).map (fun (p : Nat) => (p : Int)) := by
  show leastL _ _ = _
  rw [hrl, hl]; exact least_pre _ _ (by omega)
 have hpl : (preL (reachedF m) m.of.length).length = (leastsL (rankL (reachedF m))).length := by rw [e1, List.length_map]
 have : ((preL (reachedF m) m.of.length).map fun p => (classesF m).getD p 0) = classesOfF (bareF m) := by
  refine List.ext_getElem (by rw [List.length_map, c2, hbl, hpl]) fun i h1 h2 => ?_
  rw [List.length_map] at h1
  obtain ⟨x, hx, hn, he⟩ := rank_forth (is := reachedF m) (u := i) (by omega)
  rw [e1, map_getD _ _ h1 _ 0] at he
  have he2 : (preL (reachedF m) m.of.length)[i] = x := by
   rw [List.getD_eq_getElem?_getD, List.getElem?_eq_getElem h1] at he
   exact Int.ofNat.inj he
  rw [List.getElem_map, he2, classesF_get hm hx, hn, List.getD_eq_getElem?_getD, List.getElem?_eq_getElem h2]
  rfl
 rw [this]; exact c1
theorem can_snoc {c : List Int} (h : Can c) {v : Int} (hv : v ∈ c ∨ (v ∉ c ∧ v = (numD c : Int))) : Can (c ++ [v]) ∧ numD (c ++ [v]) = if v ∈ c then numD c else numD c + 1 := by
 have hm := num_mem c v
 have e : numQ (c ++ [v]) = num1 (numQ c) v := numQ_snoc c v
 have hi : ((numQ c).1.idxOf v : Int) = v := by
  rcases hv with hv | ⟨hv, e⟩
  ·obtain ⟨i, hi, rfl⟩ := List.getElem_of_mem hv
   have := num_get c i c[i] (List.getElem?_eq_getElem hi)
   rw [h, List.getElem?_eq_getElem hi] at this
   exact (Option.some.inj this).symm
  ·rw [List.idxOf_eq_length (fun q => hv (hm.1 q))]
   exact e.symm
 constructor
 ·show (numQ (c ++ [v])).2 = _
  rw [e]
  show (numQ c).2 ++ [((numQ c).1.idxOf v : Int)] = _
  rw [hi]
  exact congrArg (· ++ [v]) h
 ·show (numQ (c ++ [v])).1.length = _
  rw [e]
  show (if v ∈ (numQ c).1 then (numQ c).1 else (numQ c).1 ++ [v]).length = _
  by_cases q : v ∈ c
  ·rw [if_pos q, if_pos (hm.2 q)]; rfl
  ·rw [if_neg q, if_neg (fun r => q (hm.1 r)), List.length_append]; rfl
def AlikeP (m : Mo) (d : Nat → Int) (p q : Nat) : Prop := d p = d q ∧ CongD m d p q
theorem CongD.low_eq {m : Mo} (hm : ModOk m) {d : Nat → Int} {p q : Nat} (hp : p < m.of.length) (hq : q < m.of.length) (h : CongD m d p q) : (m.low.getD p []).length = (m.low.getD q []).length := by
 by_cases hz : m.of.getD p 0 = 0
 ·have := (hm.low0 p hp hz).1; have := (hm.low0 q hq (by rw [← h.of]; exact hz)).1; omega
 ·rw [hm.low1 p hp hz, hm.low1 q hq (by rw [← h.of]; exact hz)]
theorem AlikeP.symm {m : Mo} (hm : ModOk m) {d : Nat → Int} {p q : Nat} (hp : p < m.of.length) (hq : q < m.of.length) (h : AlikeP m d p q) : AlikeP m d q p :=
 ⟨h.1.symm, h.2.of.symm, h.2.fin.symm, fun i hi => (h.2.inn i hi).symm, fun i hi => (h.2.low i (by rw [h.2.low_eq hm hp hq]; exact hi)).symm, fun hz j x hj hx => (h.2.above (by rw [h.2.of]; exact hz) j x hj hx).symm, fun j x hj hx hz => (h.2.below j x hj hx hz).symm⟩
theorem AlikeP.trans {m : Mo} (hm : ModOk m) {d : Nat → Int} {p q r : Nat} (hp : p < m.of.length) (hq : q < m.of.length) (h : AlikeP m d p q) (k : AlikeP m d q r) : AlikeP m d p r :=
 ⟨h.1.trans k.1, h.2.of.trans k.2.of, h.2.fin.trans k.2.fin, fun i hi => (h.2.inn i hi).trans (k.2.inn i hi), fun i hi => (h.2.low i hi).trans (k.2.low i (by rw [← h.2.low_eq hm hp hq]; exact hi)), fun hz j x hj hx => (h.2.above hz j x hj hx).trans (k.2.above (by rw [← h.2.of]; exact hz) j x hj hx), fun j x hj hx hz => (h.2.below j x hj hx hz).trans (k.2.below j x hj hx hz)⟩
theorem AlikeP.refl {m : Mo} {d : Nat → Int} {p : Nat} : AlikeP m d p p := ⟨rfl, rfl, rfl, fun _ _ => rfl, fun _ _ => rfl, fun _ _ _ _ _ => rfl, fun _ _ _ _ _ => rfl⟩
structure Round (m : Mo) (d next : Nat → Int) (k n : Nat) : Prop where
 can : Can ((preL (reachedF m) k).map next)
 num : numD ((preL (reachedF m) k).map next) = n
 same : ∀ p q, p < k → q < k → (reachedF m).getD p false = true → (reachedF m).getD q false = true → (next p = next q ↔ AlikeP m d p q)
theorem Round.congr {m : Mo} {d e f : Nat → Int} {k n : Nat} (h : Round m d e k n) (he : ∀ p, p < k → f p = e p) : Round m d f k n := by
 have : (preL (reachedF m) k).map f = (preL (reachedF m) k).map e := List.map_congr_left fun p hp => he p (preL_mem.1 hp).1
 exact ⟨by rw [this]; exact h.can, by rw [this]; exact h.num, fun p q hp hq => by rw [he p hp, he q hq]; exact h.same p q hp hq⟩
theorem Round.zero {m : Mo} {d next : Nat → Int} : Round m d next 0 0 := ⟨rfl, rfl, fun p q hp => by omega⟩
theorem Round.skip {m : Mo} {d next : Nat → Int} {k n : Nat} (h : Round m d next k n) (hk : (reachedF m).getD k false = false) : Round m d next (k + 1) n := by
 have e : preL (reachedF m) (k + 1) = preL (reachedF m) k := by rw [preL_succ, hk]; simp
 refine ⟨by rw [e]; exact h.can, by rw [e]; exact h.num, fun p q hp hq h1 h2 => ?_⟩
 have hp' : p ≠ k := fun e => by rw [e, hk] at h1; cases h1
 have hq' : q ≠ k := fun e => by rw [e, hk] at h2; cases h2
 exact h.same p q (by omega) (by omega) h1 h2
theorem Round.old {m : Mo} (hm : ModOk m) {d next : Nat → Int} {k n q : Nat} (h : Round m d next k n) (hk : (reachedF m).getD k false = true) (hq : q < k) (hq1 : (reachedF m).getD q false = true) (ha : AlikeP m d k q) (he : next k = next q) : Round m d next (k + 1) n := by
 have e : preL (reachedF m) (k + 1) = preL (reachedF m) k ++ [k] := by rw [preL_succ, hk]; simp
 have hkl := reached_lt hm hk
 have hmem : next k ∈ (preL (reachedF m) k).map next := List.mem_map.2 ⟨q, preL_mem.2 ⟨hq, hq1⟩, he.symm⟩
 obtain ⟨c1, c2⟩ := can_snoc h.can (v := next k) (.inl hmem)
 rw [if_pos hmem, h.num] at c2
 have key : ∀ r, r < k → (reachedF m).getD r false = true → (next k = next r ↔ AlikeP m d k r) := fun r hr h1 => by
  rw [he, h.same q r hq hr hq1 h1]
  exact ⟨fun h2 => ha.trans hm hkl (by omega) h2, fun h2 => (ha.symm hm hkl (by omega)).trans hm (by omega) hkl h2⟩
 refine ⟨by rw [e, List.map_append]; exact c1, by rw [e, List.map_append]; exact c2, fun p r hp hr h1 h2 => ?_⟩
 by_cases ep : p = k
 ·subst ep
  by_cases er : r = p
  ·subst er; exact ⟨fun _ => AlikeP.refl, fun _ => rfl⟩
  ·exact key r (by omega) h2
 ·by_cases er : r = k
  ·subst er
   have := key p (by omega) h1
   exact ⟨fun x => (this.1 x.symm).symm hm hkl (by omega), fun x => (this.2 (x.symm hm (by omega) hkl)).symm⟩
  ·exact h.same p r (by omega) (by omega) h1 h2
theorem Round.new {m : Mo} (hm : ModOk m) {d next : Nat → Int} {k n : Nat} (h : Round m d next k n) (hk : (reachedF m).getD k false = true) (hno : ∀ q, q < k → (reachedF m).getD q false = true → ¬ AlikeP m d k q) (he : next k = (n : Int)) : Round m d next (k + 1) (n + 1) := by
 have e : preL (reachedF m) (k + 1) = preL (reachedF m) k ++ [k] := by rw [preL_succ, hk]; simp
 have hkl := reached_lt hm hk
 have hlt : ∀ r, r < k → (reachedF m).getD r false = true → next r < (n : Int) := fun r hr h1 => by
  have hmem : next r ∈ (preL (reachedF m) k).map next := List.mem_map.2 ⟨r, preL_mem.2 ⟨hr, h1⟩, rfl⟩
  have := num_bd _ _ (by rw [h.can]; exact hmem)
  have := h.num
  unfold numD at this
  omega
 have hmem : next k ∉ (preL (reachedF m) k).map next := fun q => by
  obtain ⟨r, h1, h2⟩ := List.mem_map.1 q
  have := hlt r (preL_mem.1 h1).1 (preL_mem.1 h1).2
  omega
 obtain ⟨c1, c2⟩ := can_snoc h.can (v := next k) (.inr ⟨hmem, by rw [h.num]; exact he⟩)
 rw [if_neg hmem, h.num] at c2
 refine ⟨by rw [e, List.map_append]; exact c1, by rw [e, List.map_append]; exact c2, fun p r hp hr h1 h2 => ?_⟩
 by_cases ep : p = k
 ·subst ep
  by_cases er : r = p
  ·subst er; exact ⟨fun _ => AlikeP.refl, fun _ => rfl⟩
  ·have := hlt r (by omega) h2
   exact ⟨fun x => by omega, fun x => absurd x (hno r (by omega) h2)⟩
 ·by_cases er : r = k
  ·subst er
   have := hlt p (by omega) h1
   exact ⟨fun x => by omega, fun x => absurd (x.symm hm (by omega) hkl) (hno p (by omega) h1)⟩
  ·exact h.same p r (by omega) (by omega) h1 h2
def CoarseR (m : Mo) (d : Nat → Int) : Prop := ∀ p q, (reachedF m).getD p false = true → (reachedF m).getD q false = true → (classesF m).getD p 0 = (classesF m).getD q 0 → d p = d q
theorem CoarseR.alike {m : Mo} (hm : ModOk m) {d : Nat → Int} (h : CoarseR m d) {p q : Nat} (hp : (reachedF m).getD p false = true) (hq : (reachedF m).getD q false = true) (e : (classesF m).getD p 0 = (classesF m).getD q 0) : AlikeP m d p q := by
 have c := classesF_cong hm hp hq e
 have hcl := reached_closed hm.st
 have lp := reached_lt hm hp
 have lq := reached_lt hm hq
 refine ⟨h p q hp hq e, c.of, c.fin, fun i hi => ?_, fun i hi => ?_, fun hz j x hj hx => ?_, fun j x hj hx hz => ?_⟩
 ·have l1 := (hm.inn p lp).1
  have l2 := (hm.inn q lq).1
  exact h _ _ (hcl.inn p hp _ (getD_memI (by omega))) (hcl.inn q hq _ (getD_memI (by omega))) (c.inn i hi)
 ·have hi2 : i < (m.low.getD q []).length := by
   by_cases hz : m.of.getD p 0 = 0
   ·have := (hm.low0 p lp hz).1; have := (hm.low0 q lq (by rw [← c.of]; exact hz)).1; omega
   ·rw [hm.low1 p lp hz] at hi; simp at hi
  exact h _ _ (hcl.low p hp _ (getD_memI hi)) (hcl.low q hq _ (getD_memI hi2)) (c.low i hi)
 ·have l1 := (hm.ret1 p lp hz).1
  have l2 := (hm.ret1 q lq (by rw [← c.of]; exact hz)).1
  exact h _ _ (hcl.ret p x hp hx _ (ret_mem (by omega))) (hcl.ret q x hq hx _ (ret_mem (by omega))) (c.above hz j x hj hx)
 ·have l1 := (hm.ret1 x (reached_lt hm hx) hz).1
  exact h _ _ (hcl.ret x p hx hp _ (ret_mem (by omega))) (hcl.ret x q hx hq _ (ret_mem (by omega))) (c.below j x hj hx hz)
theorem Round.coarse {m : Mo} (hm : ModOk m) {d next : Nat → Int} {n : Nat} (h : Round m d next m.of.length n) (hc : CoarseR m d) : CoarseR m next := fun p q hp hq e => (h.same p q (reached_lt hm hp) (reached_lt hm hq) hp hq).2 (hc.alike hm hp hq e)
theorem Round.finer {m : Mo} (hm : ModOk m) {d next : Nat → Int} {n : Nat} (h : Round m d next m.of.length n) : ∃ g : Int → Int, (preL (reachedF m) m.of.length).map d = ((preL (reachedF m) m.of.length).map next).map g := by
 have hex : ∀ v : Int, ∃ w : Int, ∀ p, (reachedF m).getD p false = true → next p = v → d p = w := fun v => by
  by_cases hv : ∃ p, (reachedF m).getD p false = true ∧ next p = v
  ·obtain ⟨p, h1, h2⟩ := hv
   exact ⟨d p, fun q h3 h4 => ((h.same q p (reached_lt hm h3) (reached_lt hm h1) h3 h1).1 (by rw [h4, h2])).1⟩
  ·exact ⟨0, fun p h1 h2 => absurd ⟨p, h1, h2⟩ hv⟩
 refine ⟨fun v => Classical.choose (hex v), ?_⟩
 rw [List.map_map]
 exact List.map_congr_left fun p hp => Classical.choose_spec (hex (next p)) p (preL_mem.1 hp).2 rfl
theorem Round.more {m : Mo} (hm : ModOk m) {d next : Nat → Int} {n : Nat} (h : Round m d next m.of.length n) : numD ((preL (reachedF m) m.of.length).map d) ≤ n := by
 obtain ⟨g, e⟩ := h.finer hm
 rw [e]
 have := (num_finer g ((preL (reachedF m) m.of.length).map next)).1
 rw [h.num] at this
 exact this
theorem numL_at {l : List Int} {i j : Nat} (hi : i < l.length) (hj : j < l.length) : (numL l)[i]? = (numL l)[j]? ↔ l[i] = l[j] := num_eq l hi hj
theorem Round.final {m : Mo} (hm : ModOk m) {d : Nat → Int} {next : List Int} {n : Nat} (h : Round m d (fun p => next.getD p 0) m.of.length n) (hc : CoarseR m d) (hn : numD ((preL (reachedF m) m.of.length).map d) = n) (hl : next.length = m.of.length) (hno : ∀ p, p < m.of.length → (reachedF m).getD p false = false → next.getD p 0 = -1) : next = classesF m := by
 obtain ⟨g, e⟩ := h.finer hm
 have hnum : numL ((preL (reachedF m) m.of.length).map d) = numL ((preL (reachedF m) m.of.length).map fun p => next.getD p 0) := by
  rw [e]
  exact (num_finer g _).2 (by rw [← e, hn, h.num])
 have hsame : ∀ p q, (reachedF m).getD p false = true → (reachedF m).getD q false = true → (d p = d q ↔ next.getD p 0 = next.getD q 0) := fun p q hp hq => by
  obtain ⟨i, hi, ei⟩ := List.getElem_of_mem (preL_mem.2 ⟨reached_lt hm hp, hp⟩)
  obtain ⟨j, hj, ej⟩ := List.getElem_of_mem (preL_mem.2 ⟨reached_lt hm hq, hq⟩)
  have h1 := numL_at (l := (preL (reachedF m) m.of.length).map d) (i := i) (j := j) (by simpa using hi) (by simpa using hj)
  have h2 := numL_at (l := (preL (reachedF m) m.of.length).map fun p => next.getD p 0) (i := i) (j := j) (by simpa using hi) (by simpa using hj)
  rw [hnum] at h1
  simp only [List.getElem_map, ei, ej] at h1 h2
  rw [← h1, ← h2]
 have hcl := reached_closed hm.st
 have hfin : ∀ p q, (reachedF m).getD p false = true → (reachedF m).getD q false = true → (next.getD p 0 = next.getD q 0 ↔ (classesF m).getD p 0 = (classesF m).getD q 0) := fun p q hp hq => by
  refine ⟨fun e => ?_, fun e => h.coarse hm hc p q hp hq e⟩
  refine classesF_coarse hm (d := d) (fun u v hu hv e => ?_) hp hq ((hsame p q hp hq).2 e)
  exact ((h.same u v (reached_lt hm hu) (reached_lt hm hv) hu hv).1 ((hsame u v hu hv).1 e)).2
 -- both are numbered aas they come
 have hex : ∀ v : Int, ∃ w : Int, ∀ p, (reachedF m).getD p false = true → next.getD p 0 = v → (classesF m).getD p 0 = w := fun v => by
  by_cases hv : ∃ p, (reachedF m).getD p false = true ∧ next.getD p 0 = v
  ·obtain ⟨p, h1, h2⟩ := hv
   exact ⟨_, fun q h3 h4 => (hfin q p h3 h1).1 (by rw [h4, h2])⟩
  ·exact ⟨0, fun p h1 h2 => absurd ⟨p, h1, h2⟩ hv⟩
 obtain ⟨f, hf⟩ : ∃ f : Int → Int, ∀ p, (reachedF m).getD p false = true → (classesF m).getD p 0 = f (next.getD p 0) := ⟨fun v => Classical.choose (hex v), fun p hp => Classical.choose_spec (hex (next.getD p 0)) p hp rfl⟩
 have hmap : (preL (reachedF m) m.of.length).map (fun p => (classesF m).getD p 0) = ((preL (reachedF m) m.of.length).map fun p => next.getD p 0).map f := by
  rw [List.map_map]
  exact List.map_congr_left fun p hp => hf p (preL_mem.1 hp).2
 have hinj := (num_map_inj f ((preL (reachedF m) m.of.length).map fun p => next.getD p 0) (fun a ha b hb e => by
  obtain ⟨p, h1, rfl⟩ := List.mem_map.1 ha
  obtain ⟨q, h2, rfl⟩ := List.mem_map.1 hb
  have hp := (preL_mem.1 h1).2
  have hq := (preL_mem.1 h2).2
  rw [← hf p hp, ← hf q hq] at e
  exact (hfin p q hp hq).2 e)).2
 rw [← hmap, can_pre hm, h.can] at hinj
 refine List.ext_getElem (by rw [hl, classesF_len hm]) fun i h1 h2 => ?_
 have g1 : next[i] = next.getD i 0 := by rw [List.getD_eq_getElem?_getD, List.getElem?_eq_getElem h1]; rfl
 have g2 : (classesF m)[i] = (classesF m).getD i 0 := by rw [List.getD_eq_getElem?_getD, List.getElem?_eq_getElem h2]; rfl
 rw [g1, g2]
 cases hr : (reachedF m).getD i false
 ·rw [hno i (by omega) hr]
  have hrl := reachedF_len hm.st
  unfold classesF
  rw [map_getD _ _ (by simp [rankL]; omega) _ 0, rankL_get (by omega), hr]
  rfl
 ·obtain ⟨k, hk, ek⟩ := List.getElem_of_mem (preL_mem.2 ⟨reached_lt hm hr, hr⟩)
  have := congrArg (fun l => l[k]?) hinj
  simp only [List.getElem?_map, List.getElem?_eq_getElem hk, ek, Option.map_some, Option.some.injEq] at this
  exact this.symm
theorem reached_eq {m : Mo} (hm : ModOk m) {got : List Bool} (hl : got.length = m.of.length) (hs : ∀ p, got.getD p false = true → (reachedF m).getD p false = true) (hc : Closed m got) : got = reachedF m := by
 have hrl := reachedF_len hm.st
 have hlt : ∀ {p : Nat}, got.getD p false = true → p < m.of.length := fun h => by have := getD_lt_len h; omega
 have key : ∀ p, (reachedF m).getD p false = true → got.getD p false = true := fun p hp => by
  have := reached_least hm.st (T := fun p => got.getD p.toNat false = true) ⟨fun p h => hc.entry p h, fun p h x hx => hc.inn _ h x hx, fun p h x hx => hc.low _ h x hx, fun p q h1 h2 _ _ x hx => hc.ret _ _ h1 h2 x hx⟩ hp
  rwa [Int.toNat_natCast] at this
 refine List.ext_getElem (by omega) fun i h1 h2 => ?_
 have g1 : got[i] = got.getD i false := by rw [List.getD_eq_getElem?_getD, List.getElem?_eq_getElem h1]; rfl
 have g2 : (reachedF m)[i] = (reachedF m).getD i false := by rw [List.getD_eq_getElem?_getD, List.getElem?_eq_getElem h2]; rfl
 rw [g1, g2]
 cases hg : got.getD i false
 ·cases hr : (reachedF m).getD i false
  ·rfl
  ·rw [key i hr] at hg; cases hg
 ·rw [hs i hg]
end Go.Am
