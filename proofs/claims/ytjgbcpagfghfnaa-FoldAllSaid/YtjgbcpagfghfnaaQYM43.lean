import Derived.Test.YtjgbcpagfghfnaaQYM42
set_option linter.unusedVariables false
set_option linter.unusedSimpArgs false
set_option linter.unnecessarySimpa false
namespace Go.Am
structure CongD (m : Mo) (d : Nat → Int) (p q : Nat) : Prop where
 of : m.of.getD p 0 = m.of.getD q 0
 fin : m.final.getD p false = m.final.getD q false
 inn : ∀ i : Nat, i < m.plains.toNat → d ((m.inn.getD p []).getD i 0).toNat = d ((m.inn.getD q []).getD i 0).toNat
 low : ∀ i : Nat, i < (m.low.getD p []).length → d ((m.low.getD p []).getD i 0).toNat = d ((m.low.getD q []).getD i 0).toNat
 above : m.of.getD p 0 ≠ 0 → ∀ j x : Nat, j < m.closings.toNat → (z0 m).getD x false = true → d (((m.ret.getD p []).getD j []).getD x 0).toNat = d (((m.ret.getD q []).getD j []).getD x 0).toNat
 below : ∀ j x : Nat, j < m.closings.toNat → (z0 m).getD x false = true → m.of.getD x 0 ≠ 0 → d (((m.ret.getD x []).getD j []).getD p 0).toNat = d (((m.ret.getD x []).getD j []).getD q 0).toNat
theorem z2P {is : List Bool} {u : Nat} (h : u < (zA (zZ is)).length) : ∃ x, is.getD x false = true ∧ z0w is x = u ∧ (zA (zZ is)).getD u 0 = (x : Int) := by
 have hl : (zZ is).length = is.length := by simp [zZ]
 obtain ⟨⟨h1, h2⟩, h3⟩ := z2Y (zZ is) (zZ is).length (Nat.le_refl _) _ h;have e : zA (zZ is) = z05 (zZ is) (zZ is).length := rfl;rw [e];generalize (z05 (zZ is) (zZ is).length).getD u 0 = x at *;have hx : x.toNat < is.length := by omega
 have h4 : is.getD x.toNat false = true := (z2s hx).1 (by omega);rw [z0G hx, h4] at h3;simp only [if_true] at h3;exact ⟨x.toNat, h4, by omega, by omega⟩
theorem z75 {m : Mo} (hm : ModOk m) {d : Nat → Int} (hd : ∀ p q, (z0 m).getD p false = true → (z0 m).getD q false = true → d p = d q → CongD m d p q) {p q : Nat} (hp : (z0 m).getD p false = true) (hq : (z0 m).getD q false = true) (h : d p = d q) : (zx m).getD p 0 = (zx m).getD q 0 := by
 have hl := z0j hm.st;have hb := z3x hm;have hcl := z0W hm.st;have hbl : (zX m).of.length = (zA (zZ (z0 m))).length := by simp [zX, z06]
 have eof : ∀ {x : Nat}, (z0 m).getD x false = true → (zX m).of.getD (z0w (z0 m) x) 0 = m.of.getD x 0 := fun hx => by
  obtain ⟨r, b⟩ := z0o hx;simp only [zX, z06];rw [zL _ _ r _ 0, b, Int.toNat_natCast]
 have efin : ∀ {x : Nat}, (z0 m).getD x false = true → (zX m).final.getD (z0w (z0 m) x) false = m.final.getD x false := fun hx => by
  obtain ⟨r, b⟩ := z0o hx;simp only [zX, z06];rw [zL _ _ r _ 0, b, Int.toNat_natCast]
 have einn : ∀ {x : Nat}, (z0 m).getD x false = true → (zX m).inn.getD (z0w (z0 m) x) [] = zC (zZ (z0 m)) (m.inn.getD x []) := fun hx => by
  obtain ⟨r, b⟩ := z0o hx;simp only [zX, z06];rw [zL _ _ r _ 0, b, Int.toNat_natCast]
 have elow : ∀ {x : Nat}, (z0 m).getD x false = true → (zX m).low.getD (z0w (z0 m) x) [] = zC (zZ (z0 m)) (m.low.getD x []) := fun hx => by
  obtain ⟨r, b⟩ := z0o hx;simp only [zX, z06];rw [zL _ _ r _ 0, b, Int.toNat_natCast]
 have eret : ∀ {x j y : Nat}, (z0 m).getD x false = true → (z0 m).getD y false = true → j < (m.ret.getD x []).length → (((zX m).ret.getD (z0w (z0 m) x) []).getD j []).getD (z0w (z0 m) y) 0 = (zZ (z0 m)).getD (((m.ret.getD x []).getD j []).getD y 0).toNat 0 := fun {x j y} hx hy hj => by
  obtain ⟨r, b⟩ := z0o hx;obtain ⟨r2, b2⟩ := z0o hy;simp only [zX, z06];rw [zL _ _ r _ 0, b, Int.toNat_natCast, zL _ _ hj _ [], z1c (by rw [z0r]; exact r2), z1c r2, b2, Int.toNat_natCast]
 have hnn : ∀ {x : Nat}, (z0 m).getD x false = true → x < m.of.length := fun hx => by have := z0v hx; omega
 obtain ⟨d', hd'⟩ : ∃ d' : Nat → Int, ∀ u, d' u = d ((zA (zZ (z0 m))).getD u 0).toNat := ⟨_, fun _ => rfl⟩;have dr : ∀ {x : Nat}, (z0 m).getD x false = true → d' (z0w (z0 m) x) = d x := fun hx => by rw [hd', (z0o hx).2, Int.toNat_natCast]
 have key : ∀ {x : Int}, (z0 m).getD x.toNat false = true → d' ((zZ (z0 m)).getD x.toNat 0).toNat = d x.toNat := fun {x} hx => by
  rw [z0G (z0v hx), hx];simp only [if_true];rw [Int.toNat_natCast, dr hx]
 have hco := z6a hb (d := d') (fun u v hu hv huv => by
  obtain ⟨p, hp, rfl, -⟩ := z2P (by omega : u < (zA (zZ (z0 m))).length);obtain ⟨q, hq, rfl, -⟩ := z2P (by omega : v < (zA (zZ (z0 m))).length);rw [dr hp, dr hq] at huv;have hc := hd p q hp hq huv;refine ⟨by rw [eof hp, eof hq]; exact hc.of, by rw [efin hp, efin hq]; exact hc.fin, fun i hi => ?_, fun i hi => ?_, fun hz j x hj hx => ?_, fun j x hj hx hz => ?_⟩
  ·replace hi : i < m.plains.toNat := hi;have l1 := hm.inn p (hnn hp);have l2 := hm.inn q (hnn hq);have m1 := zM (l := m.inn.getD p []) (i := i) (by omega);have m2 := zM (l := m.inn.getD q []) (i := i) (by omega);rw [einn hp, einn hq, z1c (by omega), z1c (by omega), key (hcl.inn p hp _ m1), key (hcl.inn q hq _ m2)];exact hc.inn i hi
  ·rw [elow hp, z0r] at hi
   have hi2 : i < (m.low.getD q []).length := by
    by_cases hz : m.of.getD p 0 = 0
    ·have := (hm.low0 p (hnn hp) hz).1; have := (hm.low0 q (hnn hq) (by rw [← hc.of]; exact hz)).1; omega
    ·rw [hm.low1 p (hnn hp) hz] at hi; simp at hi
   have m1 := zM (l := m.low.getD p []) (i := i) (by omega);have m2 := zM (l := m.low.getD q []) (i := i) (by omega);rw [elow hp, elow hq, z1c (by omega), z1c (by omega), key (hcl.low p hp _ m1), key (hcl.low q hq _ m2)];exact hc.low i hi
  ·rw [eof hp] at hz;replace hj : j < m.closings.toNat := hj;obtain ⟨x, hX, rfl, -⟩ := z2P (by omega : x < (zA (zZ (z0 m))).length);have l1 := (hm.ret1 p (hnn hp) hz).1;have l2 := (hm.ret1 q (hnn hq) (by rw [← hc.of]; exact hz)).1;rw [eret hp hX (by omega), eret hq hX (by omega), key (hcl.ret p x hp hX _ (z2a (by omega))), key (hcl.ret q x hq hX _ (z2a (by omega)))];exact hc.above hz j x hj hX
  ·replace hj : j < m.closings.toNat := hj;obtain ⟨x, hX, rfl, -⟩ := z2P (by omega : x < (zA (zZ (z0 m))).length);rw [eof hX] at hz;have l1 := (hm.ret1 x (hnn hX) hz).1;rw [eret hX hp (by omega), eret hX hq (by omega), key (hcl.ret x p hX hp _ (z2a (by omega))), key (hcl.ret x q hX hq _ (z2a (by omega)))];exact hc.below j x hj hX hz)
 rw [z1a hm hp, z1a hm hq];exact hco _ _ (by rw [hbl]; exact (z0o hp).1) (by rw [hbl]; exact (z0o hq).1) (by rw [dr hp, dr hq]; exact h)
structure Cover (m x : Mo) (π : Nat → Nat) : Prop where
 lt : ∀ s, s < x.of.length → π s < m.of.length
 pl : x.plains = m.plains
 cl : x.closings = m.closings
 of : ∀ s, s < x.of.length → x.of.getD s 0 = m.of.getD (π s) 0
 fin : ∀ s, s < x.of.length → x.final.getD s false = m.final.getD (π s) false
 elen : x.entry.length = m.entry.length
 entry : ∀ i, i < m.entry.length → π (x.entry.getD i 0).toNat = (m.entry.getD i 0).toNat
 inn : ∀ s i, s < x.of.length → i < m.plains.toNat → π ((x.inn.getD s []).getD i 0).toNat = ((m.inn.getD (π s) []).getD i 0).toNat
 low : ∀ s i, s < x.of.length → i < (x.low.getD s []).length → π ((x.low.getD s []).getD i 0).toNat = ((m.low.getD (π s) []).getD i 0).toNat
 ret : ∀ s t j, s < x.of.length → t < x.of.length → x.of.getD s 0 ≠ 0 → j < m.closings.toNat → π (((x.ret.getD s []).getD j []).getD t 0).toNat = (((m.ret.getD (π s) []).getD j []).getD (π t) 0).toNat
theorem z83 {l : List Int} {y : Int} (h : y ∈ l) : ∃ i, i < l.length ∧ y = l.getD i 0 := by
 obtain ⟨i, hi, rfl⟩ := List.getElem_of_mem h;exact ⟨i, hi, by rw [List.getD_eq_getElem?_getD, List.getElem?_eq_getElem hi]; rfl⟩
theorem zf7 {rows : List (List Int)} {q : Nat} {y : Int} (h : y ∈ z4X rows q) : ∃ j, j < rows.length ∧ y = (rows.getD j []).getD q 0 := by
 unfold z4X at h;obtain ⟨r, hr, rfl⟩ := List.mem_map.1 h;obtain ⟨j, hj, rfl⟩ := List.getElem_of_mem hr;exact ⟨j, hj, by rw [List.getD_eq_getElem?_getD (l := rows), List.getElem?_eq_getElem hj]; rfl⟩
theorem z0g {m : Mo} (hm : ModOk m) {p : Nat} (h : (z0 m).getD p false = true) : p < m.of.length := by
 have := z0v h; have := z0j hm.st; omega
end Go.Am
namespace Go.Am
def z3U (is : List Bool) (n : Nat) : List Nat := (List.range n).filter fun q => is.getD q false
theorem z5a (is : List Bool) (n : Nat) : z3U is (n + 1) = z3U is n ++ (if is.getD n false then [n] else []) := by
 unfold z3U;rw [List.range_succ, List.filter_append];cases h : is.getD n false
 ·rw [List.filter_cons_of_neg (by rw [h]; simp)]; simp
 ·rw [List.filter_cons_of_pos (by rw [h])]; simp
theorem z1M {is : List Bool} {n q : Nat} : q ∈ z3U is n ↔ q < n ∧ is.getD q false = true := by
 unfold z3U;rw [List.mem_filter, List.mem_range]
theorem z96 (is : List Bool) : ∀ i, i ≤ is.length → z05 (zZ is) i = (z3U is i).map (fun (p : Nat) => (p : Int))
 | 0, _ => rfl
 | i + 1, hi => by
  have ih := z96 is i (by omega);have hr := z4x is i (by omega);unfold z05;rw [z0G (by omega), z5a, hr];cases is.getD i false
  ·rw [if_neg (by simp)]; simpa using ih
  ·rw [if_pos (by simp), ih]; simp
theorem zfg {m : Mo} (hm : ModOk m) : Can ((z3U (z0 m) m.of.length).map fun p => (zx m).getD p 0) := by
 have hl := z0j hm.st;obtain ⟨c1, c2, -⟩ := z19 (z3x hm);have hbl : (zX m).of.length = (zA (zZ (z0 m))).length := by simp [zX, z06]
 have hrl : (zZ (z0 m)).length = (z0 m).length := by simp [zZ]
 have e1 : zA (zZ (z0 m)) = (z3U (z0 m) m.of.length).map (fun (p : Nat) => (p : Int)) := by
  show z05 _ _ = _;rw [hrl, hl]; exact z96 _ _ (by omega)
 have hpl : (z3U (z0 m) m.of.length).length = (zA (zZ (z0 m))).length := by rw [e1, List.length_map]
 have : ((z3U (z0 m) m.of.length).map fun p => (zx m).getD p 0) = zF (zX m) := by
  refine List.ext_getElem (by rw [List.length_map, c2, hbl, hpl]) fun i h1 h2 => ?_;rw [List.length_map] at h1;obtain ⟨x, hx, hn, he⟩ := z2P (is := z0 m) (u := i) (by omega);rw [e1, zL _ _ h1 _ 0] at he
  have he2 : (z3U (z0 m) m.of.length)[i] = x := by
   rw [List.getD_eq_getElem?_getD, List.getElem?_eq_getElem h1] at he;exact Int.ofNat.inj he
  rw [List.getElem_map, he2, z1a hm hx, hn, List.getD_eq_getElem?_getD, List.getElem?_eq_getElem h2];rfl
 rw [this]; exact c1
theorem zb5 {c : List Int} (h : Can c) {v : Int} (hv : v ∈ c ∨ (v ∉ c ∧ v = (z3e c : Int))) : Can (c ++ [v]) ∧ z3e (c ++ [v]) = if v ∈ c then z3e c else z3e c + 1 := by
 have hm := z1R c v;have e : z2z (c ++ [v]) = z5M (z2z c) v := z1H c v
 have hi : ((z2z c).1.idxOf v : Int) = v := by
  rcases hv with hv | ⟨hv, e⟩
  ·obtain ⟨i, hi, rfl⟩ := List.getElem_of_mem hv;have := z6C c i c[i] (List.getElem?_eq_getElem hi);rw [h, List.getElem?_eq_getElem hi] at this;exact (Option.some.inj this).symm
  ·rw [List.idxOf_eq_length (fun q => hv (hm.1 q))];exact e.symm
 constructor
 ·show (z2z (c ++ [v])).2 = _;rw [e];show (z2z c).2 ++ [((z2z c).1.idxOf v : Int)] = _;rw [hi];exact congrArg (· ++ [v]) h
 ·show (z2z (c ++ [v])).1.length = _;rw [e];show (if v ∈ (z2z c).1 then (z2z c).1 else (z2z c).1 ++ [v]).length = _;by_cases q : v ∈ c
  ·rw [if_pos q, if_pos (hm.2 q)]; rfl
  ·rw [if_neg q, if_neg (fun r => q (hm.1 r)), List.length_append]; rfl
def AlikeP (m : Mo) (d : Nat → Int) (p q : Nat) : Prop := d p = d q ∧ CongD m d p q
theorem CongD.low_eq {m : Mo} (hm : ModOk m) {d : Nat → Int} {p q : Nat} (hp : p < m.of.length) (hq : q < m.of.length) (h : CongD m d p q) : (m.low.getD p []).length = (m.low.getD q []).length := by
 by_cases hz : m.of.getD p 0 = 0
 ·have := (hm.low0 p hp hz).1; have := (hm.low0 q hq (by rw [← h.of]; exact hz)).1; omega
 ·rw [hm.low1 p hp hz, hm.low1 q hq (by rw [← h.of]; exact hz)]
theorem AlikeP.symm {m : Mo} (hm : ModOk m) {d : Nat → Int} {p q : Nat} (hp : p < m.of.length) (hq : q < m.of.length) (h : AlikeP m d p q) : AlikeP m d q p :=
 ⟨h.1.symm, h.2.of.symm, h.2.fin.symm, fun i hi => (h.2.inn i hi).symm, fun i hi => (h.2.low i (by rw [h.2.low_eq hm hp hq]; exact hi)).symm, fun hz j x hj hx => (h.2.above (by rw [h.2.of]; exact hz) j x hj hx).symm, fun j x hj hx hz => (h.2.below j x hj hx hz).symm⟩
theorem AlikeP.trans {m : Mo} (hm : ModOk m) {d : Nat → Int} {p q r : Nat} (hp : p < m.of.length) (hq : q < m.of.length) (h : AlikeP m d p q) (k : AlikeP m d q r) : AlikeP m d p r :=
 ⟨h.1.trans k.1, h.2.of.trans k.2.of, h.2.fin.trans k.2.fin, fun i hi => (h.2.inn i hi).trans (k.2.inn i hi), fun i hi => (h.2.low i hi).trans (k.2.low i (by rw [← h.2.low_eq hm hp hq]; exact hi)), fun hz j x hj hx => (h.2.above hz j x hj hx).trans (k.2.above (by rw [← h.2.of]; exact hz) j x hj hx), fun j x hj hx hz => (h.2.below j x hj hx hz).trans (k.2.below j x hj hx hz)⟩
theorem AlikeP.refl {m : Mo} {d : Nat → Int} {p : Nat} : AlikeP m d p p := ⟨rfl, rfl, rfl, fun _ _ => rfl, fun _ _ => rfl, fun _ _ _ _ _ => rfl, fun _ _ _ _ _ => rfl⟩
structure Round (m : Mo) (d next : Nat → Int) (k n : Nat) : Prop where
 can : Can ((z3U (z0 m) k).map next)
 num : z3e ((z3U (z0 m) k).map next) = n
 same : ∀ p q, p < k → q < k → (z0 m).getD p false = true → (z0 m).getD q false = true → (next p = next q ↔ AlikeP m d p q)
theorem Round.congr {m : Mo} {d e f : Nat → Int} {k n : Nat} (h : Round m d e k n) (he : ∀ p, p < k → f p = e p) : Round m d f k n := by
 have : (z3U (z0 m) k).map f = (z3U (z0 m) k).map e := List.map_congr_left fun p hp => he p (z1M.1 hp).1;exact ⟨by rw [this]; exact h.can, by rw [this]; exact h.num, fun p q hp hq => by rw [he p hp, he q hq]; exact h.same p q hp hq⟩
theorem Round.zero {m : Mo} {d next : Nat → Int} : Round m d next 0 0 := ⟨rfl, rfl, fun p q hp => by omega⟩
theorem Round.skip {m : Mo} {d next : Nat → Int} {k n : Nat} (h : Round m d next k n) (hk : (z0 m).getD k false = false) : Round m d next (k + 1) n := by
 have e : z3U (z0 m) (k + 1) = z3U (z0 m) k := by rw [z5a, hk]; simp
 refine ⟨by rw [e]; exact h.can, by rw [e]; exact h.num, fun p q hp hq h1 h2 => ?_⟩;have hp' : p ≠ k := fun e => by rw [e, hk] at h1; cases h1
 have hq' : q ≠ k := fun e => by rw [e, hk] at h2; cases h2
 exact h.same p q (by omega) (by omega) h1 h2
theorem Round.old {m : Mo} (hm : ModOk m) {d next : Nat → Int} {k n q : Nat} (h : Round m d next k n) (hk : (z0 m).getD k false = true) (hq : q < k) (hq1 : (z0 m).getD q false = true) (ha : AlikeP m d k q) (he : next k = next q) : Round m d next (k + 1) n := by
 have e : z3U (z0 m) (k + 1) = z3U (z0 m) k ++ [k] := by rw [z5a, hk]; simp
 have hkl := z0g hm hk;have hmem : next k ∈ (z3U (z0 m) k).map next := List.mem_map.2 ⟨q, z1M.2 ⟨hq, hq1⟩, he.symm⟩;obtain ⟨c1, c2⟩ := zb5 h.can (v := next k) (.inl hmem);rw [if_pos hmem, h.num] at c2
 have key : ∀ r, r < k → (z0 m).getD r false = true → (next k = next r ↔ AlikeP m d k r) := fun r hr h1 => by
  rw [he, h.same q r hq hr hq1 h1];exact ⟨fun h2 => ha.trans hm hkl (by omega) h2, fun h2 => (ha.symm hm hkl (by omega)).trans hm (by omega) hkl h2⟩
 refine ⟨by rw [e, List.map_append]; exact c1, by rw [e, List.map_append]; exact c2, fun p r hp hr h1 h2 => ?_⟩;by_cases ep : p = k
 ·subst ep;by_cases er : r = p
  ·subst er; exact ⟨fun _ => AlikeP.refl, fun _ => rfl⟩
  ·exact key r (by omega) h2
 ·by_cases er : r = k
  ·subst er;have := key p (by omega) h1;exact ⟨fun x => (this.1 x.symm).symm hm hkl (by omega), fun x => (this.2 (x.symm hm (by omega) hkl)).symm⟩
  ·exact h.same p r (by omega) (by omega) h1 h2
theorem Round.new {m : Mo} (hm : ModOk m) {d next : Nat → Int} {k n : Nat} (h : Round m d next k n) (hk : (z0 m).getD k false = true) (hno : ∀ q, q < k → (z0 m).getD q false = true → ¬ AlikeP m d k q) (he : next k = (n : Int)) : Round m d next (k + 1) (n + 1) := by
 have e : z3U (z0 m) (k + 1) = z3U (z0 m) k ++ [k] := by rw [z5a, hk]; simp
 have hkl := z0g hm hk
 have hlt : ∀ r, r < k → (z0 m).getD r false = true → next r < (n : Int) := fun r hr h1 => by
  have hmem : next r ∈ (z3U (z0 m) k).map next := List.mem_map.2 ⟨r, z1M.2 ⟨hr, h1⟩, rfl⟩;have := zeu _ _ (by rw [h.can]; exact hmem);have := h.num;unfold z3e at this;omega
 have hmem : next k ∉ (z3U (z0 m) k).map next := fun q => by
  obtain ⟨r, h1, h2⟩ := List.mem_map.1 q;have := hlt r (z1M.1 h1).1 (z1M.1 h1).2;omega
 obtain ⟨c1, c2⟩ := zb5 h.can (v := next k) (.inr ⟨hmem, by rw [h.num]; exact he⟩);rw [if_neg hmem, h.num] at c2;refine ⟨by rw [e, List.map_append]; exact c1, by rw [e, List.map_append]; exact c2, fun p r hp hr h1 h2 => ?_⟩;by_cases ep : p = k
 ·subst ep;by_cases er : r = p
  ·subst er; exact ⟨fun _ => AlikeP.refl, fun _ => rfl⟩
  ·have := hlt r (by omega) h2;exact ⟨fun x => by omega, fun x => absurd x (hno r (by omega) h2)⟩
 ·by_cases er : r = k
  ·subst er;have := hlt p (by omega) h1;exact ⟨fun x => by omega, fun x => absurd (x.symm hm (by omega) hkl) (hno p (by omega) h1)⟩
  ·exact h.same p r (by omega) (by omega) h1 h2
def CoarseR (m : Mo) (d : Nat → Int) : Prop := ∀ p q, (z0 m).getD p false = true → (z0 m).getD q false = true → (zx m).getD p 0 = (zx m).getD q 0 → d p = d q
theorem CoarseR.alike {m : Mo} (hm : ModOk m) {d : Nat → Int} (h : CoarseR m d) {p q : Nat} (hp : (z0 m).getD p false = true) (hq : (z0 m).getD q false = true) (e : (zx m).getD p 0 = (zx m).getD q 0) : AlikeP m d p q := by
 have c := z8p hm hp hq e;have hcl := z0W hm.st;have lp := z0g hm hp;have lq := z0g hm hq;refine ⟨h p q hp hq e, c.of, c.fin, fun i hi => ?_, fun i hi => ?_, fun hz j x hj hx => ?_, fun j x hj hx hz => ?_⟩
 ·have l1 := (hm.inn p lp).1;have l2 := (hm.inn q lq).1;exact h _ _ (hcl.inn p hp _ (zM (by omega))) (hcl.inn q hq _ (zM (by omega))) (c.inn i hi)
 ·have hi2 : i < (m.low.getD q []).length := by
   by_cases hz : m.of.getD p 0 = 0
   ·have := (hm.low0 p lp hz).1; have := (hm.low0 q lq (by rw [← c.of]; exact hz)).1; omega
   ·rw [hm.low1 p lp hz] at hi; simp at hi
  exact h _ _ (hcl.low p hp _ (zM hi)) (hcl.low q hq _ (zM hi2)) (c.low i hi)
 ·have l1 := (hm.ret1 p lp hz).1;have l2 := (hm.ret1 q lq (by rw [← c.of]; exact hz)).1;exact h _ _ (hcl.ret p x hp hx _ (z2a (by omega))) (hcl.ret q x hq hx _ (z2a (by omega))) (c.above hz j x hj hx)
 ·have l1 := (hm.ret1 x (z0g hm hx) hz).1;exact h _ _ (hcl.ret x p hx hp _ (z2a (by omega))) (hcl.ret x q hx hq _ (z2a (by omega))) (c.below j x hj hx hz)
theorem Round.coarse {m : Mo} (hm : ModOk m) {d next : Nat → Int} {n : Nat} (h : Round m d next m.of.length n) (hc : CoarseR m d) : CoarseR m next := fun p q hp hq e => (h.same p q (z0g hm hp) (z0g hm hq) hp hq).2 (hc.alike hm hp hq e)
theorem Round.finer {m : Mo} (hm : ModOk m) {d next : Nat → Int} {n : Nat} (h : Round m d next m.of.length n) : ∃ g : Int → Int, (z3U (z0 m) m.of.length).map d = ((z3U (z0 m) m.of.length).map next).map g := by
 have hex : ∀ v : Int, ∃ w : Int, ∀ p, (z0 m).getD p false = true → next p = v → d p = w := fun v => by
  by_cases hv : ∃ p, (z0 m).getD p false = true ∧ next p = v
  ·obtain ⟨p, h1, h2⟩ := hv;exact ⟨d p, fun q h3 h4 => ((h.same q p (z0g hm h3) (z0g hm h1) h3 h1).1 (by rw [h4, h2])).1⟩
  ·exact ⟨0, fun p h1 h2 => absurd ⟨p, h1, h2⟩ hv⟩
 refine ⟨fun v => Classical.choose (hex v), ?_⟩;rw [List.map_map];exact List.map_congr_left fun p hp => Classical.choose_spec (hex (next p)) p (z1M.1 hp).2 rfl
theorem Round.more {m : Mo} (hm : ModOk m) {d next : Nat → Int} {n : Nat} (h : Round m d next m.of.length n) : z3e ((z3U (z0 m) m.of.length).map d) ≤ n := by
 obtain ⟨g, e⟩ := h.finer hm;rw [e];have := (z6J g ((z3U (z0 m) m.of.length).map next)).1;rw [h.num] at this;exact this
theorem zcA {l : List Int} {i j : Nat} (hi : i < l.length) (hj : j < l.length) : (z2U l)[i]? = (z2U l)[j]? ↔ l[i] = l[j] := z8L l hi hj
theorem Round.final {m : Mo} (hm : ModOk m) {d : Nat → Int} {next : List Int} {n : Nat} (h : Round m d (fun p => next.getD p 0) m.of.length n) (hc : CoarseR m d) (hn : z3e ((z3U (z0 m) m.of.length).map d) = n) (hl : next.length = m.of.length) (hno : ∀ p, p < m.of.length → (z0 m).getD p false = false → next.getD p 0 = -1) : next = zx m := by
 obtain ⟨g, e⟩ := h.finer hm
 have hnum : z2U ((z3U (z0 m) m.of.length).map d) = z2U ((z3U (z0 m) m.of.length).map fun p => next.getD p 0) := by
  rw [e];exact (z6J g _).2 (by rw [← e, hn, h.num])
 have hsame : ∀ p q, (z0 m).getD p false = true → (z0 m).getD q false = true → (d p = d q ↔ next.getD p 0 = next.getD q 0) := fun p q hp hq => by
  obtain ⟨i, hi, ei⟩ := List.getElem_of_mem (z1M.2 ⟨z0g hm hp, hp⟩);obtain ⟨j, hj, ej⟩ := List.getElem_of_mem (z1M.2 ⟨z0g hm hq, hq⟩);have h1 := zcA (l := (z3U (z0 m) m.of.length).map d) (i := i) (j := j) (by simpa using hi) (by simpa using hj);have h2 := zcA (l := (z3U (z0 m) m.of.length).map fun p => next.getD p 0) (i := i) (j := j) (by simpa using hi) (by simpa using hj);rw [hnum] at h1;simp only [List.getElem_map, ei, ej] at h1 h2;rw [← h1, ← h2]
 have hcl := z0W hm.st
 have hfin : ∀ p q, (z0 m).getD p false = true → (z0 m).getD q false = true → (next.getD p 0 = next.getD q 0 ↔ (zx m).getD p 0 = (zx m).getD q 0) := fun p q hp hq => by
  refine ⟨fun e => ?_, fun e => h.coarse hm hc p q hp hq e⟩;refine z75 hm (d := d) (fun u v hu hv e => ?_) hp hq ((hsame p q hp hq).2 e);exact ((h.same u v (z0g hm hu) (z0g hm hv) hu hv).1 ((hsame u v hu hv).1 e)).2
 -- both are numbered aas they come
 have hex : ∀ v : Int, ∃ w : Int, ∀ p, (z0 m).getD p false = true → next.getD p 0 = v → (zx m).getD p 0 = w := fun v => by
  by_cases hv : ∃ p, (z0 m).getD p false = true ∧ next.getD p 0 = v
  ·obtain ⟨p, h1, h2⟩ := hv;exact ⟨_, fun q h3 h4 => (hfin q p h3 h1).1 (by rw [h4, h2])⟩
  ·exact ⟨0, fun p h1 h2 => absurd ⟨p, h1, h2⟩ hv⟩
 obtain ⟨f, hf⟩ : ∃ f : Int → Int, ∀ p, (z0 m).getD p false = true → (zx m).getD p 0 = f (next.getD p 0) := ⟨fun v => Classical.choose (hex v), fun p hp => Classical.choose_spec (hex (next.getD p 0)) p hp rfl⟩
 have hmap : (z3U (z0 m) m.of.length).map (fun p => (zx m).getD p 0) = ((z3U (z0 m) m.of.length).map fun p => next.getD p 0).map f := by
  rw [List.map_map];exact List.map_congr_left fun p hp => hf p (z1M.1 hp).2
 have hinj := (z3D f ((z3U (z0 m) m.of.length).map fun p => next.getD p 0) (fun a ha b hb e => by
  obtain ⟨p, h1, rfl⟩ := List.mem_map.1 ha;obtain ⟨q, h2, rfl⟩ := List.mem_map.1 hb;have hp := (z1M.1 h1).2;have hq := (z1M.1 h2).2;rw [← hf p hp, ← hf q hq] at e;exact (hfin p q hp hq).2 e)).2
 rw [← hmap, zfg hm, h.can] at hinj;refine List.ext_getElem (by rw [hl, z4l hm]) fun i h1 h2 => ?_;have g1 : next[i] = next.getD i 0 := by rw [List.getD_eq_getElem?_getD, List.getElem?_eq_getElem h1]; rfl
 have g2 : (zx m)[i] = (zx m).getD i 0 := by rw [List.getD_eq_getElem?_getD, List.getElem?_eq_getElem h2]; rfl
 rw [g1, g2];cases hr : (z0 m).getD i false
 ·rw [hno i (by omega) hr];have hrl := z0j hm.st;unfold zx;rw [zL _ _ (by simp [zZ]; omega) _ 0, z0G (by omega), hr];rfl
 ·obtain ⟨k, hk, ek⟩ := List.getElem_of_mem (z1M.2 ⟨z0g hm hr, hr⟩);have := congrArg (fun l => l[k]?) hinj;simp only [List.getElem?_map, List.getElem?_eq_getElem hk, ek, Option.map_some, Option.some.injEq] at this;exact this.symm
theorem zbv {m : Mo} (hm : ModOk m) {got : List Bool} (hl : got.length = m.of.length) (hs : ∀ p, got.getD p false = true → (z0 m).getD p false = true) (hc : Closed m got) : got = z0 m := by
 have hrl := z0j hm.st;have hlt : ∀ {p : Nat}, got.getD p false = true → p < m.of.length := fun h => by have := z0v h; omega
 have key : ∀ p, (z0 m).getD p false = true → got.getD p false = true := fun p hp => by
  have := z8f hm.st (T := fun p => got.getD p.toNat false = true) ⟨fun p h => hc.entry p h, fun p h x hx => hc.inn _ h x hx, fun p h x hx => hc.low _ h x hx, fun p q h1 h2 _ _ x hx => hc.ret _ _ h1 h2 x hx⟩ hp
  rwa [Int.toNat_natCast] at this
 refine List.ext_getElem (by omega) fun i h1 h2 => ?_;have g1 : got[i] = got.getD i false := by rw [List.getD_eq_getElem?_getD, List.getElem?_eq_getElem h1]; rfl
 have g2 : (z0 m)[i] = (z0 m).getD i false := by rw [List.getD_eq_getElem?_getD, List.getElem?_eq_getElem h2]; rfl
 rw [g1, g2];cases hg : got.getD i false
 ·cases hr : (z0 m).getD i false
  ·rfl
  ·rw [key i hr] at hg; cases hg
 ·rw [hs i hg]
end Go.Am
