import Derived.Test.YtjgbcpagfghfnaaQYM29
set_option linter.unusedVariables false
set_option linter.unusedSimpArgs false
set_option linter.unnecessarySimpa false
namespace Go.Am
theorem z6Y {c : List Int} {rows : List (List Int)} {p q : Nat} (hp : p < rows.length) (hq : q < rows.length) (h : (z0s c rows).getD p 0 = (z0s c rows).getD q 0) : z1Q c (rows.getD p []) p = z1Q c (rows.getD q []) q := by
 have hl := z3C c rows;unfold z0s at h hl
 have e := (z8L ((List.range rows.length).map fun p => z1Q c (rows.getD p []) p) (i := p) (j := q) (by simpa using hp) (by simpa using hq)).1 (by
  rw [List.getD_eq_getElem?_getD, List.getD_eq_getElem?_getD, List.getElem?_eq_getElem (by omega), List.getElem?_eq_getElem (by omega)] at h;rw [List.getElem?_eq_getElem (by omega), List.getElem?_eq_getElem (by omega)];exact congrArg some h)
 simpa using e
theorem z9l {c : List Int} {rows : List (List Int)} {p q : Nat} (hp : p < rows.length) (hq : q < rows.length) (h : (z0s c rows).getD p 0 = (z0s c rows).getD q 0) : c.getD p 0 = c.getD q 0 := by
 have := z6Y hp hq h;unfold z1Q at this;rw [List.cons_append, List.cons_append] at this;exact (List.cons.inj this).1
theorem zcU {c a b : List Int} {p q : Nat} (h : z1Q c a p = z1Q c b q) (hl : a.length = b.length) : (a.map fun q => c.getD q.toNat 0) = b.map fun q => c.getD q.toNat 0 := by
 unfold z1Q at h;rw [List.cons_append, List.cons_append] at h;exact (List.append_inj (List.cons.inj h).2 (by simp [hl])).1
theorem z7D {p q n : Nat} (hp : p < n) (hq : q < n) : ∀ (ways : List (List (List Int))) (c : List Int), (∀ r ∈ ways, r.length = n) → (z12 ways c).getD p 0 = (z12 ways c).getD q 0 → c.getD p 0 = c.getD q 0
 | [], _, _, h => h
 | r :: ways, c, hw, h => by
  have hr := hw r (List.mem_cons_self ..);exact z9l (by omega) (by omega) (z7D hp hq ways (z0s c r) (fun r hr => hw r (List.mem_cons_of_mem _ hr)) h)
theorem z5R {p q n : Nat} (hp : p < n) (hq : q < n) (ways : List (List (List Int))) (hw : ∀ r ∈ ways, r.length = n) : ∀ (f : Nat) (c : List Int), (z1b ways f c).getD p 0 = (z1b ways f c).getD q 0 → c.getD p 0 = c.getD q 0
 | 0, _, h => h
 | f + 1, c, h => by
  unfold z1b at h;split at h
  ·exact h
  ·exact z7D hp hq ways c hw (z5R hp hq ways hw f _ h)
theorem z7C : ∀ (ways : List (List (List Int))) (c : List Int) (n : Nat), Can c → c.length = n → (∀ r ∈ ways, r.length = n) → z12 ways c = c → ∀ r ∈ ways, z0s c r = c
 | [], _, _, _, _, _, _, r, hr => by simp at hr
 | a :: ways, c, n, hc, hl, hw, h, r, hr => by
  have h1 := z5j hc (rows := a) (by rw [hw a (List.mem_cons_self ..), hl]);have h2 := z2D ways (c := z0s c a) (n := n) (z7U _) (by rw [z3C, hw a (List.mem_cons_self ..)]) (fun r hr => hw r (List.mem_cons_of_mem _ hr));have e : z12 (a :: ways) c = z12 ways (z0s c a) := rfl;rw [e] at h;rw [h] at h2;have q1 := h1.2 (by have := h1.1; have := h2.2.2.1; omega);rcases List.mem_cons.1 hr with rfl | hr
  ·exact q1
  ·rw [q1] at h;exact z7C ways c n hc hl (fun r hr => hw r (List.mem_cons_of_mem _ hr)) h r hr
structure Cong (m : Mo) (c : Nat → Int) (p q : Nat) : Prop where
 of : m.of.getD p 0 = m.of.getD q 0
 fin : m.final.getD p false = m.final.getD q false
 inn : ∀ i : Nat, i < m.plains.toNat → c ((m.inn.getD p []).getD i 0).toNat = c ((m.inn.getD q []).getD i 0).toNat
 low : ∀ i : Nat, i < (m.low.getD p []).length → c ((m.low.getD p []).getD i 0).toNat = c ((m.low.getD q []).getD i 0).toNat
 above : m.of.getD p 0 ≠ 0 → ∀ j x : Nat, j < m.closings.toNat → x < m.of.length → c (((m.ret.getD p []).getD j []).getD x 0).toNat = c (((m.ret.getD q []).getD j []).getD x 0).toNat
 below : ∀ j x : Nat, j < m.closings.toNat → x < m.of.length → m.of.getD x 0 ≠ 0 → c (((m.ret.getD x []).getD j []).getD p 0).toNat = c (((m.ret.getD x []).getD j []).getD q 0).toNat
theorem zcl {c a b : List Int} {i : Nat} (h : (a.map fun q => c.getD q.toNat 0) = b.map fun q => c.getD q.toNat 0) (hi : i < a.length) : c.getD (a.getD i 0).toNat 0 = c.getD (b.getD i 0).toNat 0 := by
 have hl : a.length = b.length := by have := congrArg List.length h; simpa using this
 have := congrArg (fun l => l.getD i 0) h
 rwa [zL _ _ hi _ 0, zL _ _ (by omega) _ 0] at this
theorem z4N {m : Mo} (hm : ModOk m) {p q : Nat} (hp : p < m.of.length) (hq : q < m.of.length) (h : (zF m).getD p 0 = (zF m).getD q 0) : Cong m (fun x => (zF m).getD x 0) p q := by
 obtain ⟨c1, c2, c3⟩ := z19 hm;have hw := z59 hm;have hr := z7C _ _ _ c1 c2 hw c3;have h0 : (z2A m).getD p 0 = (z2A m).getD q 0 := z5R hp hq _ hw _ _ h
 have hf : z17 m p = z17 m q := by
  have hl := z4C m;unfold z2A at h0 hl
  have := (z8L ((List.range m.of.length).map (z17 m)) (i := p) (j := q) (by simpa using hp) (by simpa using hq)).1 (by
   rw [List.getD_eq_getElem?_getD, List.getD_eq_getElem?_getD, List.getElem?_eq_getElem (by omega), List.getElem?_eq_getElem (by omega)] at h0;rw [List.getElem?_eq_getElem (by omega), List.getElem?_eq_getElem (by omega)];exact congrArg some h0)
  simpa using this
 have hof : m.of.getD p 0 = m.of.getD q 0 := by unfold z17 at hf; exact (List.cons.inj hf).1
 have hfin : m.final.getD p false = m.final.getD q false := by
  unfold z17 at hf;have := (List.cons.inj (List.cons.inj hf).2).1;revert this;cases m.final.getD p false <;> cases m.final.getD q false <;> simp
 generalize hc : zF m = c at *
 have hrow : ∀ r ∈ z1F m, (r.getD p []).length = (r.getD q []).length → ((r.getD p []).map fun q => c.getD q.toNat 0) = (r.getD q []).map fun q => c.getD q.toNat 0 := by
  intro r hrm hl;have e := hr r hrm;exact zcU (z6Y (c := c) (rows := r) (by rw [hw r hrm]; exact hp) (by rw [hw r hrm]; exact hq) (by rw [e]; exact h)) hl
 have hin : m.inn ∈ z1F m := by simp [z1F]
 have hlo : m.low ∈ z1F m := by simp [z1F]
 have hab : ∀ j, j < m.closings.toNat → z0O m j ∈ z1F m := fun j hj => List.mem_append_right _ (List.mem_flatMap.2 ⟨j, List.mem_range.2 hj, List.mem_cons_self ..⟩);have hbe : ∀ j, j < m.closings.toNat → z0M m j ∈ z1F m := fun j hj => List.mem_append_right _ (List.mem_flatMap.2 ⟨j, List.mem_range.2 hj, List.mem_cons_of_mem _ (List.mem_cons_self ..)⟩);have hrg : ∀ {k : Nat}, k < m.of.length → (List.range m.of.length).getD k 0 = k := fun hk => by rw [List.getD_eq_getElem?_getD, List.getElem?_eq_getElem (by simpa using hk)]; simp
 refine ⟨hof, hfin, fun i hi => ?_, fun i hi => ?_, fun hz j x hj hx => ?_, fun j x hj hx hz => ?_⟩
 ·have l1 := (hm.inn p hp).1;have l2 := (hm.inn q hq).1;exact zcl (hrow _ hin (by omega)) (by omega)
 ·refine zcl (hrow _ hlo ?_) hi;by_cases hz : m.of.getD p 0 = 0
  ·have l1 := (hm.low0 p hp hz).1;have l2 := (hm.low0 q hq (by omega)).1;omega
  ·rw [hm.low1 p hp hz, hm.low1 q hq (by omega)]
 ·have hz' : m.of.getD q 0 ≠ 0 := by omega
  obtain ⟨l1, k1⟩ := hm.ret1 p hp hz;obtain ⟨l2, k2⟩ := hm.ret1 q hq hz'
  have e1 : (z0O m j).getD p [] = (m.ret.getD p []).getD j [] := by
   unfold z0O; rw [zL _ _ (by simpa using hp) _ 0, hrg hp, if_neg hz]
  have e2 : (z0O m j).getD q [] = (m.ret.getD q []).getD j [] := by
   unfold z0O; rw [zL _ _ (by simpa using hq) _ 0, hrg hq, if_neg hz']
  have e := hrow _ (hab j hj) (by rw [e1, e2, (k1 j (by omega)).1, (k2 j (by omega)).1]);rw [e1, e2] at e;exact zcl e (by rw [(k1 j (by omega)).1]; exact hx)
 ·have e1 : ∀ {k : Nat}, k < m.of.length → (z0M m j).getD k [] = ((List.range m.of.length).filter fun p => decide (m.of.getD p 0 ≠ 0)).map fun p => ((m.ret.getD p []).getD j []).getD k 0 := fun {k} hk => by
   unfold z0M; rw [zL _ _ (by simpa using hk) _ 0, hrg hk]
  have e := hrow _ (hbe j hj) (by rw [e1 hp, e1 hq]; simp);rw [e1 hp, e1 hq, List.map_map, List.map_map] at e;have hmem : x ∈ (List.range m.of.length).filter fun p => decide (m.of.getD p 0 ≠ 0) := List.mem_filter.2 ⟨List.mem_range.2 hx, by simpa using hz⟩;exact List.map_inj_left.1 e x hmem
theorem z0o {is : List Bool} {p : Nat} (h : is.getD p false = true) : z0w is p < (zA (zZ is)).length ∧ (zA (zZ is)).getD (z0w is p) 0 = p := by
 have hp := z0v h;have hl : (zZ is).length = is.length := by simp [zZ]
 have hn := zaX hp h;obtain ⟨⟨h1, h2⟩, h3⟩ := z2Y (zZ is) (zZ is).length (Nat.le_refl _) _ hn;refine ⟨hn, ?_⟩;change (z05 (zZ is) (zZ is).length).getD (z0w is p) 0 = p;generalize (z05 (zZ is) (zZ is).length).getD (z0w is p) 0 = x at *;have hx : x.toNat < is.length := by omega
 have h4 : is.getD x.toNat false = true := (z2s hx).1 (by omega);rw [z0G hx, h4] at h3;simp only [if_true] at h3;have := zaY hx hp h4 h (by omega);omega
theorem z1a {m : Mo} (hm : ModOk m) {p : Nat} (h : (z0 m).getD p false = true) : (zx m).getD p 0 = (zF (zX m)).getD (z0w (z0 m) p) 0 := by
 have hp := z0v h;have hl : (zZ (z0 m)).length = (z0 m).length := by simp [zZ]
 unfold zx;rw [zL _ _ (by omega) _ 0, z0G hp, h];simp only [if_true];rw [if_neg (by omega), Int.toNat_natCast]
theorem z1c {l places : List Int} {i : Nat} (h : i < places.length) : (zC l places).getD i 0 = l.getD (places.getD i 0).toNat 0 := by
 unfold zC; rw [zL _ _ h _ 0]
structure CongR (m : Mo) (p q : Nat) : Prop where
 of : m.of.getD p 0 = m.of.getD q 0
 fin : m.final.getD p false = m.final.getD q false
 inn : ∀ i : Nat, i < m.plains.toNat → (zx m).getD ((m.inn.getD p []).getD i 0).toNat 0 = (zx m).getD ((m.inn.getD q []).getD i 0).toNat 0
 low : ∀ i : Nat, i < (m.low.getD p []).length → (zx m).getD ((m.low.getD p []).getD i 0).toNat 0 = (zx m).getD ((m.low.getD q []).getD i 0).toNat 0
 above : m.of.getD p 0 ≠ 0 → ∀ j x : Nat, j < m.closings.toNat → (z0 m).getD x false = true → (zx m).getD (((m.ret.getD p []).getD j []).getD x 0).toNat 0 = (zx m).getD (((m.ret.getD q []).getD j []).getD x 0).toNat 0
 below : ∀ j x : Nat, j < m.closings.toNat → (z0 m).getD x false = true → m.of.getD x 0 ≠ 0 → (zx m).getD (((m.ret.getD x []).getD j []).getD p 0).toNat 0 = (zx m).getD (((m.ret.getD x []).getD j []).getD q 0).toNat 0
theorem z2a {m : Mo} {p j q : Nat} (hj : j < (m.ret.getD p []).length) : ((m.ret.getD p []).getD j []).getD q 0 ∈ z4X (m.ret.getD p []) q := by
 unfold z4X;refine List.mem_map.2 ⟨_, ?_, rfl⟩;rw [List.getD_eq_getElem?_getD (i := j), List.getElem?_eq_getElem hj];exact List.getElem_mem _
theorem z8p {m : Mo} (hm : ModOk m) {p q : Nat} (hp : (z0 m).getD p false = true) (hq : (z0 m).getD q false = true) (h : (zx m).getD p 0 = (zx m).getD q 0) : CongR m p q := by
 have hl := z0j hm.st;have hb := z3x hm;have hcl := z0W hm.st;have hpn := z0v hp;have hqn := z0v hq;rw [z1a hm hp, z1a hm hq] at h;obtain ⟨rp, bp⟩ := z0o hp;obtain ⟨rq, bq⟩ := z0o hq;have hbl : (zX m).of.length = (zA (zZ (z0 m))).length := by simp [zX, z06]
 have hc := z4N hb (by omega) (by omega) h
 have eof : ∀ {x : Nat}, (z0 m).getD x false = true → (zX m).of.getD (z0w (z0 m) x) 0 = m.of.getD x 0 := fun hx => by
  obtain ⟨r, b⟩ := z0o hx;simp only [zX, z06];rw [zL _ _ r _ 0, b, Int.toNat_natCast]
 have efin : ∀ {x : Nat}, (z0 m).getD x false = true → (zX m).final.getD (z0w (z0 m) x) false = m.final.getD x false := fun hx => by
  obtain ⟨r, b⟩ := z0o hx;simp only [zX, z06];rw [zL _ _ r _ 0, b, Int.toNat_natCast]
 have einn : ∀ {x : Nat}, (z0 m).getD x false = true → (zX m).inn.getD (z0w (z0 m) x) [] = zC (zZ (z0 m)) (m.inn.getD x []) := fun hx => by
  obtain ⟨r, b⟩ := z0o hx;simp only [zX, z06];rw [zL _ _ r _ 0, b, Int.toNat_natCast]
 have elow : ∀ {x : Nat}, (z0 m).getD x false = true → (zX m).low.getD (z0w (z0 m) x) [] = zC (zZ (z0 m)) (m.low.getD x []) := fun hx => by
  obtain ⟨r, b⟩ := z0o hx;simp only [zX, z06];rw [zL _ _ r _ 0, b, Int.toNat_natCast]
 have eret : ∀ {x j y : Nat}, (z0 m).getD x false = true → (z0 m).getD y false = true → j < (m.ret.getD x []).length → (((zX m).ret.getD (z0w (z0 m) x) []).getD j []).getD (z0w (z0 m) y) 0 = (zZ (z0 m)).getD (((m.ret.getD x []).getD j []).getD y 0).toNat 0 := fun {x j y} hx hy hj => by
  obtain ⟨r, b⟩ := z0o hx;obtain ⟨r2, b2⟩ := z0o hy;simp only [zX, z06];rw [zL _ _ r _ 0, b, Int.toNat_natCast, zL _ _ hj _ [], z1c (by rw [z0r]; exact r2), z1c r2, b2, Int.toNat_natCast]
 -- a reached state's class
 have key : ∀ {x : Int}, 0 ≤ x → (z0 m).getD x.toNat false = true → (zx m).getD x.toNat 0 = (zF (zX m)).getD ((zZ (z0 m)).getD x.toNat 0).toNat 0 := fun {x} h0 hx => by
  rw [z1a hm hx, z0G (z0v hx), hx];simp
 have hnn : ∀ {x : Nat}, (z0 m).getD x false = true → x < m.of.length := fun hx => by have := z0v hx; omega
 have hof : m.of.getD p 0 = m.of.getD q 0 := by have := hc.of; rwa [eof hp, eof hq] at this
 refine ⟨hof, ?_, fun i hi => ?_, fun i hi => ?_, fun hz j x hj hx => ?_, fun j x hj hx hz => ?_⟩
 ·have := hc.fin; rwa [efin hp, efin hq] at this
 ·have l1 := hm.inn p (hnn hp);have l2 := hm.inn q (hnn hq);have m1 := zM (l := m.inn.getD p []) (i := i) (by omega);have m2 := zM (l := m.inn.getD q []) (i := i) (by omega);have := hc.inn i hi;rw [einn hp, einn hq, z1c (by omega), z1c (by omega)] at this;rw [key (l1.2 _ m1).1.1 (hcl.inn p hp _ m1), key (l2.2 _ m2).1.1 (hcl.inn q hq _ m2)];exact this
 ·have hi2 : i < (m.low.getD q []).length := by
   by_cases hz : m.of.getD p 0 = 0
   ·have := (hm.low0 p (hnn hp) hz).1; have := (hm.low0 q (hnn hq) (by omega)).1; omega
   ·rw [hm.low1 p (hnn hp) hz] at hi; simp at hi
  have m1 := zM (l := m.low.getD p []) (i := i) (by omega);have m2 := zM (l := m.low.getD q []) (i := i) (by omega);have := hc.low i (by rw [elow hp, z0r]; exact hi);rw [elow hp, elow hq, z1c (by omega), z1c (by omega)] at this;rw [key (hm.st.low _ _ m1).1 (hcl.low p hp _ m1), key (hm.st.low _ _ m2).1 (hcl.low q hq _ m2)];exact this
 ·have l1 := (hm.ret1 p (hnn hp) hz).1;have l2 := (hm.ret1 q (hnn hq) (by omega)).1;obtain ⟨rx, bx⟩ := z0o hx;have := hc.above (by rw [eof hp]; exact hz) j (z0w (z0 m) x) hj (by omega);rw [eret hp hx (by omega), eret hq hx (by omega)] at this;have m1 := z2a (m := m) (p := p) (j := j) (q := x) (by omega);have m2 := z2a (m := m) (p := q) (j := j) (q := x) (by omega);rw [key (hm.st.ret _ _ (hnn hx) _ m1).1 (hcl.ret p x hp hx _ m1), key (hm.st.ret _ _ (hnn hx) _ m2).1 (hcl.ret q x hq hx _ m2)];exact this
 ·have l1 := (hm.ret1 x (hnn hx) hz).1;obtain ⟨rx, bx⟩ := z0o hx;have := hc.below j (z0w (z0 m) x) hj (by omega) (by rw [eof hx]; exact hz);rw [eret hx hp (by omega), eret hx hq (by omega)] at this;have m1 := z2a (m := m) (p := x) (j := j) (q := p) (by omega);have m2 := z2a (m := m) (p := x) (j := j) (q := q) (by omega);rw [key (hm.st.ret _ _ (hnn hp) _ m1).1 (hcl.ret x p hx hp _ m1), key (hm.st.ret _ _ (hnn hq) _ m2).1 (hcl.ret x q hx hq _ m2)];exact this
structure Sim (m : Mo) (s t : Int × List Int) : Prop where
 len : s.2.length = t.2.length
 left : ∀ i, i < s.2.length → (zx m).getD (s.2.getD i 0).toNat 0 = (zx m).getD (t.2.getD i 0).toNat 0
 at' : (zx m).getD s.1.toNat 0 = (zx m).getD t.1.toNat 0
end Go.Am
namespace Go.Am
theorem z4b {T : Int → Prop} (l : List Int) : ∀ s : List Bool × List Int, (∀ q ∈ s.2, T q) → (∀ p ∈ l, T p) → ∀ q ∈ (z37 s l).2, T q := by
 induction l with
 | nil => intro s h _; exact h
 | cons a l ih =>
  intro s h hl;refine ih (z3W s a) (fun q hq => ?_) fun p hp => hl p (List.mem_cons_of_mem _ hp);unfold z3W at hq;split at hq
  ·exact h q hq
  ·rcases List.mem_append.1 hq with hq | hq
   ·exact h q hq
   ·rw [List.mem_singleton.1 hq]; exact hl a (List.mem_cons_self ..)
theorem zaV {m : Mo} {T : Int → Prop} (hT : RClosed m T) {p : Int} (hp : T p ∧ 0 ≤ p ∧ p < (m.of.length : Int)) : ∀ (l : List Int) (s : List Bool × List Int), (∀ q ∈ s.2, T q) → (∀ q ∈ l, T q ∧ 0 ≤ q ∧ q < (m.of.length : Int)) → ∀ q ∈ (l.foldl (z5u m p) s).2, T q
 | [], _, h, _ => h
 | a :: l, s, h, hl => by
  have ha := hl a (List.mem_cons_self ..);refine zaV hT hp l _ ?_ fun q hq => hl q (List.mem_cons_of_mem _ hq);refine z4b _ _ (z4b _ _ h (hT.ret p a hp.1 ha.1 ha.2.1 ha.2.2)) (hT.ret a p ha.1 hp.1 hp.2.1 hp.2.2)
theorem z6X {m : Mo} (hm : MoSt m) {T : Int → Prop} (hT : RClosed m T) : ∀ (f i : Nat) (s : List Bool × List Int), SOk m.of.length s → (∀ q ∈ s.2, T q) → ∀ q ∈ (z2b m f i s).2, T q
 | 0, _, _, _, h => h
 | f + 1, i, s, hs, h => by
  unfold z2b;split
  ·rename_i hi;refine z6X hm hT f _ _ (z4i hm hs hi) ?_;have hmem := zM hi;have hp := hs.lt hmem;have h1 := z6F hm (p := s.2.getD i 0) hs;have a1 : ∀ q ∈ (z3P m (s.2.getD i 0) s).2, T q := z4b _ _ (z4b _ _ h (hT.inn _ (h _ hmem))) (hT.low _ (h _ hmem));exact zaV hT ⟨h _ hmem, hp⟩ _ _ a1 fun q hq => ⟨a1 q (List.mem_of_mem_take hq), h1.lt (List.mem_of_mem_take hq)⟩
  ·exact h
theorem z8f {m : Mo} (hm : MoSt m) {T : Int → Prop} (hT : RClosed m T) {p : Nat} (h : (z0 m).getD p false = true) : T p := by
 have := z6X hm hT (m.of.length + 1) 0 _ (z7X hm) (z4b _ _ (by simp) hT.entry);exact this p (((z6H hm).mem p).2 ⟨by omega, by rw [Int.toNat_natCast]; exact h⟩)
theorem zbw {c : List Int} {rows : List (List Int)} {p q : Nat} (hp : p < rows.length) (hq : q < rows.length) (h : z1Q c (rows.getD p []) p = z1Q c (rows.getD q []) q) : (z0s c rows).getD p 0 = (z0s c rows).getD q 0 := by
 have e := (z8L ((List.range rows.length).map fun p => z1Q c (rows.getD p []) p) (i := p) (j := q) (by simpa using hp) (by simpa using hq)).2 (by simpa using h);unfold z0s;rw [List.getD_eq_getElem?_getD, List.getD_eq_getElem?_getD, e]
def z6A (d : Nat → Int) (n : Nat) (c : List Int) : Prop := ∀ p q, p < n → q < n → d p = d q → c.getD p 0 = c.getD q 0
def zeU (d : Nat → Int) (n : Nat) (r : List (List Int)) : Prop := r.length = n ∧ ∀ p q, p < n → q < n → d p = d q → (r.getD p []).length = (r.getD q []).length ∧ ∀ i, i < (r.getD p []).length → ((r.getD p []).getD i 0).toNat < n ∧ ((r.getD q []).getD i 0).toNat < n ∧ d ((r.getD p []).getD i 0).toNat = d ((r.getD q []).getD i 0).toNat
theorem z8g {d : Nat → Int} {n : Nat} {c : List Int} {r : List (List Int)} (hc : z6A d n c) (hr : zeU d n r) : z6A d n (z0s c r) := by
 intro p q hp hq h;obtain ⟨h1, h2⟩ := hr.2 p q hp hq h;refine zbw (by rw [hr.1]; exact hp) (by rw [hr.1]; exact hq) ?_;unfold z1Q;rw [hc p q hp hq h, h1]
 have : ((r.getD p []).map fun q => c.getD q.toNat 0) = (r.getD q []).map fun q => c.getD q.toNat 0 := by
  refine List.ext_getElem (by rw [List.length_map, List.length_map, h1]) fun i i1 i2 => ?_;simp only [List.length_map] at i1 i2;obtain ⟨q1, q2, q3⟩ := h2 i i1;rw [List.getElem_map, List.getElem_map];have := hc _ _ q1 q2 q3;rw [List.getD_eq_getElem?_getD (l := r.getD p []), List.getElem?_eq_getElem i1, List.getD_eq_getElem?_getD (l := r.getD q []), List.getElem?_eq_getElem i2] at this;exact this
 rw [this]
theorem z5S {d : Nat → Int} {n : Nat} : ∀ (ways : List (List (List Int))) (c : List Int), z6A d n c → (∀ r ∈ ways, zeU d n r) → z6A d n (z12 ways c)
 | [], _, h, _ => h
 | r :: ways, c, h, hw => z5S ways (z0s c r) (z8g h (hw r (List.mem_cons_self ..))) fun r hr => hw r (List.mem_cons_of_mem _ hr)
theorem z4I {d : Nat → Int} {n : Nat} (ways : List (List (List Int))) (hw : ∀ r ∈ ways, zeU d n r) : ∀ (f : Nat) (c : List Int), z6A d n c → z6A d n (z1b ways f c)
 | 0, _, h => h
 | f + 1, c, h => by
  unfold z1b;split
  ·exact h
  ·exact z4I ways hw f _ (z5S ways c h hw)
theorem z6a {m : Mo} (hm : ModOk m) {d : Nat → Int} (hd : ∀ p q, p < m.of.length → q < m.of.length → d p = d q → Cong m d p q) : z6A d m.of.length (zF m) := by
 have hst := hm.st;have hrg : ∀ {k : Nat}, k < m.of.length → (List.range m.of.length).getD k 0 = k := fun hk => by rw [List.getD_eq_getElem?_getD, List.getElem?_eq_getElem (by simpa using hk)]; simp
 unfold zF;refine z4I _ ?_ _ _ ?_
 ·intro r hr;refine ⟨z59 hm r hr, fun p q hp hq h => ?_⟩;have hc := hd p q hp hq h;unfold z1F at hr;rcases List.mem_append.1 hr with hr | hr
  ·simp only [List.mem_cons, List.not_mem_nil, or_false] at hr;rcases hr with rfl | rfl
   ·have l1 := (hm.inn p hp).1;have l2 := (hm.inn q hq).1;refine ⟨by omega, fun i hi => ⟨?_, ?_, hc.inn i (by omega)⟩⟩
    ·have := hst.inn p _ (zM hi); omega
    ·have := hst.inn q _ (zM (l := m.inn.getD q []) (i := i) (by omega)); omega
   ·have hl : (m.low.getD p []).length = (m.low.getD q []).length := by
     by_cases hz : m.of.getD p 0 = 0
     ·have l1 := (hm.low0 p hp hz).1;have l2 := (hm.low0 q hq (by rw [← hc.of]; exact hz)).1;omega
     ·rw [hm.low1 p hp hz, hm.low1 q hq (by rw [← hc.of]; exact hz)]
    refine ⟨hl, fun i hi => ⟨?_, ?_, hc.low i hi⟩⟩
    ·have := hst.low p _ (zM hi); omega
    ·have := hst.low q _ (zM (l := m.low.getD q []) (i := i) (by omega)); omega
  ·obtain ⟨j, hj, hr⟩ := List.mem_flatMap.1 hr;rw [List.mem_range] at hj;simp only [List.mem_cons, List.not_mem_nil, or_false] at hr;rcases hr with rfl | rfl
   ·unfold z0O;rw [zL _ _ (by simpa using hp) _ 0, zL _ _ (by simpa using hq) _ 0, hrg hp, hrg hq, ← hc.of];by_cases hz : m.of.getD p 0 = 0
    ·rw [if_pos hz, if_pos hz];exact ⟨rfl, fun i hi => by simp at hi⟩
    ·rw [if_neg hz, if_neg hz];obtain ⟨l1, k1⟩ := hm.ret1 p hp hz;obtain ⟨l2, k2⟩ := hm.ret1 q hq (by rw [← hc.of]; exact hz);obtain ⟨a1, b1⟩ := k1 j (by omega);obtain ⟨a2, b2⟩ := k2 j (by omega);refine ⟨by omega, fun i hi => ⟨?_, ?_, hc.above hz j i hj (by omega)⟩⟩
     ·have := (b1 i (by omega)).1; omega
     ·have := (b2 i (by omega)).1; omega
   ·unfold z0M;rw [zL _ _ (by simpa using hp) _ 0, zL _ _ (by simpa using hq) _ 0, hrg hp, hrg hq];refine ⟨by simp, fun i hi => ?_⟩;rw [List.length_map] at hi;rw [zL _ _ hi _ 0, zL _ _ hi _ 0]
    have hmem : ((List.range m.of.length).filter fun p => decide (m.of.getD p 0 ≠ 0)).getD i 0 ∈ (List.range m.of.length).filter fun p => decide (m.of.getD p 0 ≠ 0) := by
     rw [List.getD_eq_getElem?_getD, List.getElem?_eq_getElem hi]; exact List.getElem_mem _
    generalize ((List.range m.of.length).filter fun p => decide (m.of.getD p 0 ≠ 0)).getD i 0 = x at *;obtain ⟨hx, hz⟩ := List.mem_filter.1 hmem;rw [List.mem_range] at hx;have hz : m.of.getD x 0 ≠ 0 := by simpa using hz
    obtain ⟨l1, k1⟩ := hm.ret1 x hx hz;obtain ⟨a1, b1⟩ := k1 j (by omega);refine ⟨?_, ?_, hc.below j x hj hx hz⟩
    ·have := (b1 p hp).1; omega
    ·have := (b1 q hq).1; omega
 ·intro p q hp hq h;have hc := hd p q hp hq h
  have e := (z8L ((List.range m.of.length).map (z17 m)) (i := p) (j := q) (by simpa using hp) (by simpa using hq)).2 (by
   simp only [List.getElem_map, List.getElem_range];unfold z17;rw [hc.of, hc.fin])
  unfold z2A;rw [List.getD_eq_getElem?_getD, List.getD_eq_getElem?_getD, e]
theorem ze7 {c : List Int} (h : Can c) : ∀ k, Can (c.take k) := by
 intro k
 have : ∀ (r l : List Int), z2U (l ++ r.reverse) = l ++ r.reverse → z2U l = l := by
  intro r l
  induction r with
  | nil => intro h; simpa using h
  | cons a r ih =>
   intro h;rw [List.reverse_cons, ← List.append_assoc] at h;unfold z2U at h;rw [z1H] at h;simp only [z5M] at h;exact ih (List.append_inj_left' h rfl)
 exact this (c.drop k).reverse (c.take k) (by rw [List.reverse_reverse, List.take_append_drop]; exact h)
theorem z7F {c : List Int} (h : Can c) : ∀ i, i ≤ c.length → (z05 c i).length = z3e (c.take i)
 | 0, _ => by simp [z05, z3e, z2z]
 | i + 1, hi => by
  have ih := z7F h i (by omega);have h1 := ze7 h (i + 1);have hlt : i < c.length := by omega
  rw [List.take_succ_eq_append_getElem hlt] at h1 ⊢;have e : c.getD i 0 = c[i] := by rw [List.getD_eq_getElem?_getD, List.getElem?_eq_getElem hlt]; rfl
  unfold Can z2U at h1;rw [z1H] at h1;simp only [z5M] at h1;have h2 := (List.append_inj_right' h1 rfl);have h2 : ((z2z (c.take i)).1.idxOf c[i] : Int) = c[i] := by simpa using h2
  unfold z05;unfold z3e at ih ⊢;rw [z1H, e, ih];simp only [z5M];by_cases hm : c[i] ∈ (z2z (c.take i)).1
  ·have := List.idxOf_lt_length_of_mem hm;rw [if_pos hm, if_neg (by omega), ih]
  ·have := List.idxOf_eq_length hm;rw [if_neg hm, if_pos (by omega), List.length_append, List.length_append, ih];rfl
theorem zby {c : List Int} (h : Can c) : (zA c).length = z3e c := by
 unfold zA;rw [z7F h _ (Nat.le_refl _), List.take_length]
theorem zbH {m : Mo} (hm : ModOk m) : ClsOk m (zF m) := by
 obtain ⟨c1, c2, c3⟩ := z19 hm;have hst := hm.st;have hp : ∀ {x : Int}, 0 ≤ x ∧ x < (m.of.length : Int) → 0 ≤ (zF m).getD x.toNat 0 := fun h => (zab c1 (by omega)).1;exact ⟨c2, fun p h => hp (hst.entry p h), fun p _ _ x hx => hp (hst.inn p x hx), fun p _ _ x hx => hp (hst.low p x hx), fun p q _ hq _ _ x hx => hp (hst.ret p q hq x hx), fun p q h1 h2 _ e => (z4N hm h1 h2 e).of, fun p h _ => by rw [zby c1]; exact (zab c1 (by omega)).2⟩
theorem zdG {m : Mo} (hm : ModOk m) : ModOk (z0L m) := z92 (z3x hm) (zbH (z3x hm))
structure CongS (m : Mo) (cls : List Int) (p q : Nat) : Prop where
 of : m.of.getD p 0 = m.of.getD q 0
 fin : m.final.getD p false = m.final.getD q false
 inn : ∀ i : Nat, i < m.plains.toNat → cls.getD ((m.inn.getD p []).getD i 0).toNat 0 = cls.getD ((m.inn.getD q []).getD i 0).toNat 0
 low : ∀ i : Nat, i < (m.low.getD p []).length → cls.getD ((m.low.getD p []).getD i 0).toNat 0 = cls.getD ((m.low.getD q []).getD i 0).toNat 0
 above : m.of.getD p 0 ≠ 0 → ∀ j x : Nat, j < m.closings.toNat → x < m.of.length → 0 ≤ cls.getD x 0 → cls.getD (((m.ret.getD p []).getD j []).getD x 0).toNat 0 = cls.getD (((m.ret.getD q []).getD j []).getD x 0).toNat 0
 below : ∀ j x : Nat, j < m.closings.toNat → x < m.of.length → 0 ≤ cls.getD x 0 → m.of.getD x 0 ≠ 0 → cls.getD (((m.ret.getD x []).getD j []).getD p 0).toNat 0 = cls.getD (((m.ret.getD x []).getD j []).getD q 0).toNat 0
structure Quot1 (m : Mo) (cls : List Int) (p : Nat) : Prop where
 lt : (cls.getD p 0).toNat < (z06 m cls).of.length
 of : (z06 m cls).of.getD (cls.getD p 0).toNat 0 = m.of.getD p 0
 fin : (z06 m cls).final.getD (cls.getD p 0).toNat false = m.final.getD p false
 inl : ((z06 m cls).inn.getD (cls.getD p 0).toNat []).length = (m.inn.getD p []).length
 inn : ∀ i : Nat, i < m.plains.toNat → ((z06 m cls).inn.getD (cls.getD p 0).toNat []).getD i 0 = cls.getD ((m.inn.getD p []).getD i 0).toNat 0
 lol : ((z06 m cls).low.getD (cls.getD p 0).toNat []).length = (m.low.getD p []).length
 low : ∀ i : Nat, i < (m.low.getD p []).length → ((z06 m cls).low.getD (cls.getD p 0).toNat []).getD i 0 = cls.getD ((m.low.getD p []).getD i 0).toNat 0
 ret : m.of.getD p 0 ≠ 0 → ∀ j q : Nat, j < m.closings.toNat → q < m.of.length → 0 ≤ cls.getD q 0 → (((z06 m cls).ret.getD (cls.getD p 0).toNat []).getD j []).getD (cls.getD q 0).toNat 0 = cls.getD (((m.ret.getD p []).getD j []).getD q 0).toNat 0
structure SimQ (cls : List Int) (s t : Int × List Int) : Prop where
 len : s.2.length = t.2.length
 left : ∀ i, i < s.2.length → t.2.getD i 0 = cls.getD (s.2.getD i 0).toNat 0
 at' : t.1 = cls.getD s.1.toNat 0
end Go.Am
