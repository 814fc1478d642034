import Derived.Test.YtjgbcpagfghfnaaQYM28
set_option linter.unusedVariables false
set_option linter.unusedSimpArgs false
set_option linter.unnecessarySimpa false
namespace Go.Am
theorem zb0 : ∀ (n : Nat) (l : List Nat), l.Nodup → (∀ x ∈ l, x < n) → l.length ≤ n
 | 0, l, _, h => by
  cases l with
  | nil => exact Nat.le_refl _
  | cons a l => have := h a (List.mem_cons_self ..); omega
 | n + 1, l, hl, h => by
  have := zb0 n (l.erase n) (hl.erase n) (fun x hx => by
   obtain ⟨h1, h2⟩ := (hl.mem_erase_iff).1 hx;have := h x h2;omega)
  by_cases e : n ∈ l
  ·rw [List.length_erase_of_mem e] at this; omega
  ·rw [List.erase_of_not_mem e] at this; omega
structure SOk (n : Nat) (s : List Bool × List Int) : Prop where
 len : s.1.length = n
 mem : ∀ q : Int, q ∈ s.2 ↔ 0 ≤ q ∧ s.1.getD q.toNat false = true
 nd : s.2.Nodup
theorem SOk.lt {n : Nat} {s : List Bool × List Int} (h : SOk n s) {q : Int} (hq : q ∈ s.2) : 0 ≤ q ∧ q < n := by
 obtain ⟨h1, h2⟩ := (h.mem q).1 hq;refine ⟨h1, ?_⟩;by_cases e : q.toNat < s.1.length
 ·have := h.len; omega
 ·rw [List.getD_eq_getElem?_getD, List.getElem?_eq_none (by omega)] at h2; simp at h2
theorem SOk.le {n : Nat} {s : List Bool × List Int} (h : SOk n s) : s.2.length ≤ n := by
 have h1 : (s.2.map Int.toNat).Nodup := by
  unfold List.Nodup at *;rw [List.pairwise_map];refine List.Pairwise.imp_of_mem ?_ h.nd;intro a b ha hb hab e;have := h.lt ha; have := h.lt hb;omega
 have := zb0 n _ h1 (fun x hx => by
  obtain ⟨q, hq, rfl⟩ := List.mem_map.1 hx;have := h.lt hq;omega)
 simpa using this
theorem ze4 {n : Nat} {s : List Bool × List Int} {p : Int} (h : SOk n s) (h0 : 0 ≤ p) (h1 : p < n) : SOk n (z3W s p) := by
 unfold z3W;split
 ·exact h
 ·rename_i hp;refine ⟨by simp [h.len], fun q => ?_, ?_⟩
  ·have hl := h.len;rw [List.mem_append, List.mem_singleton, h.mem q];simp only [List.getD_eq_getElem?_getD, List.getElem?_set];constructor
   ·rintro (⟨q1, q2⟩ | rfl)
    ·refine ⟨q1, ?_⟩;split
     ·split
      ·rfl
      ·rename_i e1 e2; omega
     ·exact q2
    ·exact ⟨h0, by rw [if_pos rfl, if_pos (by omega)]; rfl⟩
   ·rintro ⟨q1, q2⟩;split at q2
    ·rename_i e;exact .inr (by omega)
    ·exact .inl ⟨q1, q2⟩
  ·rw [List.nodup_append];refine ⟨h.nd, by simp, fun a ha b hb e => ?_⟩;rw [List.mem_singleton] at hb;subst hb; subst e;exact hp ((h.mem a).1 ha).2
def SLe (s t : List Bool × List Int) : Prop := (∀ p, s.1.getD p false = true → t.1.getD p false = true) ∧ ∃ more, t.2 = s.2 ++ more
theorem SLe.refl {s : List Bool × List Int} : SLe s s := ⟨fun _ h => h, [], by simp⟩
theorem SLe.trans {s t u : List Bool × List Int} (h : SLe s t) (k : SLe t u) : SLe s u := by
 obtain ⟨h1, a, h2⟩ := h;obtain ⟨k1, b, k2⟩ := k;exact ⟨fun p q => k1 p (h1 p q), a ++ b, by rw [k2, h2, List.append_assoc]⟩
theorem zcY (s : List Bool × List Int) (p : Int) : SLe s (z3W s p) := by
 unfold z3W;split
 ·exact .refl
 ·refine ⟨fun q hq => ?_, [p], rfl⟩;rw [List.getD_eq_getElem?_getD, List.getElem?_set];split
  ·split
   ·rfl
   ·rename_i e1 e2; rw [List.getD_eq_getElem?_getD, List.getElem?_eq_none (by omega)] at hq; simp at hq
  ·rw [← List.getD_eq_getElem?_getD]; exact hq
theorem z2Z (l : List Int) : ∀ s, SLe s (z37 s l) := by
 induction l with
 | nil => intro s; exact .refl
 | cons a l ih => intro s; exact (zcY s a).trans (ih _)
theorem z4s {n : Nat} (l : List Int) : ∀ s, SOk n s → (∀ p ∈ l, 0 ≤ p ∧ p < (n : Int)) → SOk n (z37 s l) := by
 induction l with
 | nil => intro s h _; exact h
 | cons a l ih => intro s h hl; exact ih _ (ze4 h (hl a (List.mem_cons_self ..)).1 (hl a (List.mem_cons_self ..)).2) fun p hp => hl p (List.mem_cons_of_mem _ hp)
theorem z4a {n : Nat} (l : List Int) : ∀ s : List Bool × List Int, s.1.length = n → (∀ p ∈ l, 0 ≤ p ∧ p < (n : Int)) → ∀ p ∈ l, (z37 s l).1.getD p.toNat false = true := by
 induction l with
 | nil => intro s _ _ p hp; simp at hp
 | cons a l ih =>
  intro s hs hl p hp;rcases List.mem_cons.1 hp with rfl | hp
  ·refine (z2Z l (z3W s p)).1 _ ?_;have := hl p (List.mem_cons_self ..);unfold z3W;split
   ·assumption
   ·rw [List.getD_eq_getElem?_getD, List.getElem?_set, if_pos rfl, if_pos (by omega)]; rfl
  ·exact ih (z3W s a) (by rw [z97, hs]) (fun p hp => hl p (List.mem_cons_of_mem _ hp)) p hp
def z5u (m : Mo) (p : Int) (s : List Bool × List Int) (q : Int) : List Bool × List Int := z37 (z37 s (z4X (m.ret.getD p.toNat []) q.toNat)) (z4X (m.ret.getD q.toNat []) p.toNat)
def z3P (m : Mo) (p : Int) (s : List Bool × List Int) : List Bool × List Int := z37 (z37 s (m.inn.getD p.toNat [])) (m.low.getD p.toNat [])
def z2e (m : Mo) (s : List Bool × List Int) (i : Nat) : List Bool × List Int := ((z3P m (s.2.getD i 0) s).2.take (i + 1)).foldl (z5u m (s.2.getD i 0)) (z3P m (s.2.getD i 0) s)
def z2b (m : Mo) : Nat → Nat → List Bool × List Int → List Bool × List Int
 | 0, _, s => s
 | f + 1, i, s => if i < s.2.length then z2b m f (i + 1) (z2e m s i) else s
def z3i (m : Mo) : List Bool × List Int := z2b m (m.of.length + 1) 0 (z37 (List.replicate m.of.length false, []) m.entry)
def z0 (m : Mo) : List Bool := (z3i m).1
structure MoSt (m : Mo) : Prop where
 entry : ∀ p ∈ m.entry, 0 ≤ p ∧ p < (m.of.length : Int)
 inn : ∀ i, ∀ p ∈ m.inn.getD i [], 0 ≤ p ∧ p < (m.of.length : Int)
 low : ∀ i, ∀ p ∈ m.low.getD i [], 0 ≤ p ∧ p < (m.of.length : Int)
 ret : ∀ i q, q < m.of.length → ∀ p ∈ z4X (m.ret.getD i []) q, 0 ≤ p ∧ p < (m.of.length : Int)
theorem z6F {m : Mo} (hm : MoSt m) {p : Int} {s : List Bool × List Int} (h : SOk m.of.length s) : SOk m.of.length (z3P m p s) := z4s _ _ (z4s _ _ h (hm.inn _)) (hm.low _)
theorem z5F (m : Mo) (p : Int) (s : List Bool × List Int) : SLe s (z3P m p s) := (z2Z _ _).trans (z2Z _ _)
theorem zaT {m : Mo} (hm : MoSt m) {p q : Int} {s : List Bool × List Int} (h : SOk m.of.length s) (hp : 0 ≤ p ∧ p < (m.of.length : Int)) (hq : 0 ≤ q ∧ q < (m.of.length : Int)) : SOk m.of.length (z5u m p s q) := z4s _ _ (z4s _ _ h (hm.ret _ _ (by omega))) (hm.ret _ _ (by omega))
theorem zcN (m : Mo) (p : Int) (s : List Bool × List Int) (q : Int) : SLe s (z5u m p s q) := (z2Z _ _).trans (z2Z _ _)
theorem zcx {m : Mo} (hm : MoSt m) {p : Int} (hp : 0 ≤ p ∧ p < (m.of.length : Int)) : ∀ (l : List Int) (s : List Bool × List Int), SOk m.of.length s → (∀ q ∈ l, 0 ≤ q ∧ q < (m.of.length : Int)) → SOk m.of.length (l.foldl (z5u m p) s)
 | [], _, h, _ => h
 | q :: l, s, h, hl => zcx hm hp l _ (zaT hm h hp (hl q (List.mem_cons_self ..))) fun q hq => hl q (List.mem_cons_of_mem _ hq)
theorem z6h (m : Mo) (p : Int) : ∀ (l : List Int) (s : List Bool × List Int), SLe s (l.foldl (z5u m p) s)
 | [], _ => .refl
 | q :: l, s => (zcN m p s q).trans (z6h m p l _)
theorem zM {l : List Int} {i : Nat} (h : i < l.length) : l.getD i 0 ∈ l := by
 rw [List.getD_eq_getElem?_getD, List.getElem?_eq_getElem h]; exact List.getElem_mem h
theorem z4i {m : Mo} (hm : MoSt m) {s : List Bool × List Int} {i : Nat} (h : SOk m.of.length s) (hi : i < s.2.length) : SOk m.of.length (z2e m s i) := by
 have hp := h.lt (zM hi);have h1 := z6F hm (p := s.2.getD i 0) h;exact zcx hm hp _ _ h1 fun q hq => h1.lt (List.mem_of_mem_take hq)
theorem z3I (m : Mo) (s : List Bool × List Int) (i : Nat) : SLe s (z2e m s i) := (z5F _ _ _).trans (z6h _ _ _ _)
theorem z7E {m : Mo} (hm : MoSt m) : ∀ (f i : Nat) (s : List Bool × List Int), SOk m.of.length s → SOk m.of.length (z2b m f i s)
 | 0, _, _, h => h
 | f + 1, i, s, h => by
  unfold z2b;split
  ·rename_i hi; exact z7E hm f _ _ (z4i hm h hi)
  ·exact h
theorem z7X {m : Mo} (hm : MoSt m) : SOk m.of.length (z37 (List.replicate m.of.length false, []) m.entry) := by
 refine z4s _ _ ⟨by simp, fun q => ?_, by simp⟩ hm.entry;constructor
 ·intro h; simp at h
 ·rintro ⟨_, h⟩;simp only [List.getD_eq_getElem?_getD, List.getElem?_replicate] at h;split at h <;> simp at h
theorem z6H {m : Mo} (hm : MoSt m) : SOk m.of.length (z3i m) := z7E hm _ _ _ (z7X hm)
theorem z0j {m : Mo} (hm : MoSt m) : (z0 m).length = m.of.length := (z6H hm).len
def Done (m : Mo) (s : List Bool × List Int) (i : Nat) : Prop :=
 (∀ x ∈ m.inn.getD (s.2.getD i 0).toNat [], s.1.getD x.toNat false = true) ∧ (∀ x ∈ m.low.getD (s.2.getD i 0).toNat [], s.1.getD x.toNat false = true) ∧
 ∀ j, j ≤ i → (∀ x ∈ z4X (m.ret.getD (s.2.getD i 0).toNat []) (s.2.getD j 0).toNat, s.1.getD x.toNat false = true) ∧ (∀ x ∈ z4X (m.ret.getD (s.2.getD j 0).toNat []) (s.2.getD i 0).toNat, s.1.getD x.toNat false = true)
theorem SLe.at {s t : List Bool × List Int} (h : SLe s t) {i : Nat} (hi : i < s.2.length) : t.2.getD i 0 = s.2.getD i 0 := by
 obtain ⟨_, more, h2⟩ := h;rw [h2, List.getD_eq_getElem?_getD, List.getElem?_append_left hi, ← List.getD_eq_getElem?_getD]
theorem Done.mono {m : Mo} {s t : List Bool × List Int} {i : Nat} (hi : i < s.2.length) (h : Done m s i) (k : SLe s t) : Done m t i := by
 obtain ⟨h1, h2, h3⟩ := h;unfold Done;rw [k.at hi];refine ⟨fun x hx => k.1 _ (h1 x hx), fun x hx => k.1 _ (h2 x hx), fun j hj => ?_⟩;rw [k.at (i := j) (by omega)];exact ⟨fun x hx => k.1 _ ((h3 j hj).1 x hx), fun x hx => k.1 _ ((h3 j hj).2 x hx)⟩
theorem zaU {m : Mo} (hm : MoSt m) {p : Int} (hp : 0 ≤ p ∧ p < (m.of.length : Int)) : ∀ (l : List Int) (s : List Bool × List Int), SOk m.of.length s → (∀ q ∈ l, 0 ≤ q ∧ q < (m.of.length : Int)) → ∀ q ∈ l, (∀ x ∈ z4X (m.ret.getD p.toNat []) q.toNat, (l.foldl (z5u m p) s).1.getD x.toNat false = true) ∧ (∀ x ∈ z4X (m.ret.getD q.toNat []) p.toNat, (l.foldl (z5u m p) s).1.getD x.toNat false = true)
 | [], _, _, _, q, hq => by simp at hq
 | a :: l, s, h, hl, q, hq => by
  have ha := hl a (List.mem_cons_self ..);rcases List.mem_cons.1 hq with rfl | hq
  ·have k := z6h m p l (z5u m p s q);refine ⟨fun x hx => k.1 _ ?_, fun x hx => k.1 _ ?_⟩
   ·exact (z2Z _ _).1 _ (z4a _ _ h.len (hm.ret _ _ (by omega)) x hx)
   ·exact z4a _ _ (by rw [z6M]; exact h.len) (hm.ret _ _ (by omega)) x hx
  ·exact zaU hm hp l _ (zaT hm h hp ha) (fun q hq => hl q (List.mem_cons_of_mem _ hq)) q hq
theorem z7h {m : Mo} (hm : MoSt m) {s : List Bool × List Int} {i : Nat} (h : SOk m.of.length s) (hi : i < s.2.length) : Done m (z2e m s i) i := by
 have hp := h.lt (zM hi);have k1 := z5F m (s.2.getD i 0) s;have h1 := z6F hm (p := s.2.getD i 0) h;have k2 := z6h m (s.2.getD i 0) ((z3P m (s.2.getD i 0) s).2.take (i + 1)) (z3P m (s.2.getD i 0) s);have hl : ∀ q ∈ (z3P m (s.2.getD i 0) s).2.take (i + 1), 0 ≤ q ∧ q < (m.of.length : Int) := fun q hq => h1.lt (List.mem_of_mem_take hq);have hh := zaU hm hp _ _ h1 hl;have kk := z3I m s i;unfold Done;rw [kk.at hi];refine ⟨fun x hx => k2.1 _ ((z2Z _ _).1 _ (z4a _ _ h.len (hm.inn _) x hx)), fun x hx => k2.1 _ (z4a _ _ (by rw [z6M]; exact h.len) (hm.low _) x hx), fun j hj => ?_⟩;rw [kk.at (i := j) (by omega)];refine hh (s.2.getD j 0) ?_;obtain ⟨_, more, hm2⟩ := k1;rw [hm2, List.take_append_of_le_length (by omega)];rw [List.mem_take_iff_getElem];refine ⟨j, by omega, ?_⟩;rw [List.getD_eq_getElem?_getD, List.getElem?_eq_getElem (by omega)]; rfl
theorem z5V {m : Mo} (hm : MoSt m) : ∀ (f i : Nat) (s : List Bool × List Int), SOk m.of.length s → m.of.length + 1 ≤ f + i → i ≤ s.2.length → (∀ j, j < i → Done m s j) → SLe s (z2b m f i s) ∧ ∀ j, j < (z2b m f i s).2.length → Done m (z2b m f i s) j
 | 0, i, s, h, hf, hi, _ => by have := h.le; omega
 | f + 1, i, s, h, hf, hi, hd => by
  unfold z2b;split
  ·rename_i hlt;have k := z3I m s i;have h2 := z4i hm h hlt;have hl : i + 1 ≤ (z2e m s i).2.length := by obtain ⟨_, more, e⟩ := k; rw [e]; simp; omega
   have := z5V hm f (i + 1) _ h2 (by omega) hl (fun j hj => by
    by_cases e : j = i
    ·subst e; exact z7h hm h hlt
    ·exact (hd j (by omega)).mono (by omega) k)
   exact ⟨k.trans this.1, this.2⟩
  ·rename_i hlt;exact ⟨.refl, fun j hj => hd j (by omega)⟩
structure Closed (m : Mo) (is : List Bool) : Prop where
 entry : ∀ p ∈ m.entry, is.getD p.toNat false = true
 inn : ∀ p : Nat, is.getD p false = true → ∀ x ∈ m.inn.getD p [], is.getD x.toNat false = true
 low : ∀ p : Nat, is.getD p false = true → ∀ x ∈ m.low.getD p [], is.getD x.toNat false = true
 ret : ∀ p q : Nat, is.getD p false = true → is.getD q false = true → ∀ x ∈ z4X (m.ret.getD p []) q, is.getD x.toNat false = true
theorem z0W {m : Mo} (hm : MoSt m) : Closed m (z0 m) := by
 have h0 := z7X hm;obtain ⟨h1, h2⟩ := z5V hm (m.of.length + 1) 0 _ h0 (by omega) (Nat.zero_le _) (fun j hj => by omega);have hok := z6H hm
 have hq : ∀ p : Nat, (z0 m).getD p false = true → ∃ j, j < (z3i m).2.length ∧ (z3i m).2.getD j 0 = (p : Int) := by
  intro p hp;have := (hok.mem (p : Int)).2 ⟨by omega, by rw [Int.toNat_natCast]; exact hp⟩;obtain ⟨j, hj, e⟩ := List.getElem_of_mem this;exact ⟨j, hj, by rw [List.getD_eq_getElem?_getD, List.getElem?_eq_getElem hj]; simpa using e⟩
 refine ⟨fun p hp => h1.1 _ (z4a _ _ (by simp) hm.entry p hp), fun p hp x hx => ?_, fun p hp x hx => ?_, fun p q hp hq' x hx => ?_⟩
 ·obtain ⟨j, hj, e⟩ := hq p hp;have := (h2 j hj).1;change ∀ x ∈ m.inn.getD ((z3i m).2.getD j 0).toNat [], _ at this;rw [e, Int.toNat_natCast] at this;exact this x hx
 ·obtain ⟨j, hj, e⟩ := hq p hp;have := (h2 j hj).2.1;change ∀ x ∈ m.low.getD ((z3i m).2.getD j 0).toNat [], _ at this;rw [e, Int.toNat_natCast] at this;exact this x hx
 ·obtain ⟨j, hj, e⟩ := hq p hp;obtain ⟨k, hk, e2⟩ := hq q hq';by_cases hjk : k ≤ j
  ·have := ((h2 j hj).2.2 k hjk).1;change ∀ x ∈ z4X (m.ret.getD ((z3i m).2.getD j 0).toNat []) ((z3i m).2.getD k 0).toNat, _ at this;rw [e, e2, Int.toNat_natCast, Int.toNat_natCast] at this;exact this x hx
  ·have := ((h2 k hk).2.2 j (by omega)).2;change ∀ x ∈ z4X (m.ret.getD ((z3i m).2.getD j 0).toNat []) ((z3i m).2.getD k 0).toNat, _ at this;rw [e, e2, Int.toNat_natCast, Int.toNat_natCast] at this;exact this x hx
theorem z5A {m : Mo} {p k : Int} : inF m p k = true ↔ (0 ≤ p ∧ p < (m.of.length : Int)) ∧ m.of.getD p.toNat 0 = k := by
 unfold inF; rw [decide_eq_true_eq]; constructor
 ·rintro ⟨⟨h1, h2⟩, h3⟩; exact ⟨⟨h1, by omega⟩, h3⟩
 ·rintro ⟨⟨h1, h2⟩, h3⟩; exact ⟨⟨h1, by omega⟩, h3⟩
theorem z6o {m : Mo} {l : List Int} {k : Int} : zc1 m l k = true ↔ ∀ x ∈ l, (0 ≤ x ∧ x < (m.of.length : Int)) ∧ m.of.getD x.toNat 0 = k := by
 unfold zc1;rw [z0J];constructor
 ·intro h x hx;obtain ⟨i, hi, rfl⟩ := List.getElem_of_mem hx;have := h i hi;rw [List.getD_eq_getElem?_getD, List.getElem?_eq_getElem hi] at this;exact z5A.1 this
 ·intro h i hi;rw [List.getD_eq_getElem?_getD, List.getElem?_eq_getElem hi];exact z5A.2 (h _ (List.getElem_mem hi))
structure ModOk (m : Mo) : Prop where
 pl : 0 ≤ m.plains ∧ m.plains ≤ 20
 cl : 0 ≤ m.closings ∧ m.closings ≤ 20
 n : 1 ≤ m.of.length ∧ m.of.length ≤ 60
 k : 1 ≤ m.entry.length ∧ m.entry.length ≤ 21
 fl : m.final.length = m.of.length
 il : m.inn.length = m.of.length
 ll : m.low.length = m.of.length
 rl : m.ret.length = m.of.length
 of : ∀ p : Nat, p < m.of.length → 0 ≤ m.of.getD p 0 ∧ m.of.getD p 0 < (m.entry.length : Int)
 entry : ∀ i : Nat, i < m.entry.length → (0 ≤ m.entry.getD i 0 ∧ m.entry.getD i 0 < (m.of.length : Int)) ∧ m.of.getD (m.entry.getD i 0).toNat 0 = i
 inn : ∀ p : Nat, p < m.of.length → ((m.inn.getD p []).length : Int) = m.plains ∧ ∀ x ∈ m.inn.getD p [], (0 ≤ x ∧ x < (m.of.length : Int)) ∧ m.of.getD x.toNat 0 = m.of.getD p 0
 low0 : ∀ p : Nat, p < m.of.length → m.of.getD p 0 = 0 → ((m.low.getD p []).length : Int) = m.closings ∧ ∀ x ∈ m.low.getD p [], (0 ≤ x ∧ x < (m.of.length : Int)) ∧ m.of.getD x.toNat 0 = 0
 low1 : ∀ p : Nat, p < m.of.length → m.of.getD p 0 ≠ 0 → m.low.getD p [] = []
 ret0 : ∀ p : Nat, p < m.of.length → m.of.getD p 0 = 0 → m.ret.getD p [] = []
 ret1 : ∀ p : Nat, p < m.of.length → m.of.getD p 0 ≠ 0 → ((m.ret.getD p []).length : Int) = m.closings ∧ ∀ j : Nat, j < (m.ret.getD p []).length → ((m.ret.getD p []).getD j []).length = m.of.length ∧ ∀ q : Nat, q < m.of.length → (0 ≤ ((m.ret.getD p []).getD j []).getD q 0 ∧ ((m.ret.getD p []).getD j []).getD q 0 < (m.of.length : Int)) ∧ m.of.getD (((m.ret.getD p []).getD j []).getD q 0).toNat 0 = m.of.getD q 0
theorem z2u {m : Mo} : z65 m = true ↔ ModOk m := by
 unfold z65;rw [Bool.and_eq_true, Bool.and_eq_true];constructor
 ·rintro ⟨⟨hs, hh⟩, ha⟩;unfold z4Y at hs;rw [decide_eq_true_eq] at hs;unfold z1C at hh;rw [Bool.and_eq_true, z0J, z0J] at hh;rw [z0J] at ha
  have hst : ∀ p, p < m.of.length → zbZ m p = true ∧ zbk m p = true ∧ zbj m p = true := fun p hp => by
   have := ha p hp; unfold z29 at this; rw [Bool.and_eq_true, Bool.and_eq_true] at this; exact ⟨this.1.1, this.1.2, this.2⟩
  refine ⟨hs.1, hs.2.1, by omega, by omega, by omega, by omega, by omega, by omega, fun p hp => ?_, fun i hi => z5A.1 (hh.2 i hi), fun p hp => ?_, fun p hp h0 => ?_, fun p hp h0 => ?_, fun p hp h0 => ?_, fun p hp h0 => ?_⟩
  ·have := of_decide_eq_true (hh.1 p hp); omega
  ·have := (hst p hp).1;unfold zbZ at this;rw [Bool.and_eq_true, decide_eq_true_eq, z6o] at this;exact this
  ·have := (hst p hp).2.1;unfold zbk at this;rw [if_pos h0, Bool.and_eq_true, decide_eq_true_eq, z6o] at this;exact this
  ·have := (hst p hp).2.1;unfold zbk at this;rw [if_neg h0, decide_eq_true_eq] at this;exact List.eq_nil_of_length_eq_zero (by omega)
  ·have := (hst p hp).2.2;unfold zbj at this;rw [if_pos h0, decide_eq_true_eq] at this;exact List.eq_nil_of_length_eq_zero (by omega)
  ·have := (hst p hp).2.2;unfold zbj at this;rw [if_neg h0, Bool.and_eq_true, decide_eq_true_eq, z0J] at this;refine ⟨this.1, fun j hj => ?_⟩;have h2 := this.2 j hj;unfold z9S at h2;rw [Bool.and_eq_true, decide_eq_true_eq, z0J] at h2;exact ⟨by omega, fun q hq => z5A.1 (h2.2 q (by omega))⟩
 ·intro h;refine ⟨⟨?_, ?_⟩, ?_⟩
  ·unfold z4Y;rw [decide_eq_true_eq];have := h.n; have := h.k;exact ⟨h.pl, h.cl, by omega, by omega, by rw [h.fl], by rw [h.il], by rw [h.ll], by rw [h.rl]⟩
  ·unfold z1C;rw [Bool.and_eq_true, z0J, z0J];exact ⟨fun p hp => decide_eq_true (by have := h.of p hp; omega), fun i hi => z5A.2 (h.entry i hi)⟩
  ·rw [z0J];intro p hp;unfold z29;rw [Bool.and_eq_true, Bool.and_eq_true];refine ⟨⟨?_, ?_⟩, ?_⟩
   ·unfold zbZ;rw [Bool.and_eq_true, decide_eq_true_eq, z6o];exact h.inn p hp
   ·unfold zbk;split
    ·rename_i h0;rw [Bool.and_eq_true, decide_eq_true_eq, z6o];exact h.low0 p hp h0
    ·rename_i h0;rw [h.low1 p hp h0]; rfl
   ·unfold zbj;split
    ·rename_i h0;rw [h.ret0 p hp h0]; rfl
    ·rename_i h0;rw [Bool.and_eq_true, decide_eq_true_eq, z0J];refine ⟨(h.ret1 p hp h0).1, fun j hj => ?_⟩;obtain ⟨h1, h2⟩ := (h.ret1 p hp h0).2 j hj;unfold z9S;rw [Bool.and_eq_true, decide_eq_true_eq, z0J];exact ⟨by omega, fun q hq => z5A.2 (h2 q (by omega))⟩
theorem z4r {α : Type} {l : List (List α)} {i : Nat} (h : l.length ≤ i) : l.getD i [] = [] := by
 rw [List.getD_eq_getElem?_getD, List.getElem?_eq_none h]; rfl
theorem ModOk.st {m : Mo} (h : ModOk m) : MoSt m := by
 refine ⟨fun p hp => ?_, fun i p hp => ?_, fun i p hp => ?_, fun i q hq p hp => ?_⟩
 ·obtain ⟨i, hi, rfl⟩ := List.getElem_of_mem hp;have := (h.entry i hi).1
  rwa [List.getD_eq_getElem?_getD, List.getElem?_eq_getElem hi] at this
 ·by_cases hi : i < m.of.length
  ·exact ((h.inn i hi).2 p hp).1
  ·rw [z4r (by have := h.il; omega)] at hp; simp at hp
 ·by_cases hi : i < m.of.length
  ·by_cases h0 : m.of.getD i 0 = 0
   ·exact ((h.low0 i hi h0).2 p hp).1
   ·rw [h.low1 i hi h0] at hp; simp at hp
  ·rw [z4r (by have := h.ll; omega)] at hp; simp at hp
 ·unfold z4X at hp;obtain ⟨row, hr, rfl⟩ := List.mem_map.1 hp;by_cases hi : i < m.of.length
  ·by_cases h0 : m.of.getD i 0 = 0
   ·rw [h.ret0 i hi h0] at hr; simp at hr
   ·obtain ⟨j, hj, rfl⟩ := List.getElem_of_mem hr;have := (((h.ret1 i hi h0).2 j hj).2 q hq).1
    rwa [List.getD_eq_getElem?_getD (l := m.ret.getD i []), List.getElem?_eq_getElem hj] at this
  ·rw [show m.ret.getD i [] = [] by rw [List.getD_eq_getElem?_getD, List.getElem?_eq_none (by have := h.rl; omega)]; rfl] at hr; simp at hr
def z25 (m : Mo) (s : Int × List Int) (x : Int × Int) : Option (Int × List Int) :=
 if x.1 = 1 then (if 0 ≤ x.2 ∧ x.2 ≤ (m.entry.length : Int) - 2 then some (m.entry.getD (x.2 + 1).toNat 0, s.2 ++ [s.1]) else none)
 else if x.1 = 2 then (if 0 ≤ x.2 ∧ x.2 ≤ m.closings - 1 then (if s.2 = [] then some ((m.low.getD s.1.toNat []).getD x.2.toNat 0, s.2) else some (((m.ret.getD s.1.toNat []).getD x.2.toNat []).getD (s.2.getD (s.2.length - 1) 0).toNat 0, s.2.take (s.2.length - 1))) else none)
 else if x.1 = 3 then (if 0 ≤ x.2 ∧ x.2 ≤ m.plains - 1 then some ((m.inn.getD s.1.toNat []).getD x.2.toNat 0, s.2) else none)
 else none
def zc8 (m : Mo) : List (Int × Int) → Int × List Int → Option (Int × List Int)
 | [], s => some s
 | x :: w, s => match z25 m s x with
  | none => none
  | some t => zc8 m w t
def z28 (m : Mo) (w : List (Int × Int)) : Bool := z65 m && match zc8 m w (m.entry.getD 0 0, []) with
 | none => false
 | some s => m.final.getD s.1.toNat false
structure RGood (m : Mo) (R : Int → Prop) (s : Int × List Int) : Prop where
 mem : ∀ x ∈ s.2 ++ [s.1], (0 ≤ x ∧ x < (m.of.length : Int)) ∧ R x
 base : ∀ i, i < (s.2 ++ [s.1]).length → (m.of.getD ((s.2 ++ [s.1]).getD i 0).toNat 0 = 0 ↔ i = 0)
theorem RGood.at {m : Mo} {R : Int → Prop} {s : Int × List Int} (h : RGood m R s) : (0 ≤ s.1 ∧ s.1 < (m.of.length : Int)) ∧ R s.1 ∧ (m.of.getD s.1.toNat 0 = 0 ↔ s.2 = []) := by
 have h1 := h.mem s.1 (List.mem_append_right _ (List.mem_singleton.2 rfl));have h2 := h.base s.2.length (by simp);rw [List.getD_eq_getElem?_getD (l := s.2 ++ [s.1]), List.getElem?_append_right (Nat.le_refl _), Nat.sub_self] at h2;refine ⟨h1.1, h1.2, h2.trans ⟨fun e => List.eq_nil_of_length_eq_zero e, fun e => by rw [e]; rfl⟩⟩
theorem RGood.top {m : Mo} {R : Int → Prop} {s : Int × List Int} (h : RGood m R s) (hl : s.2 ≠ []) : (0 ≤ s.2.getD (s.2.length - 1) 0 ∧ s.2.getD (s.2.length - 1) 0 < (m.of.length : Int)) ∧ R (s.2.getD (s.2.length - 1) 0) := by
 have hp : 0 < s.2.length := List.length_pos_iff.2 hl;refine h.mem _ (List.mem_append_left _ ?_);rw [List.getD_eq_getElem?_getD, List.getElem?_eq_getElem (by omega)];exact List.getElem_mem _
theorem z1J {l r : List Int} {i : Nat} (h : i < l.length) : (l ++ r).getD i 0 = l.getD i 0 := by
 rw [List.getD_eq_getElem?_getD, List.getElem?_append_left h, ← List.getD_eq_getElem?_getD]
theorem z0E {l : List Int} {x : Int} : (l ++ [x]).getD l.length 0 = x := by
 rw [List.getD_eq_getElem?_getD, List.getElem?_append_right (Nat.le_refl _), Nat.sub_self]; rfl
structure RClosed (m : Mo) (R : Int → Prop) : Prop where
 entry : ∀ p ∈ m.entry, R p
 inn : ∀ p : Int, R p → ∀ x ∈ m.inn.getD p.toNat [], R x
 low : ∀ p : Int, R p → ∀ x ∈ m.low.getD p.toNat [], R x
 ret : ∀ p q : Int, R p → R q → 0 ≤ q → q < (m.of.length : Int) → ∀ x ∈ z4X (m.ret.getD p.toNat []) q.toNat, R x
theorem RGood.swap {m : Mo} {R : Int → Prop} {s : Int × List Int} (h : RGood m R s) {x : Int} (hx : (0 ≤ x ∧ x < (m.of.length : Int)) ∧ R x) (hof : m.of.getD x.toNat 0 = m.of.getD s.1.toNat 0) : RGood m R (x, s.2) := by
 refine ⟨fun y hy => ?_, fun i hi => ?_⟩
 ·rcases List.mem_append.1 hy with hy | hy
  ·exact h.mem y (List.mem_append_left _ hy)
  ·rw [List.mem_singleton.1 hy]; exact hx
 ·have h2 := h.base i (by simpa using hi);by_cases hl : i < s.2.length
  ·rw [z1J hl] at h2 ⊢; exact h2
  ·have e : i = s.2.length := by simp at hi; omega
   subst e;rw [z0E] at h2 ⊢;rw [hof]; exact h2
theorem z8V {m : Mo} (hm : ModOk m) {R : Int → Prop} (hR : RClosed m R) {s t : Int × List Int} {x : Int × Int} (h : RGood m R s) (ht : z25 m s x = some t) : RGood m R t := by
 obtain ⟨⟨a0, a1⟩, ar, ab⟩ := h.at;have hp : s.1.toNat < m.of.length := by omega
 unfold z25 at ht;split at ht
 ·split at ht
  ·rename_i hb;cases ht;have he : (x.2 + 1).toNat < m.entry.length := by omega
   have h1 := hm.entry _ he;refine ⟨fun y hy => ?_, fun i hi => ?_⟩
   ·rcases List.mem_append.1 hy with hy | hy
    ·exact h.mem y hy
    ·rw [List.mem_singleton.1 hy]; exact ⟨h1.1, hR.entry _ (zM he)⟩
   ·by_cases hl : i < (s.2 ++ [s.1]).length
    ·rw [z1J hl]; exact h.base i hl
    ·have e : i = (s.2 ++ [s.1]).length := by
      simp only [List.length_append, List.length_singleton] at hi hl ⊢; omega
     subst e;rw [z0E, h1.2];simp only [List.length_append, List.length_singleton];omega
  ·cases ht
 ·split at ht
  ·split at ht
   ·rename_i hb;split at ht
    ·rename_i h0;cases ht;have hz := ab.2 h0;obtain ⟨l1, l2⟩ := hm.low0 _ hp hz;have hi : x.2.toNat < (m.low.getD s.1.toNat []).length := by omega
     have hmem := zM hi;exact h.swap ⟨(l2 _ hmem).1, hR.low _ ar _ hmem⟩ (by rw [(l2 _ hmem).2, hz])
    ·rename_i h0;cases ht;obtain ⟨⟨t0, t1⟩, tr⟩ := h.top h0;have hz : m.of.getD s.1.toNat 0 ≠ 0 := fun e => h0 (ab.1 e);obtain ⟨r1, r2⟩ := hm.ret1 _ hp hz;have hi : x.2.toNat < (m.ret.getD s.1.toNat []).length := by omega
     have hl : 0 < s.2.length := List.length_pos_iff.2 h0;generalize hq : s.2.getD (s.2.length - 1) 0 = q at *;obtain ⟨r3, r4⟩ := r2 _ hi;obtain ⟨r5, r6⟩ := r4 q.toNat (by omega)
     have hrx : R (((m.ret.getD s.1.toNat []).getD x.2.toNat []).getD q.toNat 0) := by
      refine hR.ret s.1 q ar tr t0 t1 _ ?_;unfold z4X;refine List.mem_map.2 ⟨(m.ret.getD s.1.toNat []).getD x.2.toNat [], ?_, rfl⟩;rw [List.getD_eq_getElem?_getD (i := x.2.toNat), List.getElem?_eq_getElem hi];exact List.getElem_mem _
     refine ⟨fun y hy => ?_, fun i hi2 => ?_⟩
     ·rcases List.mem_append.1 hy with hy | hy
      ·exact h.mem y (List.mem_append_left _ (List.mem_of_mem_take hy))
      ·rw [List.mem_singleton.1 hy]; exact ⟨r5, hrx⟩
     ·simp only [List.length_append, List.length_take, List.length_singleton] at hi2;have h2 := h.base i (by simp; omega);rw [z1J (by omega)] at h2;by_cases hl2 : i < s.2.length - 1
      ·rw [z1J (by rw [List.length_take]; omega), List.getD_eq_getElem?_getD (l := s.2.take _), List.getElem?_take, if_pos hl2, ← List.getD_eq_getElem?_getD];exact h2
      ·have e : i = (s.2.take (s.2.length - 1)).length := by rw [List.length_take]; omega
       have e2 : i = s.2.length - 1 := by omega
       rw [e, z0E, ← e, r6];rw [e2, hq] at h2;rw [e2];exact h2
   ·cases ht
  ·split at ht
   ·split at ht
    ·rename_i hb;cases ht;obtain ⟨l1, l2⟩ := hm.inn _ hp;have hi : x.2.toNat < (m.inn.getD s.1.toNat []).length := by omega
     have hmem := zM hi;exact h.swap ⟨(l2 _ hmem).1, hR.inn _ ar _ hmem⟩ (l2 _ hmem).2
    ·cases ht
   ·cases ht
theorem z7A {m : Mo} (hm : ModOk m) {R : Int → Prop} (hR : RClosed m R) : RGood m R (m.entry.getD 0 0, []) := by
 have hk : 0 < m.entry.length := hm.k.1;have h1 := hm.entry 0 hk;refine ⟨fun y hy => ?_, fun i hi => ?_⟩
 ·rw [List.nil_append, List.mem_singleton] at hy;subst hy;exact ⟨h1.1, hR.entry _ (zM hk)⟩
 ·simp only [List.nil_append, List.length_singleton] at hi;have : i = 0 := by omega
  subst this;have := h1.2;simpa using this
theorem z4F {m : Mo} : RClosed m fun _ => True := ⟨fun _ _ => trivial, fun _ _ _ _ => trivial, fun _ _ _ _ => trivial, fun _ _ _ _ _ _ _ _ => trivial⟩
theorem z2Y (l : List Int) : ∀ i, i ≤ l.length → ∀ j, j < (z05 l i).length → (0 ≤ (z05 l i).getD j 0 ∧ (z05 l i).getD j 0 < (i : Int)) ∧ l.getD ((z05 l i).getD j 0).toNat 0 = j
 | 0, _, j, hj => by simp [z05] at hj
 | i + 1, hi, j, hj => by
  have ih := z2Y l i (by omega);unfold z05 at hj ⊢;split at hj
  ·rename_i h;rw [if_pos h];by_cases hl : j < (z05 l i).length
   ·rw [z1J hl];have := ih j hl;exact ⟨⟨this.1.1, by omega⟩, this.2⟩
   ·have e : j = (z05 l i).length := by simp only [List.length_append, List.length_singleton] at hj; omega
    subst e;rw [z0E];exact ⟨⟨by omega, by omega⟩, by rw [Int.toNat_natCast]; exact h⟩
  ·rename_i h;rw [if_neg h];have := ih j hj;exact ⟨⟨this.1.1, by omega⟩, this.2⟩
def zA (cls : List Int) : List Int := z05 cls cls.length
def z06 (m : Mo) (cls : List Int) : Mo :=
 { plains := m.plains, closings := m.closings, entry := zC cls m.entry
   of := (zA cls).map fun p => m.of.getD p.toNat 0
   final := (zA cls).map fun p => m.final.getD p.toNat false
   inn := (zA cls).map fun p => zC cls (m.inn.getD p.toNat [])
   low := (zA cls).map fun p => zC cls (m.low.getD p.toNat [])
   ret := (zA cls).map fun p => (m.ret.getD p.toNat []).map fun row => zC cls (zC row (zA cls)) }
structure ClsOk (m : Mo) (cls : List Int) : Prop where
 len : cls.length = m.of.length
 ent : ∀ p ∈ m.entry, 0 ≤ cls.getD p.toNat 0
 inn : ∀ p : Nat, p < m.of.length → 0 ≤ cls.getD p 0 → ∀ x ∈ m.inn.getD p [], 0 ≤ cls.getD x.toNat 0
 low : ∀ p : Nat, p < m.of.length → 0 ≤ cls.getD p 0 → ∀ x ∈ m.low.getD p [], 0 ≤ cls.getD x.toNat 0
 ret : ∀ p q : Nat, p < m.of.length → q < m.of.length → 0 ≤ cls.getD p 0 → 0 ≤ cls.getD q 0 → ∀ x ∈ z4X (m.ret.getD p []) q, 0 ≤ cls.getD x.toNat 0
 mod : ∀ p q : Nat, p < m.of.length → q < m.of.length → 0 ≤ cls.getD p 0 → cls.getD p 0 = cls.getD q 0 → m.of.getD p 0 = m.of.getD q 0
 num : ∀ p : Nat, p < m.of.length → 0 ≤ cls.getD p 0 → cls.getD p 0 < ((zA cls).length : Int)
theorem zL {α β : Type} (f : α → β) (l : List α) {i : Nat} (h : i < l.length) (d : β) (e : α) : (l.map f).getD i d = f (l.getD i e) := by
 rw [List.getD_eq_getElem?_getD, List.getElem?_map, List.getElem?_eq_getElem h, List.getD_eq_getElem?_getD, List.getElem?_eq_getElem h]; rfl
theorem z6k {cls l : List Int} {x : Int} (h : x ∈ zC cls l) : ∃ y ∈ l, x = cls.getD y.toNat 0 := by
 obtain ⟨y, hy, e⟩ := List.mem_map.1 h;exact ⟨y, hy, e.symm⟩
theorem ClsOk.least {m : Mo} {cls : List Int} (hc : ClsOk m cls) {j : Nat} (hj : j < (zA cls).length) : ((zA cls).getD j 0).toNat < m.of.length ∧ 0 ≤ (zA cls).getD j 0 ∧ cls.getD ((zA cls).getD j 0).toNat 0 = j := by
 have := z2Y cls cls.length (Nat.le_refl _) j hj;have hl := hc.len;refine ⟨?_, this.1.1, this.2⟩;have h2 := this.1;unfold zA;omega
theorem ClsOk.rep {m : Mo} {cls : List Int} (hc : ClsOk m cls) {x : Int} (h0 : 0 ≤ x) (h1 : x < (m.of.length : Int)) (hx : 0 ≤ cls.getD x.toNat 0) : (0 ≤ cls.getD x.toNat 0 ∧ cls.getD x.toNat 0 < ((zA cls).length : Int)) ∧ ((zA cls).map fun p => m.of.getD p.toNat 0).getD (cls.getD x.toNat 0).toNat 0 = m.of.getD x.toNat 0 := by
 have hn := hc.num x.toNat (by omega) hx;have hj : (cls.getD x.toNat 0).toNat < (zA cls).length := by omega
 obtain ⟨q1, q2, q3⟩ := hc.least hj;refine ⟨⟨hx, hn⟩, ?_⟩;rw [zL _ _ hj _ 0];exact hc.mod _ _ q1 (by omega) (by omega) (by rw [q3]; omega)
theorem z92 {m : Mo} {cls : List Int} (hm : ModOk m) (hc : ClsOk m cls) : ModOk (z06 m cls) := by
 have hst := hm.st
 have hl : (zA cls).length ≤ 60 := by
  have := z2Q cls cls.length;have := hc.len; have := hm.n;unfold zA; omega
 have hcl : ∀ j, j < (zA cls).length → 0 ≤ cls.getD ((zA cls).getD j 0).toNat 0 := fun j hj => by rw [(hc.least hj).2.2]; omega
 refine ⟨hm.pl, hm.cl, ⟨?_, by simpa [z06] using hl⟩, by simpa [z06, z0r] using hm.k, by simp [z06], by simp [z06], by simp [z06], by simp [z06], fun p hp => ?_, fun i hi => ?_, fun p hp => ?_, fun p hp h0 => ?_, fun p hp h0 => ?_, fun p hp h0 => ?_, fun p hp h0 => ?_⟩
 ·have hk : 0 < m.entry.length := hm.k.1;have h1 := hm.entry 0 hk;have := (hc.rep h1.1.1 h1.1.2 (hc.ent _ (zM hk))).1;simp only [z06, List.length_map];omega
 all_goals simp only [z06, List.length_map, z0r] at *
 ·rw [zL _ _ hp _ 0];exact hm.of _ (hc.least hp).1
 ·have h1 := hm.entry i hi;have h2 := hc.rep h1.1.1 h1.1.2 (hc.ent _ (zM hi));have e : (zC cls m.entry).getD i 0 = cls.getD (m.entry.getD i 0).toNat 0 := by unfold zC; rw [zL _ _ hi _ 0]
  rw [e];exact ⟨h2.1, by rw [h2.2, h1.2]⟩
 ·obtain ⟨q1, q2, q3⟩ := hc.least hp;rw [zL _ _ hp _ 0, zL _ _ hp _ 0];obtain ⟨i1, i2⟩ := hm.inn _ q1;refine ⟨by rw [z0r]; exact i1, fun x hx => ?_⟩;obtain ⟨y, hy, rfl⟩ := z6k hx;have h3 := i2 y hy;have h4 := hc.rep h3.1.1 h3.1.2 (hc.inn _ q1 (hcl _ hp) y hy);exact ⟨h4.1, by rw [h4.2, h3.2]⟩
 ·obtain ⟨q1, q2, q3⟩ := hc.least hp;rw [zL _ _ hp _ 0] at h0;rw [zL _ _ hp _ 0];obtain ⟨i1, i2⟩ := hm.low0 _ q1 h0;refine ⟨by rw [z0r]; exact i1, fun x hx => ?_⟩;obtain ⟨y, hy, rfl⟩ := z6k hx;have h3 := i2 y hy;have h4 := hc.rep h3.1.1 h3.1.2 (hc.low _ q1 (hcl _ hp) y hy);exact ⟨h4.1, by rw [h4.2, h3.2]⟩
 ·obtain ⟨q1, q2, q3⟩ := hc.least hp;rw [zL _ _ hp _ 0] at h0;rw [zL _ _ hp _ 0, hm.low1 _ q1 h0];rfl
 ·obtain ⟨q1, q2, q3⟩ := hc.least hp;rw [zL _ _ hp _ 0] at h0;rw [zL _ _ hp _ 0, hm.ret0 _ q1 h0];rfl
 ·obtain ⟨q1, q2, q3⟩ := hc.least hp;rw [zL _ _ hp _ 0] at h0;rw [zL _ _ hp _ 0, List.length_map];obtain ⟨i1, i2⟩ := hm.ret1 _ q1 h0;refine ⟨i1, fun j hj => ?_⟩;obtain ⟨i3, i4⟩ := i2 j hj;rw [zL _ _ hj _ [], z0r, z0r];refine ⟨rfl, fun q hq => ?_⟩;obtain ⟨p1, p2, p3⟩ := hc.least hq
  have e : (zC cls (zC ((m.ret.getD ((zA cls).getD p 0).toNat []).getD j []) (zA cls))).getD q 0 = cls.getD (((m.ret.getD ((zA cls).getD p 0).toNat []).getD j []).getD ((zA cls).getD q 0).toNat 0).toNat 0 := by
   unfold zC;rw [zL _ _ (by simpa using hq) _ 0, zL _ _ hq _ 0]
  rw [e, zL _ _ hq _ 0];have h3 := i4 _ p1
  have hy : ((m.ret.getD ((zA cls).getD p 0).toNat []).getD j []).getD ((zA cls).getD q 0).toNat 0 ∈ z4X (m.ret.getD ((zA cls).getD p 0).toNat []) ((zA cls).getD q 0).toNat := by
   unfold z4X;refine List.mem_map.2 ⟨_, ?_, rfl⟩;rw [List.getD_eq_getElem?_getD (i := j), List.getElem?_eq_getElem hj];exact List.getElem_mem _
  have h4 := hc.rep h3.1.1 h3.1.2 (hc.ret _ _ q1 p1 (hcl _ hp) (hcl _ hq) _ hy);exact ⟨h4.1, by rw [h4.2, h3.2]⟩
theorem z0G {is : List Bool} {p : Nat} (hp : p < is.length) : (zZ is).getD p 0 = if is.getD p false then (z0w is p : Int) else -1 := by
 unfold zZ;rw [zL _ _ (by simpa using hp) _ 0];have : (List.range is.length).getD p 0 = p := by rw [List.getD_eq_getElem?_getD, List.getElem?_eq_getElem (by simpa using hp)]; simp
 rw [this]
theorem z4x (is : List Bool) : ∀ i, i ≤ is.length → (z05 (zZ is) i).length = z0w is i
 | 0, _ => by simp [z05, z0w]
 | i + 1, hi => by
  have ih := z4x is i (by omega);unfold z05;rw [z0G (by omega), z2o (by omega), ih];cases is.getD i false
  ·rw [if_neg (by simp)]; simpa using ih
  ·rw [if_pos (by simp), List.length_append, List.length_singleton, ih]; rfl
theorem z4y (is : List Bool) : ∀ i k, i + k ≤ is.length → z0w is i ≤ z0w is (i + k)
 | i, 0, _ => Nat.le_refl _
 | i, k + 1, h => by
  have := z4y is i k (by omega);have e := z2o (l := is) (i := i + k) (by omega);rw [show i + (k + 1) = i + k + 1 by omega, e];omega
theorem zaX {is : List Bool} {p : Nat} (hp : p < is.length) (h : is.getD p false = true) : z0w is p < (zA (zZ is)).length := by
 unfold zA;have hl : (zZ is).length = is.length := by simp [zZ]
 rw [hl, z4x is _ (Nat.le_refl _)];have h1 := z2o hp;rw [h] at h1;have h2 := z4y is (p + 1) (is.length - (p + 1)) (by omega);rw [show p + 1 + (is.length - (p + 1)) = is.length by omega] at h2;simp at h1;omega
theorem zaY {is : List Bool} {p q : Nat} (hp : p < is.length) (hq : q < is.length) (h1 : is.getD p false = true) (h2 : is.getD q false = true) (e : z0w is p = z0w is q) : p = q := by
 have a1 := z2o hp;have a2 := z2o hq;rw [h1] at a1;rw [h2] at a2;simp at a1 a2;by_cases hlt : p < q
 ·have := z4y is (p + 1) (q - (p + 1)) (by omega);rw [show p + 1 + (q - (p + 1)) = q by omega] at this;omega
 ·by_cases hgt : q < p
  ·have := z4y is (q + 1) (p - (q + 1)) (by omega);rw [show q + 1 + (p - (q + 1)) = p by omega] at this;omega
  ·omega
theorem z0v {is : List Bool} {p : Nat} (h : is.getD p false = true) : p < is.length := by
 by_cases hp : p < is.length
 ·exact hp
 ·rw [List.getD_eq_getElem?_getD, List.getElem?_eq_none (by omega)] at h; simp at h
theorem z2s {is : List Bool} {p : Nat} (hp : p < is.length) : 0 ≤ (zZ is).getD p 0 ↔ is.getD p false = true := by
 rw [z0G hp];cases is.getD p false
 ·simp
 ·simp
theorem z7P {m : Mo} (hm : ModOk m) : ClsOk m (zZ (z0 m)) := by
 have hst := hm.st;have hl := z0j hst;have hc := z0W hst;have hp : ∀ {x : Int}, 0 ≤ x ∧ x < (m.of.length : Int) → (z0 m).getD x.toNat false = true → 0 ≤ (zZ (z0 m)).getD x.toNat 0 := fun h1 h2 => (z2s (by omega)).2 h2;refine ⟨by simp [zZ, hl], fun p h => hp (hst.entry p h) (hc.entry p h), fun p h h0 x hx => hp (hst.inn _ x hx) (hc.inn p ((z2s (by omega)).1 h0) x hx), fun p h h0 x hx => hp (hst.low _ x hx) (hc.low p ((z2s (by omega)).1 h0) x hx), fun p q h hq h0 h1 x hx => hp (hst.ret _ _ hq x hx) (hc.ret p q ((z2s (by omega)).1 h0) ((z2s (by omega)).1 h1) x hx), fun p q h hq h0 e => ?_, fun p h h0 => ?_⟩
 ·have r1 := (z2s (is := z0 m) (p := p) (by omega)).1 h0;have r2 := (z2s (is := z0 m) (p := q) (by omega)).1 (e ▸ h0);rw [z0G (by omega), z0G (by omega), r1, r2] at e;simp only [if_true] at e;rw [zaY (by omega) (by omega) r1 r2 (by omega)]
 ·have r1 := (z2s (is := z0 m) (p := p) (by omega)).1 h0;rw [z0G (by omega), r1];have := zaX (is := z0 m) (by omega) r1;simp only [if_true];omega
def zX (m : Mo) : Mo := z06 m (zZ (z0 m))
theorem z3x {m : Mo} (hm : ModOk m) : ModOk (zX m) := z92 hm (z7P hm)
def z17 (m : Mo) (p : Nat) : List Int := m.of.getD p 0 :: (if m.final.getD p false then 1 else 0) :: List.replicate 59 0
def z2A (m : Mo) : List Int := z2U ((List.range m.of.length).map (z17 m))
def z0O (m : Mo) (j : Nat) : List (List Int) := (List.range m.of.length).map fun p => if m.of.getD p 0 = 0 then [] else (m.ret.getD p []).getD j []
def z0M (m : Mo) (j : Nat) : List (List Int) := (List.range m.of.length).map fun q => ((List.range m.of.length).filter fun p => decide (m.of.getD p 0 ≠ 0)).map fun p => ((m.ret.getD p []).getD j []).getD q 0
def z1F (m : Mo) : List (List (List Int)) := [m.inn, m.low] ++ (List.range m.closings.toNat).flatMap fun j => [z0O m j, z0M m j]
def zF (m : Mo) : List Int := z1b (z1F m) (m.of.length + 1) (z2A m)
def zx (m : Mo) : List Int := (zZ (z0 m)).map fun n => if n = -1 then n else (zF (zX m)).getD n.toNat 0
def z0L (m : Mo) : Mo := z06 (zX m) (zF (zX m))
theorem z4C (m : Mo) : (z2A m).length = m.of.length := by
 unfold z2A z2U; rw [z42]; simp
theorem z59 {m : Mo} (hm : ModOk m) : ∀ r ∈ z1F m, r.length = m.of.length := by
 intro r hr;unfold z1F at hr;rcases List.mem_append.1 hr with h | h
 ·simp only [List.mem_cons, List.not_mem_nil, or_false] at h;rcases h with rfl | rfl
  ·exact hm.il
  ·exact hm.ll
 ·obtain ⟨j, _, h⟩ := List.mem_flatMap.1 h;simp only [List.mem_cons, List.not_mem_nil, or_false] at h;rcases h with rfl | rfl
  ·simp [z0O]
  ·simp [z0M]
theorem z6T (ways : List (List (List Int))) (n : Nat) (hw : ∀ r ∈ ways, r.length = n) : ∀ (f : Nat) (c : List Int), Can c → c.length = n → n < f + z3e c → Can (z1b ways f c) ∧ (z1b ways f c).length = n ∧ z12 ways (z1b ways f c) = z1b ways f c
 | 0, c, hc, hl, hf => by have := za6 c; omega
 | f + 1, c, hc, hl, hf => by
  obtain ⟨h1, h2, h3, h4⟩ := z2D ways hc hl hw;unfold z1b;split
  ·rename_i h; exact ⟨hc, hl, h⟩
  ·rename_i h;refine z6T ways n hw f _ h1 h2 ?_;have : z3e c ≠ z3e (z12 ways c) := fun e => h (h4 e);omega
theorem z19 {m : Mo} (hm : ModOk m) : Can (zF m) ∧ (zF m).length = m.of.length ∧ z12 (z1F m) (zF m) = zF m :=
 z6T _ _ (z59 hm) _ _ (z7U _) (z4C m) (by omega)
theorem zab {c : List Int} (h : Can c) {i : Nat} (hi : i < c.length) : 0 ≤ c.getD i 0 ∧ c.getD i 0 < (z3e c : Int) := by
 have := zeu c (c.getD i 0) (by rw [h]; exact zM hi);exact this
theorem z4l {m : Mo} (hm : ModOk m) : (zx m).length = m.of.length := by
 unfold zx;rw [List.length_map];exact (z7P hm).len
end Go.Am
