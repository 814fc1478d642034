import Derived.Test.YtjgbcpagfghfnaaQXM28
set_option linter.unusedVariables false
set_option linter.unusedSimpArgs false
set_option linter.unnecessarySimpa false
namespace Go.Am
theorem nodup_le : ∀ (n : Nat) (l : List Nat), l.Nodup → (∀ x ∈ l, x < n) → l.length ≤ n
 | 0, l, _, h => by
  cases l with
  | nil => exact Nat.le_refl _
  | cons a l => have := h a (List.mem_cons_self ..); omega
 | n + 1, l, hl, h => by
  have := nodup_le n (l.erase n) (hl.erase n) (fun x hx => by
   obtain ⟨h1, h2⟩ := (hl.mem_erase_iff).1 hx
   have := h x h2
   omega)
  by_cases e : n ∈ l
  ·rw [List.length_erase_of_mem e] at this; omega
  ·rw [List.erase_of_not_mem e] at this; omega
structure SOk (n : Nat) (s : List Bool × List Int) : Prop where
 len : s.1.length = n
 mem : ∀ q : Int, q ∈ s.2 ↔ 0 ≤ q ∧ s.1.getD q.toNat false = true
 nd : s.2.Nodup
theorem SOk.lt {n : Nat} {s : List Bool × List Int} (h : SOk n s) {q : Int} (hq : q ∈ s.2) : 0 ≤ q ∧ q < n := by
 obtain ⟨h1, h2⟩ := (h.mem q).1 hq
 refine ⟨h1, ?_⟩
 by_cases e : q.toNat < s.1.length
 ·have := h.len; omega
 ·rw [List.getD_eq_getElem?_getD, List.getElem?_eq_none (by omega)] at h2; simp at h2
theorem SOk.le {n : Nat} {s : List Bool × List Int} (h : SOk n s) : s.2.length ≤ n := by
 have h1 : (s.2.map Int.toNat).Nodup := by
  unfold List.Nodup at *
  rw [List.pairwise_map]
  refine List.Pairwise.imp_of_mem ?_ h.nd
  intro a b ha hb hab e
  have := h.lt ha; have := h.lt hb
  omega
 have := nodup_le n _ h1 (fun x hx => by
  obtain ⟨q, hq, rfl⟩ := List.mem_map.1 hx
  have := h.lt hq
  omega)
 simpa using this
theorem find1_ok {n : Nat} {s : List Bool × List Int} {p : Int} (h : SOk n s) (h0 : 0 ≤ p) (h1 : p < n) : SOk n (find1 s p) := by
 unfold find1
 split
 ·exact h
 ·rename_i hp
  refine ⟨by simp [h.len], fun q => ?_, ?_⟩
  ·have hl := h.len
   rw [List.mem_append, List.mem_singleton, h.mem q]
   simp only [List.getD_eq_getElem?_getD, List.getElem?_set]
   constructor
   ·rintro (⟨q1, q2⟩ | rfl)
    ·refine ⟨q1, ?_⟩
     split
     ·split
      ·rfl
      ·rename_i e1 e2; omega
     ·exact q2
    ·exact ⟨h0, by rw [if_pos rfl, if_pos (by omega)]; rfl⟩
   ·rintro ⟨q1, q2⟩
    split at q2
    ·rename_i e
     exact .inr (by omega)
    ·exact .inl ⟨q1, q2⟩
  ·rw [List.nodup_append]
   refine ⟨h.nd, by simp, fun a ha b hb e => ?_⟩
   rw [List.mem_singleton] at hb
   subst hb; subst e
   exact hp ((h.mem a).1 ha).2
def SLe (s t : List Bool × List Int) : Prop := (∀ p, s.1.getD p false = true → t.1.getD p false = true) ∧ ∃ more, t.2 = s.2 ++ more
theorem SLe.refl {s : List Bool × List Int} : SLe s s := ⟨fun _ h => h, [], by simp⟩
theorem SLe.trans {s t u : List Bool × List Int} (h : SLe s t) (k : SLe t u) : SLe s u := by
 obtain ⟨h1, a, h2⟩ := h
 obtain ⟨k1, b, k2⟩ := k
 exact ⟨fun p q => k1 p (h1 p q), a ++ b, by rw [k2, h2, List.append_assoc]⟩
theorem find1_sle (s : List Bool × List Int) (p : Int) : SLe s (find1 s p) := by
 unfold find1
 split
 ·exact .refl
 ·refine ⟨fun q hq => ?_, [p], rfl⟩
  rw [List.getD_eq_getElem?_getD, List.getElem?_set]
  split
  ·split
   ·rfl
   ·rename_i e1 e2; rw [List.getD_eq_getElem?_getD, List.getElem?_eq_none (by omega)] at hq; simp at hq
  ·rw [← List.getD_eq_getElem?_getD]; exact hq
theorem findS_sle (l : List Int) : ∀ s, SLe s (findS s l) := by
 induction l with
 | nil => intro s; exact .refl
 | cons a l ih => intro s; exact (find1_sle s a).trans (ih _)
theorem findS_ok {n : Nat} (l : List Int) : ∀ s, SOk n s → (∀ p ∈ l, 0 ≤ p ∧ p < (n : Int)) → SOk n (findS s l) := by
 induction l with
 | nil => intro s h _; exact h
 | cons a l ih => intro s h hl; exact ih _ (find1_ok h (hl a (List.mem_cons_self ..)).1 (hl a (List.mem_cons_self ..)).2) fun p hp => hl p (List.mem_cons_of_mem _ hp)
theorem findS_has {n : Nat} (l : List Int) : ∀ s : List Bool × List Int, s.1.length = n → (∀ p ∈ l, 0 ≤ p ∧ p < (n : Int)) → ∀ p ∈ l, (findS s l).1.getD p.toNat false = true := by
 induction l with
 | nil => intro s _ _ p hp; simp at hp
 | cons a l ih =>
  intro s hs hl p hp
  rcases List.mem_cons.1 hp with rfl | hp
  ·refine (findS_sle l (find1 s p)).1 _ ?_
   have := hl p (List.mem_cons_self ..)
   unfold find1
   split
   ·assumption
   ·rw [List.getD_eq_getElem?_getD, List.getElem?_set, if_pos rfl, if_pos (by omega)]; rfl
  ·exact ih (find1 s a) (by rw [find1_len, hs]) (fun p hp => hl p (List.mem_cons_of_mem _ hp)) p hp
def retIn (m : Mo) (p : Int) (s : List Bool × List Int) (q : Int) : List Bool × List Int := findS (findS s (colL (m.ret.getD p.toNat []) q.toNat)) (colL (m.ret.getD q.toNat []) p.toNat)
def stepIn (m : Mo) (p : Int) (s : List Bool × List Int) : List Bool × List Int := findS (findS s (m.inn.getD p.toNat [])) (m.low.getD p.toNat [])
def reachStep (m : Mo) (s : List Bool × List Int) (i : Nat) : List Bool × List Int := ((stepIn m (s.2.getD i 0) s).2.take (i + 1)).foldl (retIn m (s.2.getD i 0)) (stepIn m (s.2.getD i 0) s)
def reachGo (m : Mo) : Nat → Nat → List Bool × List Int → List Bool × List Int
 | 0, _, s => s
 | f + 1, i, s => if i < s.2.length then reachGo m f (i + 1) (reachStep m s i) else s
def reachS (m : Mo) : List Bool × List Int := reachGo m (m.of.length + 1) 0 (findS (List.replicate m.of.length false, []) m.entry)
def reachedF (m : Mo) : List Bool := (reachS m).1
structure MoSt (m : Mo) : Prop where
 entry : ∀ p ∈ m.entry, 0 ≤ p ∧ p < (m.of.length : Int)
 inn : ∀ i, ∀ p ∈ m.inn.getD i [], 0 ≤ p ∧ p < (m.of.length : Int)
 low : ∀ i, ∀ p ∈ m.low.getD i [], 0 ≤ p ∧ p < (m.of.length : Int)
 ret : ∀ i q, q < m.of.length → ∀ p ∈ colL (m.ret.getD i []) q, 0 ≤ p ∧ p < (m.of.length : Int)
theorem stepIn_ok {m : Mo} (hm : MoSt m) {p : Int} {s : List Bool × List Int} (h : SOk m.of.length s) : SOk m.of.length (stepIn m p s) := findS_ok _ _ (findS_ok _ _ h (hm.inn _)) (hm.low _)
theorem stepIn_sle (m : Mo) (p : Int) (s : List Bool × List Int) : SLe s (stepIn m p s) := (findS_sle _ _).trans (findS_sle _ _)
theorem retIn_ok {m : Mo} (hm : MoSt m) {p q : Int} {s : List Bool × List Int} (h : SOk m.of.length s) (hp : 0 ≤ p ∧ p < (m.of.length : Int)) (hq : 0 ≤ q ∧ q < (m.of.length : Int)) : SOk m.of.length (retIn m p s q) := findS_ok _ _ (findS_ok _ _ h (hm.ret _ _ (by omega))) (hm.ret _ _ (by omega))
theorem retIn_sle (m : Mo) (p : Int) (s : List Bool × List Int) (q : Int) : SLe s (retIn m p s q) := (findS_sle _ _).trans (findS_sle _ _)
theorem retF_ok {m : Mo} (hm : MoSt m) {p : Int} (hp : 0 ≤ p ∧ p < (m.of.length : Int)) : ∀ (l : List Int) (s : List Bool × List Int), SOk m.of.length s → (∀ q ∈ l, 0 ≤ q ∧ q < (m.of.length : Int)) → SOk m.of.length (l.foldl (retIn m p) s)
 | [], _, h, _ => h
 | q :: l, s, h, hl => retF_ok hm hp l _ (retIn_ok hm h hp (hl q (List.mem_cons_self ..))) fun q hq => hl q (List.mem_cons_of_mem _ hq)
theorem retF_sle (m : Mo) (p : Int) : ∀ (l : List Int) (s : List Bool × List Int), SLe s (l.foldl (retIn m p) s)
 | [], _ => .refl
 | q :: l, s => (retIn_sle m p s q).trans (retF_sle m p l _)
theorem getD_memI {l : List Int} {i : Nat} (h : i < l.length) : l.getD i 0 ∈ l := by
 rw [List.getD_eq_getElem?_getD, List.getElem?_eq_getElem h]; exact List.getElem_mem h
theorem reachStep_ok {m : Mo} (hm : MoSt m) {s : List Bool × List Int} {i : Nat} (h : SOk m.of.length s) (hi : i < s.2.length) : SOk m.of.length (reachStep m s i) := by
 have hp := h.lt (getD_memI hi)
 have h1 := stepIn_ok hm (p := s.2.getD i 0) h
 exact retF_ok hm hp _ _ h1 fun q hq => h1.lt (List.mem_of_mem_take hq)
theorem reachStep_sle (m : Mo) (s : List Bool × List Int) (i : Nat) : SLe s (reachStep m s i) := (stepIn_sle _ _ _).trans (retF_sle _ _ _ _)
theorem reachGo_ok {m : Mo} (hm : MoSt m) : ∀ (f i : Nat) (s : List Bool × List Int), SOk m.of.length s → SOk m.of.length (reachGo m f i s)
 | 0, _, _, h => h
 | f + 1, i, s, h => by
  unfold reachGo
  split
  ·rename_i hi; exact reachGo_ok hm f _ _ (reachStep_ok hm h hi)
  ·exact h
theorem start_ok {m : Mo} (hm : MoSt m) : SOk m.of.length (findS (List.replicate m.of.length false, []) m.entry) := by
 refine findS_ok _ _ ⟨by simp, fun q => ?_, by simp⟩ hm.entry
 constructor
 ·intro h; simp at h
 ·rintro ⟨_, h⟩
  simp only [List.getD_eq_getElem?_getD, List.getElem?_replicate] at h
  split at h <;> simp at h
theorem reachS_ok {m : Mo} (hm : MoSt m) : SOk m.of.length (reachS m) := reachGo_ok hm _ _ _ (start_ok hm)
theorem reachedF_len {m : Mo} (hm : MoSt m) : (reachedF m).length = m.of.length := (reachS_ok hm).len
def Done (m : Mo) (s : List Bool × List Int) (i : Nat) : Prop :=
 (∀ x ∈ m.inn.getD (s.2.getD i 0).toNat [], s.1.getD x.toNat false = true) ∧ (∀ x ∈ m.low.getD (s.2.getD i 0).toNat [], s.1.getD x.toNat false = true) ∧
 ∀ j, j ≤ i → (∀ x ∈ colL (m.ret.getD (s.2.getD i 0).toNat []) (s.2.getD j 0).toNat, s.1.getD x.toNat false = true) ∧ (∀ x ∈ colL (m.ret.getD (s.2.getD j 0).toNat []) (s.2.getD i 0).toNat, s.1.getD x.toNat false = true)
theorem SLe.at {s t : List Bool × List Int} (h : SLe s t) {i : Nat} (hi : i < s.2.length) : t.2.getD i 0 = s.2.getD i 0 := by
 obtain ⟨_, more, h2⟩ := h
 rw [h2, List.getD_eq_getElem?_getD, List.getElem?_append_left hi, ← List.getD_eq_getElem?_getD]
theorem Done.mono {m : Mo} {s t : List Bool × List Int} {i : Nat} (hi : i < s.2.length) (h : Done m s i) (k : SLe s t) : Done m t i := by
 obtain ⟨h1, h2, h3⟩ := h
 unfold Done
 rw [k.at hi]
 refine ⟨fun x hx => k.1 _ (h1 x hx), fun x hx => k.1 _ (h2 x hx), fun j hj => ?_⟩
 rw [k.at (i := j) (by omega)]
 exact ⟨fun x hx => k.1 _ ((h3 j hj).1 x hx), fun x hx => k.1 _ ((h3 j hj).2 x hx)⟩
theorem retF_has {m : Mo} (hm : MoSt m) {p : Int} (hp : 0 ≤ p ∧ p < (m.of.length : Int)) : ∀ (l : List Int) (s : List Bool × List Int), SOk m.of.length s → (∀ q ∈ l, 0 ≤ q ∧ q < (m.of.length : Int)) → ∀ q ∈ l, (∀ x ∈ colL (m.ret.getD p.toNat []) q.toNat, (l.foldl (retIn m p) s).1.getD x.toNat false = true) ∧ (∀ x ∈ colL (m.ret.getD q.toNat []) p.toNat, (l.foldl (retIn m p) s).1.getD x.toNat false = true)
 | [], _, _, _, q, hq => by simp at hq
 | a :: l, s, h, hl, q, hq => by
  have ha := hl a (List.mem_cons_self ..)
  rcases List.mem_cons.1 hq with rfl | hq
  ·have k := retF_sle m p l (retIn m p s q)
   refine ⟨fun x hx => k.1 _ ?_, fun x hx => k.1 _ ?_⟩
   ·exact (findS_sle _ _).1 _ (findS_has _ _ h.len (hm.ret _ _ (by omega)) x hx)
   ·exact findS_has _ _ (by rw [findS_len]; exact h.len) (hm.ret _ _ (by omega)) x hx
  ·exact retF_has hm hp l _ (retIn_ok hm h hp ha) (fun q hq => hl q (List.mem_cons_of_mem _ hq)) q hq
theorem reachStep_done {m : Mo} (hm : MoSt m) {s : List Bool × List Int} {i : Nat} (h : SOk m.of.length s) (hi : i < s.2.length) : Done m (reachStep m s i) i := by
 have hp := h.lt (getD_memI hi)
 have k1 := stepIn_sle m (s.2.getD i 0) s
 have h1 := stepIn_ok hm (p := s.2.getD i 0) h
 have k2 := retF_sle m (s.2.getD i 0) ((stepIn m (s.2.getD i 0) s).2.take (i + 1)) (stepIn m (s.2.getD i 0) s)
 have hl : ∀ q ∈ (stepIn m (s.2.getD i 0) s).2.take (i + 1), 0 ≤ q ∧ q < (m.of.length : Int) := fun q hq => h1.lt (List.mem_of_mem_take hq)
 have hh := retF_has hm hp _ _ h1 hl
 have kk := reachStep_sle m s i
 unfold Done
 rw [kk.at hi]
 refine ⟨fun x hx => k2.1 _ ((findS_sle _ _).1 _ (findS_has _ _ h.len (hm.inn _) x hx)), fun x hx => k2.1 _ (findS_has _ _ (by rw [findS_len]; exact h.len) (hm.low _) x hx), fun j hj => ?_⟩
 rw [kk.at (i := j) (by omega)]
 refine hh (s.2.getD j 0) ?_
 obtain ⟨_, more, hm2⟩ := k1
 rw [hm2, List.take_append_of_le_length (by omega)]
 rw [List.mem_take_iff_getElem]
 refine ⟨j, by omega, ?_⟩
 rw [List.getD_eq_getElem?_getD, List.getElem?_eq_getElem (by omega)]; rfl
theorem reachGo_done {m : Mo} (hm : MoSt m) : ∀ (f i : Nat) (s : List Bool × List Int), SOk m.of.length s → m.of.length + 1 ≤ f + i → i ≤ s.2.length → (∀ j, j < i → Done m s j) → SLe s (reachGo m f i s) ∧ ∀ j, j < (reachGo m f i s).2.length → Done m (reachGo m f i s) j
 | 0, i, s, h, hf, hi, _ => by have := h.le; omega
 | f + 1, i, s, h, hf, hi, hd => by
  unfold reachGo
  split
  ·rename_i hlt
   have k := reachStep_sle m s i
   have h2 := reachStep_ok hm h hlt
   have hl : i + 1 ≤ (reachStep m s i).2.length := by obtain ⟨_, more, e⟩ := k; rw [e]; simp; omega
   have := reachGo_done hm f (i + 1) _ h2 (by omega) hl (fun j hj => by
    by_cases e : j = i
    ·subst e; exact reachStep_done hm h hlt
    ·exact (hd j (by omega)).mono (by omega) k)
   exact ⟨k.trans this.1, this.2⟩
  ·rename_i hlt
   exact ⟨.refl, fun j hj => hd j (by omega)⟩
structure Closed (m : Mo) (is : List Bool) : Prop where
 entry : ∀ p ∈ m.entry, is.getD p.toNat false = true
 inn : ∀ p : Nat, is.getD p false = true → ∀ x ∈ m.inn.getD p [], is.getD x.toNat false = true
 low : ∀ p : Nat, is.getD p false = true → ∀ x ∈ m.low.getD p [], is.getD x.toNat false = true
 ret : ∀ p q : Nat, is.getD p false = true → is.getD q false = true → ∀ x ∈ colL (m.ret.getD p []) q, is.getD x.toNat false = true
theorem reached_closed {m : Mo} (hm : MoSt m) : Closed m (reachedF m) := by
 have h0 := start_ok hm
 obtain ⟨h1, h2⟩ := reachGo_done hm (m.of.length + 1) 0 _ h0 (by omega) (Nat.zero_le _) (fun j hj => by omega)
 have hok := reachS_ok hm
 have hq : ∀ p : Nat, (reachedF m).getD p false = true → ∃ j, j < (reachS m).2.length ∧ (reachS m).2.getD j 0 = (p : Int) := by
  intro p hp
  have := (hok.mem (p : Int)).2 ⟨by omega, by rw [Int.toNat_natCast]; exact hp⟩
  obtain ⟨j, hj, e⟩ := List.getElem_of_mem this
  exact ⟨j, hj, by rw [List.getD_eq_getElem?_getD, List.getElem?_eq_getElem hj]; simpa using e⟩
 refine ⟨fun p hp => h1.1 _ (findS_has _ _ (by simp) hm.entry p hp), fun p hp x hx => ?_, fun p hp x hx => ?_, fun p q hp hq' x hx => ?_⟩
 ·obtain ⟨j, hj, e⟩ := hq p hp
  have := (h2 j hj).1
  change ∀ x ∈ m.inn.getD ((reachS m).2.getD j 0).toNat [], _ at this
  rw [e, Int.toNat_natCast] at this
  exact this x hx
 ·obtain ⟨j, hj, e⟩ := hq p hp
  have := (h2 j hj).2.1
  change ∀ x ∈ m.low.getD ((reachS m).2.getD j 0).toNat [], _ at this
  rw [e, Int.toNat_natCast] at this
  exact this x hx
 ·obtain ⟨j, hj, e⟩ := hq p hp
  obtain ⟨k, hk, e2⟩ := hq q hq'
  by_cases hjk : k ≤ j
  ·have := ((h2 j hj).2.2 k hjk).1
   change ∀ x ∈ colL (m.ret.getD ((reachS m).2.getD j 0).toNat []) ((reachS m).2.getD k 0).toNat, _ at this
   rw [e, e2, Int.toNat_natCast, Int.toNat_natCast] at this
   exact this x hx
  ·have := ((h2 k hk).2.2 j (by omega)).2
   change ∀ x ∈ colL (m.ret.getD ((reachS m).2.getD j 0).toNat []) ((reachS m).2.getD k 0).toNat, _ at this
   rw [e, e2, Int.toNat_natCast, Int.toNat_natCast] at this
   exact this x hx
theorem inF_iff {m : Mo} {p k : Int} : inF m p k = true ↔ (0 ≤ p ∧ p < (m.of.length : Int)) ∧ m.of.getD p.toNat 0 = k := by
 unfold inF; rw [decide_eq_true_eq]; constructor
 ·rintro ⟨⟨h1, h2⟩, h3⟩; exact ⟨⟨h1, by omega⟩, h3⟩
 ·rintro ⟨⟨h1, h2⟩, h3⟩; exact ⟨⟨h1, by omega⟩, h3⟩
theorem areF_iff {m : Mo} {l : List Int} {k : Int} : areF m l k = true ↔ ∀ x ∈ l, (0 ≤ x ∧ x < (m.of.length : Int)) ∧ m.of.getD x.toNat 0 = k := by
 unfold areF
 rw [allN_iff]
 constructor
 ·intro h x hx
  obtain ⟨i, hi, rfl⟩ := List.getElem_of_mem hx
  have := h i hi
  rw [List.getD_eq_getElem?_getD, List.getElem?_eq_getElem hi] at this
  exact inF_iff.1 this
 ·intro h i hi
  rw [List.getD_eq_getElem?_getD, List.getElem?_eq_getElem hi]
  exact inF_iff.2 (h _ (List.getElem_mem hi))
structure ModOk (m : Mo) : Prop where
 pl : 0 ≤ m.plains ∧ m.plains ≤ 20
 cl : 0 ≤ m.closings ∧ m.closings ≤ 20
 n : 1 ≤ m.of.length ∧ m.of.length ≤ 60
 k : 1 ≤ m.entry.length ∧ m.entry.length ≤ 21
 fl : m.final.length = m.of.length
 il : m.inn.length = m.of.length
 ll : m.low.length = m.of.length
 rl : m.ret.length = m.of.length
 of : ∀ p : Nat, p < m.of.length → 0 ≤ m.of.getD p 0 ∧ m.of.getD p 0 < (m.entry.length : Int)
 entry : ∀ i : Nat, i < m.entry.length → (0 ≤ m.entry.getD i 0 ∧ m.entry.getD i 0 < (m.of.length : Int)) ∧ m.of.getD (m.entry.getD i 0).toNat 0 = i
 inn : ∀ p : Nat, p < m.of.length → ((m.inn.getD p []).length : Int) = m.plains ∧ ∀ x ∈ m.inn.getD p [], (0 ≤ x ∧ x < (m.of.length : Int)) ∧ m.of.getD x.toNat 0 = m.of.getD p 0
 low0 : ∀ p : Nat, p < m.of.length → m.of.getD p 0 = 0 → ((m.low.getD p []).length : Int) = m.closings ∧ ∀ x ∈ m.low.getD p [], (0 ≤ x ∧ x < (m.of.length : Int)) ∧ m.of.getD x.toNat 0 = 0
 low1 : ∀ p : Nat, p < m.of.length → m.of.getD p 0 ≠ 0 → m.low.getD p [] = []
 ret0 : ∀ p : Nat, p < m.of.length → m.of.getD p 0 = 0 → m.ret.getD p [] = []
 ret1 : ∀ p : Nat, p < m.of.length → m.of.getD p 0 ≠ 0 → ((m.ret.getD p []).length : Int) = m.closings ∧ ∀ j : Nat, j < (m.ret.getD p []).length → ((m.ret.getD p []).getD j []).length = m.of.length ∧ ∀ q : Nat, q < m.of.length → (0 ≤ ((m.ret.getD p []).getD j []).getD q 0 ∧ ((m.ret.getD p []).getD j []).getD q 0 < (m.of.length : Int)) ∧ m.of.getD (((m.ret.getD p []).getD j []).getD q 0).toNat 0 = m.of.getD q 0
theorem modF_iff {m : Mo} : modF m = true ↔ ModOk m := by
 unfold modF
 rw [Bool.and_eq_true, Bool.and_eq_true]
 constructor
 ·rintro ⟨⟨hs, hh⟩, ha⟩
  unfold sizedF at hs
  rw [decide_eq_true_eq] at hs
  unfold housedF at hh
  rw [Bool.and_eq_true, allN_iff, allN_iff] at hh
  rw [allN_iff] at ha
  have hst : ∀ p, p < m.of.length → plnF m p = true ∧ lowF m p = true ∧ retF m p = true := fun p hp => by
   have := ha p hp; unfold stateF at this; rw [Bool.and_eq_true, Bool.and_eq_true] at this; exact ⟨this.1.1, this.1.2, this.2⟩
  refine ⟨hs.1, hs.2.1, by omega, by omega, by omega, by omega, by omega, by omega, fun p hp => ?_, fun i hi => inF_iff.1 (hh.2 i hi), fun p hp => ?_, fun p hp h0 => ?_, fun p hp h0 => ?_, fun p hp h0 => ?_, fun p hp h0 => ?_⟩
  ·have := of_decide_eq_true (hh.1 p hp); omega
  ·have := (hst p hp).1
   unfold plnF at this
   rw [Bool.and_eq_true, decide_eq_true_eq, areF_iff] at this
   exact this
  ·have := (hst p hp).2.1
   unfold lowF at this
   rw [if_pos h0, Bool.and_eq_true, decide_eq_true_eq, areF_iff] at this
   exact this
  ·have := (hst p hp).2.1
   unfold lowF at this
   rw [if_neg h0, decide_eq_true_eq] at this
   exact List.eq_nil_of_length_eq_zero (by omega)
  ·have := (hst p hp).2.2
   unfold retF at this
   rw [if_pos h0, decide_eq_true_eq] at this
   exact List.eq_nil_of_length_eq_zero (by omega)
  ·have := (hst p hp).2.2
   unfold retF at this
   rw [if_neg h0, Bool.and_eq_true, decide_eq_true_eq, allN_iff] at this
   refine ⟨this.1, fun j hj => ?_⟩
   have h2 := this.2 j hj
   unfold rowF at h2
   rw [Bool.and_eq_true, decide_eq_true_eq, allN_iff] at h2
   exact ⟨by omega, fun q hq => inF_iff.1 (h2.2 q (by omega))⟩
 ·intro h
  refine ⟨⟨?_, ?_⟩, ?_⟩
  ·unfold sizedF
   rw [decide_eq_true_eq]
   have := h.n; have := h.k
   exact ⟨h.pl, h.cl, by omega, by omega, by rw [h.fl], by rw [h.il], by rw [h.ll], by rw [h.rl]⟩
  ·unfold housedF
   rw [Bool.and_eq_true, allN_iff, allN_iff]
   exact ⟨fun p hp => decide_eq_true (by have := h.of p hp; omega), fun i hi => inF_iff.2 (h.entry i hi)⟩
  ·rw [allN_iff]
   intro p hp
   unfold stateF
   rw [Bool.and_eq_true, Bool.and_eq_true]
   refine ⟨⟨?_, ?_⟩, ?_⟩
   ·unfold plnF
    rw [Bool.and_eq_true, decide_eq_true_eq, areF_iff]
    exact h.inn p hp
   ·unfold lowF
    split
    ·rename_i h0
     rw [Bool.and_eq_true, decide_eq_true_eq, areF_iff]
     exact h.low0 p hp h0
    ·rename_i h0
     rw [h.low1 p hp h0]; rfl
   ·unfold retF
    split
    ·rename_i h0
     rw [h.ret0 p hp h0]; rfl
    ·rename_i h0
     rw [Bool.and_eq_true, decide_eq_true_eq, allN_iff]
     refine ⟨(h.ret1 p hp h0).1, fun j hj => ?_⟩
     obtain ⟨h1, h2⟩ := (h.ret1 p hp h0).2 j hj
     unfold rowF
     rw [Bool.and_eq_true, decide_eq_true_eq, allN_iff]
     exact ⟨by omega, fun q hq => inF_iff.2 (h2 q (by omega))⟩
theorem getD_nil {α : Type} {l : List (List α)} {i : Nat} (h : l.length ≤ i) : l.getD i [] = [] := by
 rw [List.getD_eq_getElem?_getD, List.getElem?_eq_none h]; rfl
theorem ModOk.st {m : Mo} (h : ModOk m) : MoSt m := by
 refine ⟨fun p hp => ?_, fun i p hp => ?_, fun i p hp => ?_, fun i q hq p hp => ?_⟩
 ·obtain ⟨i, hi, rfl⟩ := List.getElem_of_mem hp
  have := (h.entry i hi).1
  rwa [List.getD_eq_getElem?_getD, List.getElem?_eq_getElem hi] at this
 ·by_cases hi : i < m.of.length
  ·exact ((h.inn i hi).2 p hp).1
  ·rw [getD_nil (by have := h.il; omega)] at hp; simp at hp
 ·by_cases hi : i < m.of.length
  ·by_cases h0 : m.of.getD i 0 = 0
   ·exact ((h.low0 i hi h0).2 p hp).1
   ·rw [h.low1 i hi h0] at hp; simp at hp
  ·rw [getD_nil (by have := h.ll; omega)] at hp; simp at hp
 ·unfold colL at hp
  obtain ⟨row, hr, rfl⟩ := List.mem_map.1 hp
  by_cases hi : i < m.of.length
  ·by_cases h0 : m.of.getD i 0 = 0
   ·rw [h.ret0 i hi h0] at hr; simp at hr
   ·obtain ⟨j, hj, rfl⟩ := List.getElem_of_mem hr
    have := (((h.ret1 i hi h0).2 j hj).2 q hq).1
    rwa [List.getD_eq_getElem?_getD (l := m.ret.getD i []), List.getElem?_eq_getElem hj] at this
  ·rw [show m.ret.getD i [] = [] by rw [List.getD_eq_getElem?_getD, List.getElem?_eq_none (by have := h.rl; omega)]; rfl] at hr; simp at hr
def stepF (m : Mo) (s : Int × List Int) (x : Int × Int) : Option (Int × List Int) :=
 if x.1 = 1 then (if 0 ≤ x.2 ∧ x.2 ≤ (m.entry.length : Int) - 2 then some (m.entry.getD (x.2 + 1).toNat 0, s.2 ++ [s.1]) else none)
 else if x.1 = 2 then (if 0 ≤ x.2 ∧ x.2 ≤ m.closings - 1 then (if s.2 = [] then some ((m.low.getD s.1.toNat []).getD x.2.toNat 0, s.2) else some (((m.ret.getD s.1.toNat []).getD x.2.toNat []).getD (s.2.getD (s.2.length - 1) 0).toNat 0, s.2.take (s.2.length - 1))) else none)
 else if x.1 = 3 then (if 0 ≤ x.2 ∧ x.2 ≤ m.plains - 1 then some ((m.inn.getD s.1.toNat []).getD x.2.toNat 0, s.2) else none)
 else none
def runM (m : Mo) : List (Int × Int) → Int × List Int → Option (Int × List Int)
 | [], s => some s
 | x :: w, s => match stepF m s x with
  | none => none
  | some t => runM m w t
def takesF (m : Mo) (w : List (Int × Int)) : Bool := modF m && match runM m w (m.entry.getD 0 0, []) with
 | none => false
 | some s => m.final.getD s.1.toNat false
structure RGood (m : Mo) (R : Int → Prop) (s : Int × List Int) : Prop where
 mem : ∀ x ∈ s.2 ++ [s.1], (0 ≤ x ∧ x < (m.of.length : Int)) ∧ R x
 base : ∀ i, i < (s.2 ++ [s.1]).length → (m.of.getD ((s.2 ++ [s.1]).getD i 0).toNat 0 = 0 ↔ i = 0)
theorem RGood.at {m : Mo} {R : Int → Prop} {s : Int × List Int} (h : RGood m R s) : (0 ≤ s.1 ∧ s.1 < (m.of.length : Int)) ∧ R s.1 ∧ (m.of.getD s.1.toNat 0 = 0 ↔ s.2 = []) := by
 have h1 := h.mem s.1 (List.mem_append_right _ (List.mem_singleton.2 rfl))
 have h2 := h.base s.2.length (by simp)
 rw [List.getD_eq_getElem?_getD (l := s.2 ++ [s.1]), List.getElem?_append_right (Nat.le_refl _), Nat.sub_self] at h2
 refine ⟨h1.1, h1.2, h2.trans ⟨fun e => List.eq_nil_of_length_eq_zero e, fun e => by rw [e]; rfl⟩⟩
theorem RGood.top {m : Mo} {R : Int → Prop} {s : Int × List Int} (h : RGood m R s) (hl : s.2 ≠ []) : (0 ≤ s.2.getD (s.2.length - 1) 0 ∧ s.2.getD (s.2.length - 1) 0 < (m.of.length : Int)) ∧ R (s.2.getD (s.2.length - 1) 0) := by
 have hp : 0 < s.2.length := List.length_pos_iff.2 hl
 refine h.mem _ (List.mem_append_left _ ?_)
 rw [List.getD_eq_getElem?_getD, List.getElem?_eq_getElem (by omega)]
 exact List.getElem_mem _
theorem getD_append_lt {l r : List Int} {i : Nat} (h : i < l.length) : (l ++ r).getD i 0 = l.getD i 0 := by
 rw [List.getD_eq_getElem?_getD, List.getElem?_append_left h, ← List.getD_eq_getElem?_getD]
theorem getD_append_eq {l : List Int} {x : Int} : (l ++ [x]).getD l.length 0 = x := by
 rw [List.getD_eq_getElem?_getD, List.getElem?_append_right (Nat.le_refl _), Nat.sub_self]; rfl
structure RClosed (m : Mo) (R : Int → Prop) : Prop where
 entry : ∀ p ∈ m.entry, R p
 inn : ∀ p : Int, R p → ∀ x ∈ m.inn.getD p.toNat [], R x
 low : ∀ p : Int, R p → ∀ x ∈ m.low.getD p.toNat [], R x
 ret : ∀ p q : Int, R p → R q → 0 ≤ q → q < (m.of.length : Int) → ∀ x ∈ colL (m.ret.getD p.toNat []) q.toNat, R x
theorem RGood.swap {m : Mo} {R : Int → Prop} {s : Int × List Int} (h : RGood m R s) {x : Int} (hx : (0 ≤ x ∧ x < (m.of.length : Int)) ∧ R x) (hof : m.of.getD x.toNat 0 = m.of.getD s.1.toNat 0) : RGood m R (x, s.2) := by
 refine ⟨fun y hy => ?_, fun i hi => ?_⟩
 ·rcases List.mem_append.1 hy with hy | hy
  ·exact h.mem y (List.mem_append_left _ hy)
  ·rw [List.mem_singleton.1 hy]; exact hx
 ·have h2 := h.base i (by simpa using hi)
  by_cases hl : i < s.2.length
  ·rw [getD_append_lt hl] at h2 ⊢; exact h2
  ·have e : i = s.2.length := by simp at hi; omega
   subst e
   rw [getD_append_eq] at h2 ⊢
   rw [hof]; exact h2
theorem step_good {m : Mo} (hm : ModOk m) {R : Int → Prop} (hR : RClosed m R) {s t : Int × List Int} {x : Int × Int} (h : RGood m R s) (ht : stepF m s x = some t) : RGood m R t := by
 obtain ⟨⟨a0, a1⟩, ar, ab⟩ := h.at
 have hp : s.1.toNat < m.of.length := by omega
 unfold stepF at ht
 split at ht
 ·split at ht
  ·rename_i hb
   cases ht
   have he : (x.2 + 1).toNat < m.entry.length := by omega
   have h1 := hm.entry _ he
   refine ⟨fun y hy => ?_, fun i hi => ?_⟩
   ·rcases List.mem_append.1 hy with hy | hy
    ·exact h.mem y hy
    ·rw [List.mem_singleton.1 hy]; exact ⟨h1.1, hR.entry _ (getD_memI he)⟩
   ·by_cases hl : i < (s.2 ++ [s.1]).length
    ·rw [getD_append_lt hl]; exact h.base i hl
    ·have e : i = (s.2 ++ [s.1]).length := by
      simp only [List.length_append, List.length_singleton] at hi hl ⊢; omega
     subst e
     rw [getD_append_eq, h1.2]
     simp only [List.length_append, List.length_singleton]
     omega
  ·cases ht
 ·split at ht
  ·split at ht
   ·rename_i hb
    split at ht
    ·rename_i h0
     cases ht
     have hz := ab.2 h0
     obtain ⟨l1, l2⟩ := hm.low0 _ hp hz
     have hi : x.2.toNat < (m.low.getD s.1.toNat []).length := by omega
     have hmem := getD_memI hi
     exact h.swap ⟨(l2 _ hmem).1, hR.low _ ar _ hmem⟩ (by rw [(l2 _ hmem).2, hz])
    ·rename_i h0
     cases ht
     obtain ⟨⟨t0, t1⟩, tr⟩ := h.top h0
     have hz : m.of.getD s.1.toNat 0 ≠ 0 := fun e => h0 (ab.1 e)
     obtain ⟨r1, r2⟩ := hm.ret1 _ hp hz
     have hi : x.2.toNat < (m.ret.getD s.1.toNat []).length := by omega
     have hl : 0 < s.2.length := List.length_pos_iff.2 h0
     generalize hq : s.2.getD (s.2.length - 1) 0 = q at *
     obtain ⟨r3, r4⟩ := r2 _ hi
     obtain ⟨r5, r6⟩ := r4 q.toNat (by omega)
     have hrx : R (((m.ret.getD s.1.toNat []).getD x.2.toNat []).getD q.toNat 0) := by
      refine hR.ret s.1 q ar tr t0 t1 _ ?_
      unfold colL
      refine List.mem_map.2 ⟨(m.ret.getD s.1.toNat []).getD x.2.toNat [], ?_, rfl⟩
      rw [List.getD_eq_getElem?_getD (i := x.2.toNat), List.getElem?_eq_getElem hi]
      exact List.getElem_mem _
     refine ⟨fun y hy => ?_, fun i hi2 => ?_⟩
     ·rcases List.mem_append.1 hy with hy | hy
      ·exact h.mem y (List.mem_append_left _ (List.mem_of_mem_take hy))
      ·rw [List.mem_singleton.1 hy]; exact ⟨r5, hrx⟩
     ·simp only [List.length_append, List.length_take, List.length_singleton] at hi2
      have h2 := h.base i (by simp; omega)
      rw [getD_append_lt (by omega)] at h2
      by_cases hl2 : i < s.2.length - 1
      ·rw [getD_append_lt (by rw [List.length_take]; omega), List.getD_eq_getElem?_getD (l := s.2.take _), List.getElem?_take, if_pos hl2, ← List.getD_eq_getElem?_getD]
       exact h2
      ·have e : i = (s.2.take (s.2.length - 1)).length := by rw [List.length_take]; omega
       have e2 : i = s.2.length - 1 := by omega
       rw [e, getD_append_eq, ← e, r6]
       rw [e2, hq] at h2
       rw [e2]
       exact h2
   ·cases ht
  ·split at ht
   ·split at ht
    ·rename_i hb
     cases ht
     obtain ⟨l1, l2⟩ := hm.inn _ hp
     have hi : x.2.toNat < (m.inn.getD s.1.toNat []).length := by omega
     have hmem := getD_memI hi
     exact h.swap ⟨(l2 _ hmem).1, hR.inn _ ar _ hmem⟩ (l2 _ hmem).2
    ·cases ht
   ·cases ht
theorem start_good {m : Mo} (hm : ModOk m) {R : Int → Prop} (hR : RClosed m R) : RGood m R (m.entry.getD 0 0, []) := by
 have hk : 0 < m.entry.length := hm.k.1
 have h1 := hm.entry 0 hk
 refine ⟨fun y hy => ?_, fun i hi => ?_⟩
 ·rw [List.nil_append, List.mem_singleton] at hy
  subst hy
  exact ⟨h1.1, hR.entry _ (getD_memI hk)⟩
 ·simp only [List.nil_append, List.length_singleton] at hi
  have : i = 0 := by omega
  subst this
  have := h1.2
  simpa using this
theorem all_closed {m : Mo} : RClosed m fun _ => True := ⟨fun _ _ => trivial, fun _ _ _ _ => trivial, fun _ _ _ _ => trivial, fun _ _ _ _ _ _ _ _ => trivial⟩
theorem leastL_ok (l : List Int) : ∀ i, i ≤ l.length → ∀ j, j < (leastL l i).length → (0 ≤ (leastL l i).getD j 0 ∧ (leastL l i).getD j 0 < (i : Int)) ∧ l.getD ((leastL l i).getD j 0).toNat 0 = j
 | 0, _, j, hj => by simp [leastL] at hj
 | i + 1, hi, j, hj => by
  have ih := leastL_ok l i (by omega)
  unfold leastL at hj ⊢
  split at hj
  ·rename_i h
   rw [if_pos h]
   by_cases hl : j < (leastL l i).length
   ·rw [getD_append_lt hl]
    have := ih j hl
    exact ⟨⟨this.1.1, by omega⟩, this.2⟩
   ·have e : j = (leastL l i).length := by simp only [List.length_append, List.length_singleton] at hj; omega
    subst e
    rw [getD_append_eq]
    exact ⟨⟨by omega, by omega⟩, by rw [Int.toNat_natCast]; exact h⟩
  ·rename_i h
   rw [if_neg h]
   have := ih j hj
   exact ⟨⟨this.1.1, by omega⟩, this.2⟩
def leastsL (cls : List Int) : List Int := leastL cls cls.length
def mergedF (m : Mo) (cls : List Int) : Mo :=
 { plains := m.plains, closings := m.closings, entry := pickL cls m.entry
   of := (leastsL cls).map fun p => m.of.getD p.toNat 0
   final := (leastsL cls).map fun p => m.final.getD p.toNat false
   inn := (leastsL cls).map fun p => pickL cls (m.inn.getD p.toNat [])
   low := (leastsL cls).map fun p => pickL cls (m.low.getD p.toNat [])
   ret := (leastsL cls).map fun p => (m.ret.getD p.toNat []).map fun row => pickL cls (pickL row (leastsL cls)) }
structure ClsOk (m : Mo) (cls : List Int) : Prop where
 len : cls.length = m.of.length
 ent : ∀ p ∈ m.entry, 0 ≤ cls.getD p.toNat 0
 inn : ∀ p : Nat, p < m.of.length → 0 ≤ cls.getD p 0 → ∀ x ∈ m.inn.getD p [], 0 ≤ cls.getD x.toNat 0
 low : ∀ p : Nat, p < m.of.length → 0 ≤ cls.getD p 0 → ∀ x ∈ m.low.getD p [], 0 ≤ cls.getD x.toNat 0
 ret : ∀ p q : Nat, p < m.of.length → q < m.of.length → 0 ≤ cls.getD p 0 → 0 ≤ cls.getD q 0 → ∀ x ∈ colL (m.ret.getD p []) q, 0 ≤ cls.getD x.toNat 0
 mod : ∀ p q : Nat, p < m.of.length → q < m.of.length → 0 ≤ cls.getD p 0 → cls.getD p 0 = cls.getD q 0 → m.of.getD p 0 = m.of.getD q 0
 num : ∀ p : Nat, p < m.of.length → 0 ≤ cls.getD p 0 → cls.getD p 0 < ((leastsL cls).length : Int)
theorem map_getD {α β : Type} (f : α → β) (l : List α) {i : Nat} (h : i < l.length) (d : β) (e : α) : (l.map f).getD i d = f (l.getD i e) := by
 rw [List.getD_eq_getElem?_getD, List.getElem?_map, List.getElem?_eq_getElem h, List.getD_eq_getElem?_getD, List.getElem?_eq_getElem h]; rfl
theorem pick_mem {cls l : List Int} {x : Int} (h : x ∈ pickL cls l) : ∃ y ∈ l, x = cls.getD y.toNat 0 := by
 obtain ⟨y, hy, e⟩ := List.mem_map.1 h
 exact ⟨y, hy, e.symm⟩
theorem ClsOk.least {m : Mo} {cls : List Int} (hc : ClsOk m cls) {j : Nat} (hj : j < (leastsL cls).length) : ((leastsL cls).getD j 0).toNat < m.of.length ∧ 0 ≤ (leastsL cls).getD j 0 ∧ cls.getD ((leastsL cls).getD j 0).toNat 0 = j := by
 have := leastL_ok cls cls.length (Nat.le_refl _) j hj
 have hl := hc.len
 refine ⟨?_, this.1.1, this.2⟩
 have h2 := this.1
 unfold leastsL
 omega
theorem ClsOk.rep {m : Mo} {cls : List Int} (hc : ClsOk m cls) {x : Int} (h0 : 0 ≤ x) (h1 : x < (m.of.length : Int)) (hx : 0 ≤ cls.getD x.toNat 0) : (0 ≤ cls.getD x.toNat 0 ∧ cls.getD x.toNat 0 < ((leastsL cls).length : Int)) ∧ ((leastsL cls).map fun p => m.of.getD p.toNat 0).getD (cls.getD x.toNat 0).toNat 0 = m.of.getD x.toNat 0 := by
 have hn := hc.num x.toNat (by omega) hx
 have hj : (cls.getD x.toNat 0).toNat < (leastsL cls).length := by omega
 obtain ⟨q1, q2, q3⟩ := hc.least hj
 refine ⟨⟨hx, hn⟩, ?_⟩
 rw [map_getD _ _ hj _ 0]
 exact hc.mod _ _ q1 (by omega) (by omega) (by rw [q3]; omega)
theorem merged_ok {m : Mo} {cls : List Int} (hm : ModOk m) (hc : ClsOk m cls) : ModOk (mergedF m cls) := by
 have hst := hm.st
 have hl : (leastsL cls).length ≤ 60 := by
  have := leastL_len cls cls.length
  have := hc.len; have := hm.n
  unfold leastsL; omega
 have hcl : ∀ j, j < (leastsL cls).length → 0 ≤ cls.getD ((leastsL cls).getD j 0).toNat 0 := fun j hj => by rw [(hc.least hj).2.2]; omega
 refine ⟨hm.pl, hm.cl, ⟨?_, by simpa [mergedF] using hl⟩, by simpa [mergedF, pickL_len] using hm.k, by simp [mergedF], by simp [mergedF], by simp [mergedF], by simp [mergedF], fun p hp => ?_, fun i hi => ?_, fun p hp => ?_, fun p hp h0 => ?_, fun p hp h0 => ?_, fun p hp h0 => ?_, fun p hp h0 => ?_⟩
 ·have hk : 0 < m.entry.length := hm.k.1
  have h1 := hm.entry 0 hk
  have := (hc.rep h1.1.1 h1.1.2 (hc.ent _ (getD_memI hk))).1
  simp only [mergedF, List.length_map]
  omega
 all_goals simp only [mergedF, List.length_map, pickL_len] at *
 ·rw [map_getD _ _ hp _ 0]
  exact hm.of _ (hc.least hp).1
 ·have h1 := hm.entry i hi
  have h2 := hc.rep h1.1.1 h1.1.2 (hc.ent _ (getD_memI hi))
  have e : (pickL cls m.entry).getD i 0 = cls.getD (m.entry.getD i 0).toNat 0 := by unfold pickL; rw [map_getD _ _ hi _ 0]
  rw [e]
  exact ⟨h2.1, by rw [h2.2, h1.2]⟩
 ·obtain ⟨q1, q2, q3⟩ := hc.least hp
  rw [map_getD _ _ hp _ 0, map_getD _ _ hp _ 0]
  obtain ⟨i1, i2⟩ := hm.inn _ q1
  refine ⟨by rw [pickL_len]; exact i1, fun x hx => ?_⟩
  obtain ⟨y, hy, rfl⟩ := pick_mem hx
  have h3 := i2 y hy
  have h4 := hc.rep h3.1.1 h3.1.2 (hc.inn _ q1 (hcl _ hp) y hy)
  exact ⟨h4.1, by rw [h4.2, h3.2]⟩
 ·obtain ⟨q1, q2, q3⟩ := hc.least hp
  rw [map_getD _ _ hp _ 0] at h0
  rw [map_getD _ _ hp _ 0]
  obtain ⟨i1, i2⟩ := hm.low0 _ q1 h0
  refine ⟨by rw [pickL_len]; exact i1, fun x hx => ?_⟩
  obtain ⟨y, hy, rfl⟩ := pick_mem hx
  have h3 := i2 y hy
  have h4 := hc.rep h3.1.1 h3.1.2 (hc.low _ q1 (hcl _ hp) y hy)
  exact ⟨h4.1, by rw [h4.2, h3.2]⟩
 ·obtain ⟨q1, q2, q3⟩ := hc.least hp
  rw [map_getD _ _ hp _ 0] at h0
  rw [map_getD _ _ hp _ 0, hm.low1 _ q1 h0]
  rfl
 ·obtain ⟨q1, q2, q3⟩ := hc.least hp
  rw [map_getD _ _ hp _ 0] at h0
  rw [map_getD _ _ hp _ 0, hm.ret0 _ q1 h0]
  rfl
 ·obtain ⟨q1, q2, q3⟩ := hc.least hp
  rw [map_getD _ _ hp _ 0] at h0
  rw [map_getD _ _ hp _ 0, List.length_map]
  obtain ⟨i1, i2⟩ := hm.ret1 _ q1 h0
  refine ⟨i1, fun j hj => ?_⟩
  obtain ⟨i3, i4⟩ := i2 j hj
  rw [map_getD _ _ hj _ [], pickL_len, pickL_len]
  refine ⟨rfl, fun q hq => ?_⟩
  obtain ⟨p1, p2, p3⟩ := hc.least hq
  have e : (pickL cls (pickL ((m.ret.getD ((leastsL cls).getD p 0).toNat []).getD j []) (leastsL cls))).getD q 0 = cls.getD (((m.ret.getD ((leastsL cls).getD p 0).toNat []).getD j []).getD ((leastsL cls).getD q 0).toNat 0).toNat 0 := by
   unfold pickL
   rw [map_getD _ _ (by simpa using hq) _ 0, map_getD _ _ hq _ 0]
  rw [e, map_getD _ _ hq _ 0]
  have h3 := i4 _ p1
  have hy : ((m.ret.getD ((leastsL cls).getD p 0).toNat []).getD j []).getD ((leastsL cls).getD q 0).toNat 0 ∈ colL (m.ret.getD ((leastsL cls).getD p 0).toNat []) ((leastsL cls).getD q 0).toNat := by
   unfold colL
   refine List.mem_map.2 ⟨_, ?_, rfl⟩
   rw [List.getD_eq_getElem?_getD (i := j), List.getElem?_eq_getElem hj]
   exact List.getElem_mem _
  have h4 := hc.rep h3.1.1 h3.1.2 (hc.ret _ _ q1 p1 (hcl _ hp) (hcl _ hq) _ hy)
  exact ⟨h4.1, by rw [h4.2, h3.2]⟩
theorem rankL_get {is : List Bool} {p : Nat} (hp : p < is.length) : (rankL is).getD p 0 = if is.getD p false then (rankN is p : Int) else -1 := by
 unfold rankL
 rw [map_getD _ _ (by simpa using hp) _ 0]
 have : (List.range is.length).getD p 0 = p := by rw [List.getD_eq_getElem?_getD, List.getElem?_eq_getElem (by simpa using hp)]; simp
 rw [this]
theorem rank_least (is : List Bool) : ∀ i, i ≤ is.length → (leastL (rankL is) i).length = rankN is i
 | 0, _ => by simp [leastL, rankN]
 | i + 1, hi => by
  have ih := rank_least is i (by omega)
  unfold leastL
  rw [rankL_get (by omega), rankN_succ (by omega), ih]
  cases is.getD i false
  ·rw [if_neg (by simp)]; simpa using ih
  ·rw [if_pos (by simp), List.length_append, List.length_singleton, ih]; rfl
theorem rankN_mono (is : List Bool) : ∀ i k, i + k ≤ is.length → rankN is i ≤ rankN is (i + k)
 | i, 0, _ => Nat.le_refl _
 | i, k + 1, h => by
  have := rankN_mono is i k (by omega)
  have e := rankN_succ (l := is) (i := i + k) (by omega)
  rw [show i + (k + 1) = i + k + 1 by omega, e]
  omega
theorem rank_num {is : List Bool} {p : Nat} (hp : p < is.length) (h : is.getD p false = true) : rankN is p < (leastsL (rankL is)).length := by
 unfold leastsL
 have hl : (rankL is).length = is.length := by simp [rankL]
 rw [hl, rank_least is _ (Nat.le_refl _)]
 have h1 := rankN_succ hp
 rw [h] at h1
 have h2 := rankN_mono is (p + 1) (is.length - (p + 1)) (by omega)
 rw [show p + 1 + (is.length - (p + 1)) = is.length by omega] at h2
 simp at h1
 omega
theorem rank_inj {is : List Bool} {p q : Nat} (hp : p < is.length) (hq : q < is.length) (h1 : is.getD p false = true) (h2 : is.getD q false = true) (e : rankN is p = rankN is q) : p = q := by
 have a1 := rankN_succ hp
 have a2 := rankN_succ hq
 rw [h1] at a1
 rw [h2] at a2
 simp at a1 a2
 by_cases hlt : p < q
 ·have := rankN_mono is (p + 1) (q - (p + 1)) (by omega)
  rw [show p + 1 + (q - (p + 1)) = q by omega] at this
  omega
 ·by_cases hgt : q < p
  ·have := rankN_mono is (q + 1) (p - (q + 1)) (by omega)
   rw [show q + 1 + (p - (q + 1)) = p by omega] at this
   omega
  ·omega
theorem getD_lt_len {is : List Bool} {p : Nat} (h : is.getD p false = true) : p < is.length := by
 by_cases hp : p < is.length
 ·exact hp
 ·rw [List.getD_eq_getElem?_getD, List.getElem?_eq_none (by omega)] at h; simp at h
theorem rank_pos {is : List Bool} {p : Nat} (hp : p < is.length) : 0 ≤ (rankL is).getD p 0 ↔ is.getD p false = true := by
 rw [rankL_get hp]
 cases is.getD p false
 ·simp
 ·simp
theorem rank_ok {m : Mo} (hm : ModOk m) : ClsOk m (rankL (reachedF m)) := by
 have hst := hm.st
 have hl := reachedF_len hst
 have hc := reached_closed hst
 have hp : ∀ {x : Int}, 0 ≤ x ∧ x < (m.of.length : Int) → (reachedF m).getD x.toNat false = true → 0 ≤ (rankL (reachedF m)).getD x.toNat 0 := fun h1 h2 => (rank_pos (by omega)).2 h2
 refine ⟨by simp [rankL, hl], fun p h => hp (hst.entry p h) (hc.entry p h), fun p h h0 x hx => hp (hst.inn _ x hx) (hc.inn p ((rank_pos (by omega)).1 h0) x hx), fun p h h0 x hx => hp (hst.low _ x hx) (hc.low p ((rank_pos (by omega)).1 h0) x hx), fun p q h hq h0 h1 x hx => hp (hst.ret _ _ hq x hx) (hc.ret p q ((rank_pos (by omega)).1 h0) ((rank_pos (by omega)).1 h1) x hx), fun p q h hq h0 e => ?_, fun p h h0 => ?_⟩
 ·have r1 := (rank_pos (is := reachedF m) (p := p) (by omega)).1 h0
  have r2 := (rank_pos (is := reachedF m) (p := q) (by omega)).1 (e ▸ h0)
  rw [rankL_get (by omega), rankL_get (by omega), r1, r2] at e
  simp only [if_true] at e
  rw [rank_inj (by omega) (by omega) r1 r2 (by omega)]
 ·have r1 := (rank_pos (is := reachedF m) (p := p) (by omega)).1 h0
  rw [rankL_get (by omega), r1]
  have := rank_num (is := reachedF m) (by omega) r1
  simp only [if_true]
  omega
def bareF (m : Mo) : Mo := mergedF m (rankL (reachedF m))
theorem bare_ok {m : Mo} (hm : ModOk m) : ModOk (bareF m) := merged_ok hm (rank_ok hm)
def firstK (m : Mo) (p : Nat) : List Int := m.of.getD p 0 :: (if m.final.getD p false then 1 else 0) :: List.replicate 59 0
def firstL (m : Mo) : List Int := numL ((List.range m.of.length).map (firstK m))
def aboveF (m : Mo) (j : Nat) : List (List Int) := (List.range m.of.length).map fun p => if m.of.getD p 0 = 0 then [] else (m.ret.getD p []).getD j []
def belowF (m : Mo) (j : Nat) : List (List Int) := (List.range m.of.length).map fun q => ((List.range m.of.length).filter fun p => decide (m.of.getD p 0 ≠ 0)).map fun p => ((m.ret.getD p []).getD j []).getD q 0
def waysF (m : Mo) : List (List (List Int)) := [m.inn, m.low] ++ (List.range m.closings.toNat).flatMap fun j => [aboveF m j, belowF m j]
def classesOfF (m : Mo) : List Int := settledL (waysF m) (m.of.length + 1) (firstL m)
def classesF (m : Mo) : List Int := (rankL (reachedF m)).map fun n => if n = -1 then n else (classesOfF (bareF m)).getD n.toNat 0
def smallF (m : Mo) : Mo := mergedF (bareF m) (classesOfF (bareF m))
theorem firstL_len (m : Mo) : (firstL m).length = m.of.length := by
 unfold firstL numL; rw [num_len]; simp
theorem waysF_len {m : Mo} (hm : ModOk m) : ∀ r ∈ waysF m, r.length = m.of.length := by
 intro r hr
 unfold waysF at hr
 rcases List.mem_append.1 hr with h | h
 ·simp only [List.mem_cons, List.not_mem_nil, or_false] at h
  rcases h with rfl | rfl
  ·exact hm.il
  ·exact hm.ll
 ·obtain ⟨j, _, h⟩ := List.mem_flatMap.1 h
  simp only [List.mem_cons, List.not_mem_nil, or_false] at h
  rcases h with rfl | rfl
  ·simp [aboveF]
  ·simp [belowF]
theorem settledL_ok (ways : List (List (List Int))) (n : Nat) (hw : ∀ r ∈ ways, r.length = n) : ∀ (f : Nat) (c : List Int), Can c → c.length = n → n < f + numD c → Can (settledL ways f c) ∧ (settledL ways f c).length = n ∧ roundL ways (settledL ways f c) = settledL ways f c
 | 0, c, hc, hl, hf => by have := numD_le c; omega
 | f + 1, c, hc, hl, hf => by
  obtain ⟨h1, h2, h3, h4⟩ := roundL_finer ways hc hl hw
  unfold settledL
  split
  ·rename_i h; exact ⟨hc, hl, h⟩
  ·rename_i h
   refine settledL_ok ways n hw f _ h1 h2 ?_
   have : numD c ≠ numD (roundL ways c) := fun e => h (h4 e)
   omega
theorem classesOf_ok {m : Mo} (hm : ModOk m) : Can (classesOfF m) ∧ (classesOfF m).length = m.of.length ∧ roundL (waysF m) (classesOfF m) = classesOfF m :=
 settledL_ok _ _ (waysF_len hm) _ _ (can_num _) (firstL_len m) (by omega)
theorem can_pos {c : List Int} (h : Can c) {i : Nat} (hi : i < c.length) : 0 ≤ c.getD i 0 ∧ c.getD i 0 < (numD c : Int) := by
 have := num_bd c (c.getD i 0) (by rw [h]; exact getD_memI hi)
 exact this
theorem classesF_len {m : Mo} (hm : ModOk m) : (classesF m).length = m.of.length := by
 unfold classesF
 rw [List.length_map]
 exact (rank_ok hm).len
end Go.Am
