import Derived.Test.YtmhikbgegdphnaaGreatQMk3
namespace Go.Am
set_option linter.unusedSimpArgs false
set_option linter.unusedVariables false
open Go.RowKit
def SepB (base A nx : Nat) (l : List (Option (Nat × Nat))) : Prop :=
  (∀ (j b t : Nat), l[j]? = some (some (b, t)) → base ≤ b ∧ b ≠ A ∧ b < nx) ∧ ∀ (j k b t b' t' : Nat), j ≠ k → l[j]? = some (some (b, t)) → l[k]? = some (some (b', t')) → b ≠ b'
theorem SepB.set {base A nx nx' : Nat} {l : List (Option (Nat × Nat))} (h : SepB base A nx l) (hb0 : base ≤ nx) (hA : A < nx) (hle : nx ≤ nx') {j b t : Nat} (hb : nx ≤ b ∨ ∃ t0, l[j]? = some (some (b, t0))) (hlt : b < nx') : SepB base A nx' (l.set j (some (b, t))) := by
  have hfor : ∀ (k b' t' : Nat), (l.set j (some (b, t)))[k]? = some (some (b', t')) → (k = j ∧ b' = b) ∨ (k ≠ j ∧ l[k]? = some (some (b', t'))) := fun k b' t' hk => by
    rw [List.getElem?_set] at hk
    split at hk
    · rename_i e
      split at hk
      · cases hk; exact .inl ⟨e.symm, rfl⟩
      · cases hk
    · rename_i e; exact .inr ⟨fun e' => e e'.symm, hk⟩
  have hbA : base ≤ b ∧ b ≠ A := by
    rcases hb with hb | ⟨t0, hb⟩
    · exact ⟨by omega, by omega⟩
    · have := h.1 _ _ _ hb; exact ⟨this.1, this.2.1⟩
  refine ⟨fun k b' t' hk => ?_, fun k1 k2 b1 t1 b2 t2 hne h1 h2 => ?_⟩
  · rcases hfor _ _ _ hk with ⟨_, rfl⟩ | ⟨_, hk⟩
    · exact ⟨hbA.1, hbA.2, hlt⟩
    · have := h.1 _ _ _ hk; exact ⟨this.1, this.2.1, by omega⟩
  · rcases hfor _ _ _ h1 with ⟨e1, q1⟩ | ⟨e1, g1⟩
    · rcases hfor _ _ _ h2 with ⟨e2, q2⟩ | ⟨e2, g2⟩
      · exact absurd (e1.trans e2.symm) hne
      · rw [q1]
        rcases hb with hb | ⟨t0, hb⟩
        · have := h.1 _ _ _ g2; omega
        · exact h.2 _ _ _ _ _ _ (fun e => e2 e.symm) hb g2
    · rcases hfor _ _ _ h2 with ⟨e2, q2⟩ | ⟨e2, g2⟩
      · rw [q2]
        rcases hb with hb | ⟨t0, hb⟩
        · have := h.1 _ _ _ g1; omega
        · exact h.2 _ _ _ _ _ _ e1 g1 hb
      · exact h.2 _ _ _ _ _ _ hne g1 g2
theorem SepB.up {base A nx nx' : Nat} {l : List (Option (Nat × Nat))} (h : SepB base A nx l) (hle : nx ≤ nx') : SepB base A nx' l :=
  ⟨fun j b t hj => by have := h.1 j b t hj; exact ⟨this.1, this.2.1, by omega⟩, h.2⟩
theorem SepB.at {base A A' nx nx' : Nat} {l : List (Option (Nat × Nat))} (h : SepB base A nx l) (hle : nx ≤ nx') (hA : nx ≤ A') : SepB base A' nx' l :=
  ⟨fun j b t hj => by have := h.1 j b t hj; exact ⟨this.1, by omega, by omega⟩, h.2⟩
theorem OwnRow.same {H H' : Heap} {ob : Option (Nat × Nat)} {el : TypeId} {sz k : Nat} {v : Value} {cs : List Value} (hs : ∀ b t, ob = some (b, t) → H' b = H b) (h : OwnRow H ob el sz v cs k) : OwnRow H' ob el sz v cs k := by
  cases ob with
  | none => exact h
  | some bt =>
    obtain ⟨b, t⟩ := bt
    obtain ⟨h1, h2, rest, h3⟩ := h
    exact ⟨h1, h2, rest, by rw [hs b t rfl]; exact h3⟩
theorem frameB {base A nx : Nat} {l : List (Option (Nat × Nat))} {H H1 : Heap} {o : AObj} {j : Nat} {old : Option (Nat × Nat)} (hs : SepB base A nx l) (hj : l[j]? = some old) (same : ∀ i, i < nx → (∀ b t, old = some (b, t) → i ≠ b) → H1 i = H i) :
    ∀ (k : Nat) (ob : Option (Nat × Nat)), k ≠ j → l[k]? = some ob → ∀ b t, ob = some (b, t) → (H1.put A o) b = H b := fun k ob hk hl b t hb => by
  subst hb
  have h1 := hs.1 k b t hl
  rw [Heap.put_ne h1.2.1]
  refine same b h1.2.2 fun b' t' e => ?_
  subst e
  exact hs.2 k j b t b' t' hk hl hj
end Go.Am
namespace Go.Proofs.YtmhikbgegdphnaaGreat
set_option linter.unusedSimpArgs false
set_option linter.unusedVariables false
open Go.Am Go.RowKit
structure MkIn (H : Heap) (base A nx : Nat) (a : Aut) (l : List (Option (Nat × Nat))) (vi vf vo vc vn : Value) : Prop where
  cell : H A = some (.cells (autV a vi vf vo vc vn) 0 none false (some 30))
  len : l.length = 5
  init : ∃ b, l[0]? = some b ∧ AppI H b 3 vi a.init
  final : ∃ b, l[1]? = some b ∧ OwnInts H b 3 vf a.final
  opens : ∃ b, l[2]? = some b ∧ OwnOf e4 4 36 H b vo a.opens
  closes : ∃ b, l[3]? = some b ∧ OwnOf e4 4 38 H b vc a.closes
  inners : ∃ b, l[4]? = some b ∧ OwnOf e3 3 40 H b vn a.inners
  sep : SepB base A nx l
  hA : A < nx
  hb : base ≤ nx
theorem MkIn.in {H : Heap} {base A nx : Nat} {a : Aut} {l : List (Option (Nat × Nat))} {vi vf vo vc vn : Value} (h : MkIn H base A nx a l vi vf vo vc vn) : AutIn H a vi vf vo vc vn := by
  obtain ⟨_, _, h1⟩ := h.init
  obtain ⟨_, _, h2⟩ := h.final
  obtain ⟨_, _, h3⟩ := h.opens
  obtain ⟨_, _, h4⟩ := h.closes
  obtain ⟨_, _, h5⟩ := h.inners
  exact ⟨h1.at, h2.at, h3.at e4_len, h4.at e4_len, h5.at e3_len⟩
theorem MkIn.move {H H' : Heap} {base A A' nx nx' : Nat} {a : Aut} {l : List (Option (Nat × Nat))} {vi vf vo vc vn : Value} (h : MkIn H base A nx a l vi vf vo vc vn) (hx : Ext nx H nx' H') (hA : nx ≤ A') (hA' : A' < nx')
    (hc : H' A' = some (.cells (autV a vi vf vo vc vn) 0 none false (some 30))) : MkIn H' base A' nx' a l vi vf vo vc vn := by
  have hs : ∀ (k : Nat) (ob : Option (Nat × Nat)), l[k]? = some ob → ∀ b t, ob = some (b, t) → H' b = H b := fun k ob hl b t e => by
    subst e
    exact hx.2 b (h.sep.1 k b t hl).2.2
  refine ⟨hc, h.len, ?_, ?_, ?_, ?_, ?_, h.sep.at hx.1 hA, hA', by have := h.hb; have := hx.1; omega⟩
  · obtain ⟨b, h1, h2⟩ := h.init; exact ⟨b, h1, AppI.same (hs _ _ h1) h2⟩
  · obtain ⟨b, h1, h2⟩ := h.final; exact ⟨b, h1, OwnRow.same (hs _ _ h1) h2⟩
  · obtain ⟨b, h1, h2⟩ := h.opens; exact ⟨b, h1, OwnRow.same (hs _ _ h1) h2⟩
  · obtain ⟨b, h1, h2⟩ := h.closes; exact ⟨b, h1, OwnRow.same (hs _ _ h1) h2⟩
  · obtain ⟨b, h1, h2⟩ := h.inners; exact ⟨b, h1, OwnRow.same (hs _ _ h1) h2⟩
theorem MkIn.ext {H H' : Heap} {base A nx nx' : Nat} {a : Aut} {l : List (Option (Nat × Nat))} {vi vf vo vc vn : Value} (h : MkIn H base A nx a l vi vf vo vc vn) (hx : Ext nx H nx' H') : MkIn H' base A nx' a l vi vf vo vc vn := by
  have hs : ∀ (k : Nat) (ob : Option (Nat × Nat)), l[k]? = some ob → ∀ b t, ob = some (b, t) → H' b = H b := fun k ob hl b t e => by
    subst e
    exact hx.2 b (h.sep.1 k b t hl).2.2
  refine ⟨by rw [hx.2 A h.hA]; exact h.cell, h.len, ?_, ?_, ?_, ?_, ?_, h.sep.up hx.1, by have := h.hA; have := hx.1; omega, by have := h.hb; have := hx.1; omega⟩
  · obtain ⟨b, h1, h2⟩ := h.init; exact ⟨b, h1, AppI.same (hs _ _ h1) h2⟩
  · obtain ⟨b, h1, h2⟩ := h.final; exact ⟨b, h1, OwnRow.same (hs _ _ h1) h2⟩
  · obtain ⟨b, h1, h2⟩ := h.opens; exact ⟨b, h1, OwnRow.same (hs _ _ h1) h2⟩
  · obtain ⟨b, h1, h2⟩ := h.closes; exact ⟨b, h1, OwnRow.same (hs _ _ h1) h2⟩
  · obtain ⟨b, h1, h2⟩ := h.inners; exact ⟨b, h1, OwnRow.same (hs _ _ h1) h2⟩
theorem MkIn.putI {H H1 : Heap} {base A nx nx1 : Nat} {a : Aut} {l : List (Option (Nat × Nat))} {vi vf vo vc vn v' : Value} {p : Int} {old : Option (Nat × Nat)} {b1 t1 : Nat} (h : MkIn H base A nx a l vi vf vo vc vn) (hj : l[0]? = some old)
    (hown : AppI H1 (some (b1, t1)) 3 v' (a.init ++ [p])) (hblk : nx ≤ b1 ∨ ∃ t, old = some (b1, t)) (hlt : b1 < nx1) (hle : nx ≤ nx1) (same : ∀ i, i < nx → (∀ b t, old = some (b, t) → i ≠ b) → H1 i = H i) :
    MkIn (H1.put A (.cells (autV (Go.Am.putI a p) v' vf vo vc vn) 0 none false (some 30))) base A nx1 (Go.Am.putI a p) (l.set 0 (some (b1, t1))) v' vf vo vc vn := by
  have hlen := h.len
  have hfr := frameB (o := .cells (autV (Go.Am.putI a p) v' vf vo vc vn) 0 none false (some 30)) h.sep hj same
  have hA := h.hA
  have hset : ∀ (k : Nat) (ob : Option (Nat × Nat)), k ≠ 0 → l[k]? = some ob → (l.set 0 (some (b1, t1)))[k]? = some ob := fun k ob hk hl => by
    rw [List.getElem?_set_ne (fun e => hk e.symm), hl]
  have hbA : b1 ≠ A := by
    rcases hblk with hb | ⟨t, hb⟩
    · omega
    · rw [hb] at hj; exact (h.sep.1 _ _ _ hj).2.1
  refine ⟨Heap.put_eq, by simp [hlen], ?_, ?_, ?_, ?_, ?_, h.sep.set h.hb hA hle (by rcases hblk with hb | ⟨t, hb⟩; exact .inl hb; exact .inr ⟨t, by rw [hj, hb]⟩) hlt, by omega, by have := h.hb; omega⟩
  · exact ⟨_, by rw [List.getElem?_set_self (by omega)], AppI.same (fun b t e => by cases e; exact Heap.put_ne hbA) hown⟩
  · obtain ⟨b, h1, h2⟩ := h.final; exact ⟨b, hset _ _ (by omega) h1, OwnRow.same (hfr _ _ (by omega) h1) h2⟩
  · obtain ⟨b, h1, h2⟩ := h.opens; exact ⟨b, hset _ _ (by omega) h1, OwnRow.same (hfr _ _ (by omega) h1) h2⟩
  · obtain ⟨b, h1, h2⟩ := h.closes; exact ⟨b, hset _ _ (by omega) h1, OwnRow.same (hfr _ _ (by omega) h1) h2⟩
  · obtain ⟨b, h1, h2⟩ := h.inners; exact ⟨b, hset _ _ (by omega) h1, OwnRow.same (hfr _ _ (by omega) h1) h2⟩
theorem MkIn.putF {H H1 : Heap} {base A nx nx1 : Nat} {a : Aut} {l : List (Option (Nat × Nat))} {vi vf vo vc vn v' : Value} {p : Int} {old : Option (Nat × Nat)} {b1 t1 : Nat} (h : MkIn H base A nx a l vi vf vo vc vn) (hj : l[1]? = some old)
    (hown : OwnInts H1 (some (b1, t1)) 3 v' (a.final ++ [p])) (hblk : nx ≤ b1 ∨ ∃ t, old = some (b1, t)) (hlt : b1 < nx1) (hle : nx ≤ nx1) (same : ∀ i, i < nx → (∀ b t, old = some (b, t) → i ≠ b) → H1 i = H i) :
    MkIn (H1.put A (.cells (autV (Go.Am.putF a p) vi v' vo vc vn) 0 none false (some 30))) base A nx1 (Go.Am.putF a p) (l.set 1 (some (b1, t1))) vi v' vo vc vn := by
  have hlen := h.len
  have hfr := frameB (o := .cells (autV (Go.Am.putF a p) vi v' vo vc vn) 0 none false (some 30)) h.sep hj same
  have hA := h.hA
  have hset : ∀ (k : Nat) (ob : Option (Nat × Nat)), k ≠ 1 → l[k]? = some ob → (l.set 1 (some (b1, t1)))[k]? = some ob := fun k ob hk hl => by
    rw [List.getElem?_set_ne (fun e => hk e.symm), hl]
  have hbA : b1 ≠ A := by
    rcases hblk with hb | ⟨t, hb⟩
    · omega
    · rw [hb] at hj; exact (h.sep.1 _ _ _ hj).2.1
  refine ⟨Heap.put_eq, by simp [hlen], ?_, ?_, ?_, ?_, ?_, h.sep.set h.hb hA hle (by rcases hblk with hb | ⟨t, hb⟩; exact .inl hb; exact .inr ⟨t, by rw [hj, hb]⟩) hlt, by omega, by have := h.hb; omega⟩
  · obtain ⟨b, h1, h2⟩ := h.init; exact ⟨b, hset _ _ (by omega) h1, AppI.same (hfr _ _ (by omega) h1) h2⟩
  · exact ⟨_, by rw [List.getElem?_set_self (by omega)], OwnRow.same (fun b t e => by cases e; exact Heap.put_ne hbA) hown⟩
  · obtain ⟨b, h1, h2⟩ := h.opens; exact ⟨b, hset _ _ (by omega) h1, OwnRow.same (hfr _ _ (by omega) h1) h2⟩
  · obtain ⟨b, h1, h2⟩ := h.closes; exact ⟨b, hset _ _ (by omega) h1, OwnRow.same (hfr _ _ (by omega) h1) h2⟩
  · obtain ⟨b, h1, h2⟩ := h.inners; exact ⟨b, hset _ _ (by omega) h1, OwnRow.same (hfr _ _ (by omega) h1) h2⟩
theorem MkIn.putO {H H1 : Heap} {base A nx nx1 : Nat} {a : Aut} {l : List (Option (Nat × Nat))} {vi vf vo vc vn v' : Value} {p : R4} {old : Option (Nat × Nat)} {b1 t1 : Nat} (h : MkIn H base A nx a l vi vf vo vc vn) (hj : l[2]? = some old)
    (hown : OwnOf e4 4 36 H1 (some (b1, t1)) v' (a.opens ++ [p])) (hblk : nx ≤ b1 ∨ ∃ t, old = some (b1, t)) (hlt : b1 < nx1) (hle : nx ≤ nx1) (same : ∀ i, i < nx → (∀ b t, old = some (b, t) → i ≠ b) → H1 i = H i) :
    MkIn (H1.put A (.cells (autV (Go.Am.putO a p) vi vf v' vc vn) 0 none false (some 30))) base A nx1 (Go.Am.putO a p) (l.set 2 (some (b1, t1))) vi vf v' vc vn := by
  have hlen := h.len
  have hfr := frameB (o := .cells (autV (Go.Am.putO a p) vi vf v' vc vn) 0 none false (some 30)) h.sep hj same
  have hA := h.hA
  have hset : ∀ (k : Nat) (ob : Option (Nat × Nat)), k ≠ 2 → l[k]? = some ob → (l.set 2 (some (b1, t1)))[k]? = some ob := fun k ob hk hl => by
    rw [List.getElem?_set_ne (fun e => hk e.symm), hl]
  have hbA : b1 ≠ A := by
    rcases hblk with hb | ⟨t, hb⟩
    · omega
    · rw [hb] at hj; exact (h.sep.1 _ _ _ hj).2.1
  refine ⟨Heap.put_eq, by simp [hlen], ?_, ?_, ?_, ?_, ?_, h.sep.set h.hb hA hle (by rcases hblk with hb | ⟨t, hb⟩; exact .inl hb; exact .inr ⟨t, by rw [hj, hb]⟩) hlt, by omega, by have := h.hb; omega⟩
  · obtain ⟨b, h1, h2⟩ := h.init; exact ⟨b, hset _ _ (by omega) h1, AppI.same (hfr _ _ (by omega) h1) h2⟩
  · obtain ⟨b, h1, h2⟩ := h.final; exact ⟨b, hset _ _ (by omega) h1, OwnRow.same (hfr _ _ (by omega) h1) h2⟩
  · exact ⟨_, by rw [List.getElem?_set_self (by omega)], OwnRow.same (fun b t e => by cases e; exact Heap.put_ne hbA) hown⟩
  · obtain ⟨b, h1, h2⟩ := h.closes; exact ⟨b, hset _ _ (by omega) h1, OwnRow.same (hfr _ _ (by omega) h1) h2⟩
  · obtain ⟨b, h1, h2⟩ := h.inners; exact ⟨b, hset _ _ (by omega) h1, OwnRow.same (hfr _ _ (by omega) h1) h2⟩
theorem MkIn.putC {H H1 : Heap} {base A nx nx1 : Nat} {a : Aut} {l : List (Option (Nat × Nat))} {vi vf vo vc vn v' : Value} {p : R4} {old : Option (Nat × Nat)} {b1 t1 : Nat} (h : MkIn H base A nx a l vi vf vo vc vn) (hj : l[3]? = some old)
    (hown : OwnOf e4 4 38 H1 (some (b1, t1)) v' (a.closes ++ [p])) (hblk : nx ≤ b1 ∨ ∃ t, old = some (b1, t)) (hlt : b1 < nx1) (hle : nx ≤ nx1) (same : ∀ i, i < nx → (∀ b t, old = some (b, t) → i ≠ b) → H1 i = H i) :
    MkIn (H1.put A (.cells (autV (Go.Am.putC a p) vi vf vo v' vn) 0 none false (some 30))) base A nx1 (Go.Am.putC a p) (l.set 3 (some (b1, t1))) vi vf vo v' vn := by
  have hlen := h.len
  have hfr := frameB (o := .cells (autV (Go.Am.putC a p) vi vf vo v' vn) 0 none false (some 30)) h.sep hj same
  have hA := h.hA
  have hset : ∀ (k : Nat) (ob : Option (Nat × Nat)), k ≠ 3 → l[k]? = some ob → (l.set 3 (some (b1, t1)))[k]? = some ob := fun k ob hk hl => by
    rw [List.getElem?_set_ne (fun e => hk e.symm), hl]
  have hbA : b1 ≠ A := by
    rcases hblk with hb | ⟨t, hb⟩
    · omega
    · rw [hb] at hj; exact (h.sep.1 _ _ _ hj).2.1
  refine ⟨Heap.put_eq, by simp [hlen], ?_, ?_, ?_, ?_, ?_, h.sep.set h.hb hA hle (by rcases hblk with hb | ⟨t, hb⟩; exact .inl hb; exact .inr ⟨t, by rw [hj, hb]⟩) hlt, by omega, by have := h.hb; omega⟩
  · obtain ⟨b, h1, h2⟩ := h.init; exact ⟨b, hset _ _ (by omega) h1, AppI.same (hfr _ _ (by omega) h1) h2⟩
  · obtain ⟨b, h1, h2⟩ := h.final; exact ⟨b, hset _ _ (by omega) h1, OwnRow.same (hfr _ _ (by omega) h1) h2⟩
  · obtain ⟨b, h1, h2⟩ := h.opens; exact ⟨b, hset _ _ (by omega) h1, OwnRow.same (hfr _ _ (by omega) h1) h2⟩
  · exact ⟨_, by rw [List.getElem?_set_self (by omega)], OwnRow.same (fun b t e => by cases e; exact Heap.put_ne hbA) hown⟩
  · obtain ⟨b, h1, h2⟩ := h.inners; exact ⟨b, hset _ _ (by omega) h1, OwnRow.same (hfr _ _ (by omega) h1) h2⟩
theorem MkIn.putN {H H1 : Heap} {base A nx nx1 : Nat} {a : Aut} {l : List (Option (Nat × Nat))} {vi vf vo vc vn v' : Value} {p : R3} {old : Option (Nat × Nat)} {b1 t1 : Nat} (h : MkIn H base A nx a l vi vf vo vc vn) (hj : l[4]? = some old)
    (hown : OwnOf e3 3 40 H1 (some (b1, t1)) v' (a.inners ++ [p])) (hblk : nx ≤ b1 ∨ ∃ t, old = some (b1, t)) (hlt : b1 < nx1) (hle : nx ≤ nx1) (same : ∀ i, i < nx → (∀ b t, old = some (b, t) → i ≠ b) → H1 i = H i) :
    MkIn (H1.put A (.cells (autV (Go.Am.putN a p) vi vf vo vc v') 0 none false (some 30))) base A nx1 (Go.Am.putN a p) (l.set 4 (some (b1, t1))) vi vf vo vc v' := by
  have hlen := h.len
  have hfr := frameB (o := .cells (autV (Go.Am.putN a p) vi vf vo vc v') 0 none false (some 30)) h.sep hj same
  have hA := h.hA
  have hset : ∀ (k : Nat) (ob : Option (Nat × Nat)), k ≠ 4 → l[k]? = some ob → (l.set 4 (some (b1, t1)))[k]? = some ob := fun k ob hk hl => by
    rw [List.getElem?_set_ne (fun e => hk e.symm), hl]
  have hbA : b1 ≠ A := by
    rcases hblk with hb | ⟨t, hb⟩
    · omega
    · rw [hb] at hj; exact (h.sep.1 _ _ _ hj).2.1
  refine ⟨Heap.put_eq, by simp [hlen], ?_, ?_, ?_, ?_, ?_, h.sep.set h.hb hA hle (by rcases hblk with hb | ⟨t, hb⟩; exact .inl hb; exact .inr ⟨t, by rw [hj, hb]⟩) hlt, by omega, by have := h.hb; omega⟩
  · obtain ⟨b, h1, h2⟩ := h.init; exact ⟨b, hset _ _ (by omega) h1, AppI.same (hfr _ _ (by omega) h1) h2⟩
  · obtain ⟨b, h1, h2⟩ := h.final; exact ⟨b, hset _ _ (by omega) h1, OwnRow.same (hfr _ _ (by omega) h1) h2⟩
  · obtain ⟨b, h1, h2⟩ := h.opens; exact ⟨b, hset _ _ (by omega) h1, OwnRow.same (hfr _ _ (by omega) h1) h2⟩
  · obtain ⟨b, h1, h2⟩ := h.closes; exact ⟨b, hset _ _ (by omega) h1, OwnRow.same (hfr _ _ (by omega) h1) h2⟩
  · exact ⟨_, by rw [List.getElem?_set_self (by omega)], OwnRow.same (fun b t e => by cases e; exact Heap.put_ne hbA) hown⟩
theorem MkIn.low {H : Heap} {base base' A nx : Nat} {a : Aut} {l : List (Option (Nat × Nat))} {vi vf vo vc vn : Value} (h : MkIn H base A nx a l vi vf vo vc vn) (hb : base' ≤ base) : MkIn H base' A nx a l vi vf vo vc vn :=
  ⟨h.cell, h.len, h.init, h.final, h.opens, h.closes, h.inners, ⟨fun j b t hj => by have := h.sep.1 j b t hj; omega, h.sep.2⟩, h.hA, by have := h.hb; omega⟩
theorem MkIn.other {H : Heap} {base A nx z : Nat} {o : AObj} {a : Aut} {l : List (Option (Nat × Nat))} {vi vf vo vc vn : Value} (h : MkIn H base A nx a l vi vf vo vc vn) (hz : z < base) (hzA : z ≠ A) : MkIn (H.put z o) base A nx a l vi vf vo vc vn := by
  have hs : ∀ (k : Nat) (ob : Option (Nat × Nat)), l[k]? = some ob → ∀ b t, ob = some (b, t) → (H.put z o) b = H b := fun k ob hl b t e => by
    subst e
    have := h.sep.1 k b t hl
    exact Heap.put_ne (by omega)
  refine ⟨by rw [Heap.put_ne (fun e => hzA e.symm)]; exact h.cell, h.len, ?_, ?_, ?_, ?_, ?_, h.sep, h.hA, h.hb⟩
  · obtain ⟨b, h1, h2⟩ := h.init; exact ⟨b, h1, AppI.same (hs _ _ h1) h2⟩
  · obtain ⟨b, h1, h2⟩ := h.final; exact ⟨b, h1, OwnRow.same (hs _ _ h1) h2⟩
  · obtain ⟨b, h1, h2⟩ := h.opens; exact ⟨b, h1, OwnRow.same (hs _ _ h1) h2⟩
  · obtain ⟨b, h1, h2⟩ := h.closes; exact ⟨b, h1, OwnRow.same (hs _ _ h1) h2⟩
  · obtain ⟨b, h1, h2⟩ := h.inners; exact ⟨b, h1, OwnRow.same (hs _ _ h1) h2⟩
end Go.Proofs.YtmhikbgegdphnaaGreat
