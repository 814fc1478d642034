import Derived.Shelf.SlSortCmp.NoneTotal
import Derived.Test.YteplpegfcpmflaaGreatQOM9
set_option linter.unusedSimpArgs false
set_option linter.unusedVariables false
set_option maxRecDepth 100000
set_option maxHeartbeats 64000000
namespace Go.Proofs.YteplpegfcpmflaaGreat
open Go.RowKit Go.Am
attribute [local irreducible] aop OpsL Trip zI z2r OpsK OpsR
theorem z6d : Am.z0O Tryz.prog 44 := ⟨Tryz.f44, Tryz.func44, by kernel_rfl, by kernel_rfl⟩
theorem zeb (W0 : World) {nx : Nat} {H : Heap} {ob : Option (Nat × Nat)} {v : Value} {l : List (Int)} (h : z5H H ob v l) (hl : l.length ≤ 1000000) :
  ACalls Tryz.prog W0 64 [v, .func (.func 45) #[] #[]] nx H fun _ nx' H' => nx' = nx ∧ ∃ l' : List (Int), l'.Perm l ∧ z3l lt1 l' ∧ z5H H' ob v l' ∧ ∀ i, (∀ b t, ob = some (b, t) → i ≠ b) → H' i = H i := by
 cases ob with
 | none =>
  obtain ⟨rfl, _, hl0⟩ := h;have hnil : l = [] := List.eq_nil_of_length_eq_zero hl0;subst hnil;intro C w args' hR ha;obtain ⟨h1, h2⟩ := ha
  obtain ⟨v1, v2, rfl⟩ : ∃ v1 v2, args' = [v1, v2] := by
   match args', h1 with
   | [v1, v2], _ => exact ⟨v1, v2, rfl⟩
  have hv1 := h2 0 (by simp) (by simp);simp only [List.getElem_cons_zero] at hv1;obtain rfl : v1 = .slice none 0 0 := by cases hv1; rfl
  refine (AnyF.slices_SortFunc_none { sortIL with } none 0 v2 w).mono ?_;rintro e w' ⟨rfl, rfl⟩;exact ⟨_, _, C, nx, H, rfl, ⟨rfl, [], List.Perm.refl _, List.Pairwise.nil, ⟨rfl, rfl, rfl⟩, fun _ _ => rfl⟩, hR, .tuple #[] #[] rfl (fun i h => absurd h (by simp)), Stp.refl _ _ _⟩
 | some bt =>
  obtain ⟨b, t⟩ := bt;obtain ⟨rfl, _, rest, hH⟩ := h;rw [z4J] at hH;refine ACalls.weaken (zha W0 hH zom) ?_;rintro v nx' H' ⟨_, rfl, l', hp, hs, rfl⟩;refine ⟨rfl, l', hp, hs, ⟨by rw [hp.length_eq], by rw [z0j z04], rest, by rw [z4J]; exact zb⟩, fun i hi => za (hi b t rfl)⟩
namespace zd6d
noncomputable section
abbrev zp0 := @Tryz.f44
abbrev zp1 := @Tryz.func44
abbrev zp2 := 45
abbrev zp3 := 22
end
end zd6d
open zd6d in
open Go.Proofs.YteplpegfcpmflaaGreat renaming zd9 → zp4, z1Q → zp5, zai → zp6, zhv → zp7, za9 → zp8, zeb → zp9, zam → zp10, zhz → zp11 in
open Go.Am renaming zbq → zp12 in
theorem zf5 (W0 : World) {nx : Nat} {H : Heap} {v : Value} {l : List Int} (hr : AtI H v l) (hm : l.length ≤ 100000) :
  ACalls Tryz.prog W0 44 [v, .func (.func 45) #[] #[]] nx H fun v nx' H' => ∃ ob, z5H H' ob v (zB lt1 l) ∧ z2g nx H nx' H' ob := zd6
end Go.Proofs.YteplpegfcpmflaaGreat
namespace Go.Am
open Go.RowKit
def SepB (base A nx : Nat) (l : List (Option (Nat × Nat))) : Prop :=
 (∀ (j b t : Nat), l[j]? = some (some (b, t)) → base ≤ b ∧ b ≠ A ∧ b < nx) ∧ ∀ (j k b t b' t' : Nat), j ≠ k → l[j]? = some (some (b, t)) → l[k]? = some (some (b', t')) → b ≠ b'
theorem SepB.set {base A nx nx' : Nat} {l : List (Option (Nat × Nat))} (h : SepB base A nx l) (hb0 : base ≤ nx) (hA : A < nx) (hle : nx ≤ nx') {j b t : Nat} (hb : nx ≤ b ∨ ∃ t0, l[j]? = some (some (b, t0))) (hlt : b < nx') : SepB base A nx' (l.set j (some (b, t))) := by
 have hfor : ∀ (k b' t' : Nat), (l.set j (some (b, t)))[k]? = some (some (b', t')) → (k = j ∧ b' = b) ∨ (k ≠ j ∧ l[k]? = some (some (b', t'))) := fun k b' t' hk => by
  rw [List.getElem?_set] at hk;split at hk
  ·rename_i e;split at hk
   ·cases hk; exact .inl ⟨e.symm, rfl⟩
   ·cases hk
  ·rename_i e; exact .inr ⟨fun e' => e e'.symm, hk⟩
 have hbA : base ≤ b ∧ b ≠ A := by
  rcases hb with hb | ⟨t0, hb⟩
  ·exact ⟨zom, zom⟩
  ·have := h.1 _ _ _ hb; exact ⟨this.1, this.2.1⟩
 refine ⟨fun k b' t' hk => ?_, fun k1 k2 b1 t1 b2 t2 hne h1 h2 => ?_⟩
 ·rcases hfor _ _ _ hk with ⟨_, rfl⟩ | ⟨_, hk⟩
  ·exact ⟨hbA.1, hbA.2, hlt⟩
  ·have := h.1 _ _ _ hk; exact ⟨this.1, this.2.1, zom⟩
 ·rcases hfor _ _ _ h1 with ⟨e1, q1⟩ | ⟨e1, g1⟩
  ·rcases hfor _ _ _ h2 with ⟨e2, q2⟩ | ⟨e2, g2⟩
   ·exact absurd (e1.trans e2.symm) hne
   ·rw [q1];rcases hb with hb | ⟨t0, hb⟩
    ·have := h.1 _ _ _ g2; omega
    ·exact h.2 _ _ _ _ _ _ (fun e => e2 e.symm) hb g2
  ·rcases hfor _ _ _ h2 with ⟨e2, q2⟩ | ⟨e2, g2⟩
   ·rw [q2];rcases hb with hb | ⟨t0, hb⟩
    ·have := h.1 _ _ _ g1; omega
    ·exact h.2 _ _ _ _ _ _ e1 g1 hb
   ·exact h.2 _ _ _ _ _ _ hne g1 g2
theorem SepB.up {base A nx nx' : Nat} {l : List (Option (Nat × Nat))} (h : SepB base A nx l) (hle : nx ≤ nx') : SepB base A nx' l :=
 ⟨fun j b t hj => by have := h.1 j b t hj; exact ⟨this.1, this.2.1, zom⟩, h.2⟩
theorem OwnRow.same {H H' : Heap} {ob : Option (Nat × Nat)} {el : TypeId} {sz k : Nat} {v : Value} {cs : List Value} (hs : ∀ b t, ob = some (b, t) → H' b = H b) (h : OwnRow H ob el sz v cs k) : OwnRow H' ob el sz v cs k := by
 cases ob with
 | none => exact h
 | some bt =>
  obtain ⟨b, t⟩ := bt;obtain ⟨h1, h2, rest, h3⟩ := h;exact ⟨h1, h2, rest, by rw [hs b t rfl]; exact h3⟩
theorem z8r {base A nx : Nat} {l : List (Option (Nat × Nat))} {H H1 : Heap} {o : AObj} {j : Nat} {old : Option (Nat × Nat)} (hs : SepB base A nx l) (hj : l[j]? = some old) (same : ∀ i, i < nx → (∀ b t, old = some (b, t) → i ≠ b) → H1 i = H i) :
  ∀ (k : Nat) (ob : Option (Nat × Nat)), k ≠ j → l[k]? = some ob → ∀ b t, ob = some (b, t) → (H1.put A o) b = H b := fun k ob hk hl b t hb => by
 subst hb;have h1 := hs.1 k b t hl;rw [za h1.2.1];refine same b h1.2.2 fun b' t' e => ?_;subst e;exact hs.2 k j b t b' t' hk hl hj
end Go.Am
namespace Go.Proofs.YteplpegfcpmflaaGreat
open Go.Am Go.RowKit
structure MkIn (H : Heap) (base A nx : Nat) (a : Aut) (l : List (Option (Nat × Nat))) (vi vf vo vc vn : Value) : Prop where
 cell : H A = some (.cells (zz a vi vf vo vc vn) 0 none false (some 30))
 len : l.length = 5
 init : ∃ b, l[0]? = some b ∧ AppI H b 3 vi a.init
 final : ∃ b, l[1]? = some b ∧ OwnInts H b 3 vf a.final
 opens : ∃ b, l[2]? = some b ∧ OwnOf e4 4 43 H b vo a.opens
 closes : ∃ b, l[3]? = some b ∧ OwnOf e4 4 45 H b vc a.closes
 inners : ∃ b, l[4]? = some b ∧ OwnOf e3 3 51 H b vn a.inners
 sep : SepB base A nx l
 hA : A < nx
 hb : base ≤ nx
theorem MkIn.in {H : Heap} {base A nx : Nat} {a : Aut} {l : List (Option (Nat × Nat))} {vi vf vo vc vn : Value} (h : MkIn H base A nx a l vi vf vo vc vn) : AutIn H a vi vf vo vc vn := by
 obtain ⟨_, _, h1⟩ := h.init;obtain ⟨_, _, h2⟩ := h.final;obtain ⟨_, _, h3⟩ := h.opens;obtain ⟨_, _, h4⟩ := h.closes;obtain ⟨_, _, h5⟩ := h.inners;exact ⟨h1.at, h2.at, h3.at z0X, h4.at z0X, h5.at z48⟩
theorem MkIn.ext {H H' : Heap} {base A nx nx' : Nat} {a : Aut} {l : List (Option (Nat × Nat))} {vi vf vo vc vn : Value} (h : MkIn H base A nx a l vi vf vo vc vn) (hx : Ext nx H nx' H') : MkIn H' base A nx' a l vi vf vo vc vn := by
 have hs : ∀ (k : Nat) (ob : Option (Nat × Nat)), l[k]? = some ob → ∀ b t, ob = some (b, t) → H' b = H b := fun k ob hl b t e => by
  subst e;exact hx.2 b (h.sep.1 k b t hl).2.2
 refine ⟨by rw [hx.2 A h.hA]; exact h.cell, h.len, ?_, ?_, ?_, ?_, ?_, h.sep.up hx.1, by have := h.hA; have := hx.1; omega, by have := h.hb; have := hx.1; omega⟩
 ·obtain ⟨b, h1, h2⟩ := h.init; exact ⟨b, h1, AppI.same (hs _ _ h1) h2⟩
 ·obtain ⟨b, h1, h2⟩ := h.final; exact ⟨b, h1, OwnRow.same (hs _ _ h1) h2⟩
 ·obtain ⟨b, h1, h2⟩ := h.opens; exact ⟨b, h1, OwnRow.same (hs _ _ h1) h2⟩
 ·obtain ⟨b, h1, h2⟩ := h.closes; exact ⟨b, h1, OwnRow.same (hs _ _ h1) h2⟩
 ·obtain ⟨b, h1, h2⟩ := h.inners; exact ⟨b, h1, OwnRow.same (hs _ _ h1) h2⟩
theorem MkIn.putI {H H1 : Heap} {base A nx nx1 : Nat} {a : Aut} {l : List (Option (Nat × Nat))} {vi vf vo vc vn v' : Value} {p : Int} {old : Option (Nat × Nat)} {b1 t1 : Nat} (h : MkIn H base A nx a l vi vf vo vc vn) (hj : l[0]? = some old)
  (hown : AppI H1 (some (b1, t1)) 3 v' (a.init ++ [p])) (hblk : nx ≤ b1 ∨ ∃ t, old = some (b1, t)) (hlt : b1 < nx1) (hle : nx ≤ nx1) (same : ∀ i, i < nx → (∀ b t, old = some (b, t) → i ≠ b) → H1 i = H i) :
  MkIn (H1.put A (.cells (zz (Go.Am.z5F a p) v' vf vo vc vn) 0 none false (some 30))) base A nx1 (Go.Am.z5F a p) (l.set 0 (some (b1, t1))) v' vf vo vc vn := by
 have hlen := h.len;have hfr := z8r (o := .cells (zz (Go.Am.z5F a p) v' vf vo vc vn) 0 none false (some 30)) h.sep hj same;have hA := h.hA
 have hset : ∀ (k : Nat) (ob : Option (Nat × Nat)), k ≠ 0 → l[k]? = some ob → (l.set 0 (some (b1, t1)))[k]? = some ob := fun k ob hk hl => by
  rw [List.getElem?_set_ne (fun e => hk e.symm), hl]
 have hbA : b1 ≠ A := by
  rcases hblk with hb | ⟨t, hb⟩
  ·omega
  ·rw [hb] at hj; exact (h.sep.1 _ _ _ hj).2.1
 refine ⟨zb, by simp [hlen], ?_, ?_, ?_, ?_, ?_, h.sep.set h.hb hA hle (by rcases hblk with hb | ⟨t, hb⟩; exact .inl hb; exact .inr ⟨t, by rw [hj, hb]⟩) hlt, zom, by have := h.hb; omega⟩
 ·exact ⟨_, by rw [List.getElem?_set_self zom], AppI.same (fun b t e => by cases e; exact za hbA) hown⟩
 ·obtain ⟨b, h1, h2⟩ := h.final; exact ⟨b, hset _ _ zom h1, OwnRow.same (hfr _ _ zom h1) h2⟩
 ·obtain ⟨b, h1, h2⟩ := h.opens; exact ⟨b, hset _ _ zom h1, OwnRow.same (hfr _ _ zom h1) h2⟩
 ·obtain ⟨b, h1, h2⟩ := h.closes; exact ⟨b, hset _ _ zom h1, OwnRow.same (hfr _ _ zom h1) h2⟩
 ·obtain ⟨b, h1, h2⟩ := h.inners; exact ⟨b, hset _ _ zom h1, OwnRow.same (hfr _ _ zom h1) h2⟩
theorem MkIn.putF {H H1 : Heap} {base A nx nx1 : Nat} {a : Aut} {l : List (Option (Nat × Nat))} {vi vf vo vc vn v' : Value} {p : Int} {old : Option (Nat × Nat)} {b1 t1 : Nat} (h : MkIn H base A nx a l vi vf vo vc vn) (hj : l[1]? = some old)
  (hown : OwnInts H1 (some (b1, t1)) 3 v' (a.final ++ [p])) (hblk : nx ≤ b1 ∨ ∃ t, old = some (b1, t)) (hlt : b1 < nx1) (hle : nx ≤ nx1) (same : ∀ i, i < nx → (∀ b t, old = some (b, t) → i ≠ b) → H1 i = H i) :
  MkIn (H1.put A (.cells (zz (Go.Am.zcs a p) vi v' vo vc vn) 0 none false (some 30))) base A nx1 (Go.Am.zcs a p) (l.set 1 (some (b1, t1))) vi v' vo vc vn := by
 have hlen := h.len;have hfr := z8r (o := .cells (zz (Go.Am.zcs a p) vi v' vo vc vn) 0 none false (some 30)) h.sep hj same;have hA := h.hA
 have hset : ∀ (k : Nat) (ob : Option (Nat × Nat)), k ≠ 1 → l[k]? = some ob → (l.set 1 (some (b1, t1)))[k]? = some ob := fun k ob hk hl => by
  rw [List.getElem?_set_ne (fun e => hk e.symm), hl]
 have hbA : b1 ≠ A := by
  rcases hblk with hb | ⟨t, hb⟩
  ·omega
  ·rw [hb] at hj; exact (h.sep.1 _ _ _ hj).2.1
 refine ⟨zb, by simp [hlen], ?_, ?_, ?_, ?_, ?_, h.sep.set h.hb hA hle (by rcases hblk with hb | ⟨t, hb⟩; exact .inl hb; exact .inr ⟨t, by rw [hj, hb]⟩) hlt, zom, by have := h.hb; omega⟩
 ·obtain ⟨b, h1, h2⟩ := h.init; exact ⟨b, hset _ _ zom h1, AppI.same (hfr _ _ zom h1) h2⟩
 ·exact ⟨_, by rw [List.getElem?_set_self zom], OwnRow.same (fun b t e => by cases e; exact za hbA) hown⟩
 ·obtain ⟨b, h1, h2⟩ := h.opens; exact ⟨b, hset _ _ zom h1, OwnRow.same (hfr _ _ zom h1) h2⟩
 ·obtain ⟨b, h1, h2⟩ := h.closes; exact ⟨b, hset _ _ zom h1, OwnRow.same (hfr _ _ zom h1) h2⟩
 ·obtain ⟨b, h1, h2⟩ := h.inners; exact ⟨b, hset _ _ zom h1, OwnRow.same (hfr _ _ zom h1) h2⟩
theorem MkIn.putO {H H1 : Heap} {base A nx nx1 : Nat} {a : Aut} {l : List (Option (Nat × Nat))} {vi vf vo vc vn v' : Value} {p : R4} {old : Option (Nat × Nat)} {b1 t1 : Nat} (h : MkIn H base A nx a l vi vf vo vc vn) (hj : l[2]? = some old)
  (hown : OwnOf e4 4 43 H1 (some (b1, t1)) v' (a.opens ++ [p])) (hblk : nx ≤ b1 ∨ ∃ t, old = some (b1, t)) (hlt : b1 < nx1) (hle : nx ≤ nx1) (same : ∀ i, i < nx → (∀ b t, old = some (b, t) → i ≠ b) → H1 i = H i) :
  MkIn (H1.put A (.cells (zz (Go.Am.zdP a p) vi vf v' vc vn) 0 none false (some 30))) base A nx1 (Go.Am.zdP a p) (l.set 2 (some (b1, t1))) vi vf v' vc vn := by
 have hlen := h.len;have hfr := z8r (o := .cells (zz (Go.Am.zdP a p) vi vf v' vc vn) 0 none false (some 30)) h.sep hj same;have hA := h.hA
 have hset : ∀ (k : Nat) (ob : Option (Nat × Nat)), k ≠ 2 → l[k]? = some ob → (l.set 2 (some (b1, t1)))[k]? = some ob := fun k ob hk hl => by
  rw [List.getElem?_set_ne (fun e => hk e.symm), hl]
 have hbA : b1 ≠ A := by
  rcases hblk with hb | ⟨t, hb⟩
  ·omega
  ·rw [hb] at hj; exact (h.sep.1 _ _ _ hj).2.1
 refine ⟨zb, by simp [hlen], ?_, ?_, ?_, ?_, ?_, h.sep.set h.hb hA hle (by rcases hblk with hb | ⟨t, hb⟩; exact .inl hb; exact .inr ⟨t, by rw [hj, hb]⟩) hlt, zom, by have := h.hb; omega⟩
 ·obtain ⟨b, h1, h2⟩ := h.init; exact ⟨b, hset _ _ zom h1, AppI.same (hfr _ _ zom h1) h2⟩
 ·obtain ⟨b, h1, h2⟩ := h.final; exact ⟨b, hset _ _ zom h1, OwnRow.same (hfr _ _ zom h1) h2⟩
 ·exact ⟨_, by rw [List.getElem?_set_self zom], OwnRow.same (fun b t e => by cases e; exact za hbA) hown⟩
 ·obtain ⟨b, h1, h2⟩ := h.closes; exact ⟨b, hset _ _ zom h1, OwnRow.same (hfr _ _ zom h1) h2⟩
 ·obtain ⟨b, h1, h2⟩ := h.inners; exact ⟨b, hset _ _ zom h1, OwnRow.same (hfr _ _ zom h1) h2⟩
theorem MkIn.putC {H H1 : Heap} {base A nx nx1 : Nat} {a : Aut} {l : List (Option (Nat × Nat))} {vi vf vo vc vn v' : Value} {p : R4} {old : Option (Nat × Nat)} {b1 t1 : Nat} (h : MkIn H base A nx a l vi vf vo vc vn) (hj : l[3]? = some old)
  (hown : OwnOf e4 4 45 H1 (some (b1, t1)) v' (a.closes ++ [p])) (hblk : nx ≤ b1 ∨ ∃ t, old = some (b1, t)) (hlt : b1 < nx1) (hle : nx ≤ nx1) (same : ∀ i, i < nx → (∀ b t, old = some (b, t) → i ≠ b) → H1 i = H i) :
  MkIn (H1.put A (.cells (zz (Go.Am.zdQ a p) vi vf vo v' vn) 0 none false (some 30))) base A nx1 (Go.Am.zdQ a p) (l.set 3 (some (b1, t1))) vi vf vo v' vn := by
 have hlen := h.len;have hfr := z8r (o := .cells (zz (Go.Am.zdQ a p) vi vf vo v' vn) 0 none false (some 30)) h.sep hj same;have hA := h.hA
 have hset : ∀ (k : Nat) (ob : Option (Nat × Nat)), k ≠ 3 → l[k]? = some ob → (l.set 3 (some (b1, t1)))[k]? = some ob := fun k ob hk hl => by
  rw [List.getElem?_set_ne (fun e => hk e.symm), hl]
 have hbA : b1 ≠ A := by
  rcases hblk with hb | ⟨t, hb⟩
  ·omega
  ·rw [hb] at hj; exact (h.sep.1 _ _ _ hj).2.1
 refine ⟨zb, by simp [hlen], ?_, ?_, ?_, ?_, ?_, h.sep.set h.hb hA hle (by rcases hblk with hb | ⟨t, hb⟩; exact .inl hb; exact .inr ⟨t, by rw [hj, hb]⟩) hlt, zom, by have := h.hb; omega⟩
 ·obtain ⟨b, h1, h2⟩ := h.init; exact ⟨b, hset _ _ zom h1, AppI.same (hfr _ _ zom h1) h2⟩
 ·obtain ⟨b, h1, h2⟩ := h.final; exact ⟨b, hset _ _ zom h1, OwnRow.same (hfr _ _ zom h1) h2⟩
 ·obtain ⟨b, h1, h2⟩ := h.opens; exact ⟨b, hset _ _ zom h1, OwnRow.same (hfr _ _ zom h1) h2⟩
 ·exact ⟨_, by rw [List.getElem?_set_self zom], OwnRow.same (fun b t e => by cases e; exact za hbA) hown⟩
 ·obtain ⟨b, h1, h2⟩ := h.inners; exact ⟨b, hset _ _ zom h1, OwnRow.same (hfr _ _ zom h1) h2⟩
theorem MkIn.putN {H H1 : Heap} {base A nx nx1 : Nat} {a : Aut} {l : List (Option (Nat × Nat))} {vi vf vo vc vn v' : Value} {p : R3} {old : Option (Nat × Nat)} {b1 t1 : Nat} (h : MkIn H base A nx a l vi vf vo vc vn) (hj : l[4]? = some old)
  (hown : OwnOf e3 3 51 H1 (some (b1, t1)) v' (a.inners ++ [p])) (hblk : nx ≤ b1 ∨ ∃ t, old = some (b1, t)) (hlt : b1 < nx1) (hle : nx ≤ nx1) (same : ∀ i, i < nx → (∀ b t, old = some (b, t) → i ≠ b) → H1 i = H i) :
  MkIn (H1.put A (.cells (zz (Go.Am.zdY a p) vi vf vo vc v') 0 none false (some 30))) base A nx1 (Go.Am.zdY a p) (l.set 4 (some (b1, t1))) vi vf vo vc v' := by
 have hlen := h.len;have hfr := z8r (o := .cells (zz (Go.Am.zdY a p) vi vf vo vc v') 0 none false (some 30)) h.sep hj same;have hA := h.hA
 have hset : ∀ (k : Nat) (ob : Option (Nat × Nat)), k ≠ 4 → l[k]? = some ob → (l.set 4 (some (b1, t1)))[k]? = some ob := fun k ob hk hl => by
  rw [List.getElem?_set_ne (fun e => hk e.symm), hl]
 have hbA : b1 ≠ A := by
  rcases hblk with hb | ⟨t, hb⟩
  ·omega
  ·rw [hb] at hj; exact (h.sep.1 _ _ _ hj).2.1
 refine ⟨zb, by simp [hlen], ?_, ?_, ?_, ?_, ?_, h.sep.set h.hb hA hle (by rcases hblk with hb | ⟨t, hb⟩; exact .inl hb; exact .inr ⟨t, by rw [hj, hb]⟩) hlt, zom, by have := h.hb; omega⟩
 ·obtain ⟨b, h1, h2⟩ := h.init; exact ⟨b, hset _ _ zom h1, AppI.same (hfr _ _ zom h1) h2⟩
 ·obtain ⟨b, h1, h2⟩ := h.final; exact ⟨b, hset _ _ zom h1, OwnRow.same (hfr _ _ zom h1) h2⟩
 ·obtain ⟨b, h1, h2⟩ := h.opens; exact ⟨b, hset _ _ zom h1, OwnRow.same (hfr _ _ zom h1) h2⟩
 ·obtain ⟨b, h1, h2⟩ := h.closes; exact ⟨b, hset _ _ zom h1, OwnRow.same (hfr _ _ zom h1) h2⟩
 ·exact ⟨_, by rw [List.getElem?_set_self zom], OwnRow.same (fun b t e => by cases e; exact za hbA) hown⟩
theorem MkIn.low {H : Heap} {base base' A nx : Nat} {a : Aut} {l : List (Option (Nat × Nat))} {vi vf vo vc vn : Value} (h : MkIn H base A nx a l vi vf vo vc vn) (hb : base' ≤ base) : MkIn H base' A nx a l vi vf vo vc vn :=
 ⟨h.cell, h.len, h.init, h.final, h.opens, h.closes, h.inners, ⟨fun j b t hj => by have := h.sep.1 j b t hj; omega, h.sep.2⟩, h.hA, by have := h.hb; omega⟩
theorem MkIn.other {H : Heap} {base A nx z : Nat} {o : AObj} {a : Aut} {l : List (Option (Nat × Nat))} {vi vf vo vc vn : Value} (h : MkIn H base A nx a l vi vf vo vc vn) (hz : z < base) (hzA : z ≠ A) : MkIn (H.put z o) base A nx a l vi vf vo vc vn := by
 have hs : ∀ (k : Nat) (ob : Option (Nat × Nat)), l[k]? = some ob → ∀ b t, ob = some (b, t) → (H.put z o) b = H b := fun k ob hl b t e => by
  subst e;have := h.sep.1 k b t hl;exact za zom
 refine ⟨by rw [za (fun e => hzA e.symm)]; exact h.cell, h.len, ?_, ?_, ?_, ?_, ?_, h.sep, h.hA, h.hb⟩
 ·obtain ⟨b, h1, h2⟩ := h.init; exact ⟨b, h1, AppI.same (hs _ _ h1) h2⟩
 ·obtain ⟨b, h1, h2⟩ := h.final; exact ⟨b, h1, OwnRow.same (hs _ _ h1) h2⟩
 ·obtain ⟨b, h1, h2⟩ := h.opens; exact ⟨b, h1, OwnRow.same (hs _ _ h1) h2⟩
 ·obtain ⟨b, h1, h2⟩ := h.closes; exact ⟨b, h1, OwnRow.same (hs _ _ h1) h2⟩
 ·obtain ⟨b, h1, h2⟩ := h.inners; exact ⟨b, h1, OwnRow.same (hs _ _ h1) h2⟩
end Go.Proofs.YteplpegfcpmflaaGreat
namespace Go.Proofs.YteplpegfcpmflaaGreat
open Go.RowKit Go.Am
attribute [local irreducible] aop OpsL Trip zI z2r OpsK OpsR
theorem z7x {H : Heap} {ob : Option (Nat × Nat)} {v : Value} {l : List Int} (h : z5H H ob v l) : OwnInts H ob 3 v l := by
 unfold OwnInts;unfold z5H OwnOf at h
 rwa [z4J] at h
structure OwnAut (H : Heap) (base nx : Nat) (a : Aut) (l : List (Option (Nat × Nat))) (vi vf vo vc vn : Value) : Prop where
 len : l.length = 5
 init : ∃ b, l[0]? = some b ∧ z5H H b vi a.init
 final : ∃ b, l[1]? = some b ∧ z5H H b vf a.final
 opens : ∃ b, l[2]? = some b ∧ zaJ H b vo a.opens
 closes : ∃ b, l[3]? = some b ∧ zaL H b vc a.closes
 inners : ∃ b, l[4]? = some b ∧ zaK H b vn a.inners
 sep : SepB base nx nx l
 hb : base ≤ nx
theorem OwnAut.in {H : Heap} {base nx : Nat} {a : Aut} {l : List (Option (Nat × Nat))} {vi vf vo vc vn : Value} (h : OwnAut H base nx a l vi vf vo vc vn) : AutIn H a vi vf vo vc vn := by
 obtain ⟨_, _, h1⟩ := h.init;obtain ⟨_, _, h2⟩ := h.final;obtain ⟨_, _, h3⟩ := h.opens;obtain ⟨_, _, h4⟩ := h.closes;obtain ⟨_, _, h5⟩ := h.inners;exact ⟨z1f (h1.at z04), z1f (h2.at z04), h3.at z0X, h4.at z0X, h5.at z48⟩
theorem z1i : Am.z0O Tryz.prog 17 := ⟨Tryz.f17, Tryz.func17, by kernel_rfl, by kernel_rfl⟩
theorem zj2 {n0 n1 n2 n3 n4 n5 : Nat} {o1 o2 o3 o4 o5 : Option (Nat × Nat)} (h1 : ∀ b t, o1 = some (b, t) → n0 ≤ b ∧ b < n1) (h2 : ∀ b t, o2 = some (b, t) → n1 ≤ b ∧ b < n2) (h3 : ∀ b t, o3 = some (b, t) → n2 ≤ b ∧ b < n3) (h4 : ∀ b t, o4 = some (b, t) → n3 ≤ b ∧ b < n4) (h5 : ∀ b t, o5 = some (b, t) → n4 ≤ b ∧ b < n5)
  (k1 : n0 ≤ n1) (k2 : n1 ≤ n2) (k3 : n2 ≤ n3) (k4 : n3 ≤ n4) (k5 : n4 ≤ n5) : SepB n0 n5 n5 [o1, o2, o3, o4, o5] := by
 have key : ∀ (j b t : Nat), [o1, o2, o3, o4, o5][j]? = some (some (b, t)) → (j = 0 ∧ n0 ≤ b ∧ b < n1) ∨ (j = 1 ∧ n1 ≤ b ∧ b < n2) ∨ (j = 2 ∧ n2 ≤ b ∧ b < n3) ∨ (j = 3 ∧ n3 ≤ b ∧ b < n4) ∨ (j = 4 ∧ n4 ≤ b ∧ b < n5) := fun j b t h => by
  match j, h with
  | 0, h => exact .inl ⟨rfl, h1 b t (Option.some.inj h)⟩
  | 1, h => exact .inr (.inl ⟨rfl, h2 b t (Option.some.inj h)⟩)
  | 2, h => exact .inr (.inr (.inl ⟨rfl, h3 b t (Option.some.inj h)⟩))
  | 3, h => exact .inr (.inr (.inr (.inl ⟨rfl, h4 b t (Option.some.inj h)⟩)))
  | 4, h => exact .inr (.inr (.inr (.inr ⟨rfl, h5 b t (Option.some.inj h)⟩)))
  | j + 5, h => simp at h
 refine ⟨fun j b t h => ?_, fun j k b t b' t' hne ha hb => ?_⟩
 ·have := key j b t h; omega
 ·have := key j b t ha;have := key k b' t' hb;omega
def z0m : List Value := [.int .i64 0, .int .i64 0, .slice none 0 0, .slice none 0 0, .slice none 0 0, .slice none 0 0, .slice none 0 0]
theorem _root_.Go.Am.SepB.base {base base' A nx : Nat} {l : List (Option (Nat × Nat))} (h : SepB base A nx l) (hb : base' ≤ base) : SepB base' A nx l := ⟨fun j b t hj => by have := h.1 j b t hj; exact ⟨zom, this.2⟩, h.2⟩
theorem z7f (W0 : World) {nx : Nat} {H : Heap} {a : Aut} {vi vf vo vc vn : Value} (ha : AutIn H a vi vf vo vc vn) (hn : AutLen a) :
  ACalls Tryz.prog W0 17 [.agg (zz a vi vf vo vc vn).toArray] nx H fun v nx' H' => ∃ l vi' vf' vo' vc' vn', v = .agg (zz (zM a) vi' vf' vo' vc' vn').toArray ∧ OwnAut H' nx nx' (zM a) l vi' vf' vo' vc' vn' ∧ Ext nx H nx' H' := by
 obtain ⟨ai, ci, rfl⟩ := ha.init.slice;obtain ⟨af, cf, rfl⟩ := ha.final.slice;obtain ⟨ao, co, rfl⟩ := ha.opens.slice;obtain ⟨ac, cc, rfl⟩ := ha.closes.slice;obtain ⟨an, cn, rfl⟩ := ha.inners.slice;refine zm (fn := Tryz.f17) (c := _) Tryz.func17 rfl (fun tm n hn0 htm => ?_);have e0 : tm 0 = .agg (zz a (.slice ai a.init.length ci) (.slice af a.final.length cf) (.slice ao a.opens.length co) (.slice ac a.closes.length cc) (.slice an a.inners.length cn)).toArray := htm 0;clear htm;replace hn0 : n = 23 := hn0;refine Trip.ok fun hok => ?_;replace hok : ∀ id o, H id = some o → id < nx := hok;refine z5h ?_;refine OpsL.new zsd (z0a evr) ?_;refine OpsL.new zsd (zD (l := z0m) krf) ?_;obtain ⟨G, hG⟩ : ∃ G, G = (H.put nx (.cells (Value.agg (zz a (.slice ai a.init.length ci) (.slice af a.final.length cf) (.slice ao a.opens.length co) (.slice ac a.closes.length cc) (.slice an a.inners.length cn)).toArray).cells.toList 0 none false (some 30))).put (nx + 1) (.cells z0m 0 none false (some 30)) := ⟨_, rfl⟩;have hx0 : Ext nx H (nx + 1 + 1) G := by rw [hG]; exact zj.trans zj
 have hokG : ∀ id o, G id = some o → id < nx + 1 + 1 := by rw [hG]; exact zF (zF hok)
 have gx : G nx = some (.cells (zz a (.slice ai a.init.length ci) (.slice af a.final.length cf) (.slice ao a.opens.length co) (.slice ac a.closes.length cc) (.slice an a.inners.length cn)) 0 none false (some 30)) := by rw [hG, za zom, zb]; rfl
 have gy : G (nx + 1) = some (.cells z0m 0 none false (some 30)) := by rw [hG, zb]
 replace ha := ha.ext hx0 hok;rw [← hG];clear hG e0;refine zdU ?_;refine zG [6, 9, 12, 15, 18, 20] (K := fun nx1 H1 => H1 nx = some (.cells (zz a (.slice ai a.init.length ci) (.slice af a.final.length cf) (.slice ao a.opens.length co) (.slice ac a.closes.length cc) (.slice an a.inners.length cn)) 0 none false (some 30))) z0q krf krf [0, 1, 2, 3, 4, 5, 7, 8, 10, 11, 13, 14, 16, 17, 6, 9, 12, 15, 18, 19, 20] krf gx ?_;refine zg1 ?_;refine zx (v := .int .i64 a.N) rfl krf zsd gx (fun H2 nx2 hK => zp evr zxr rfl (by rw [Nat.zero_add]; exact ze hK rfl)) ?_;refine zg1 ?_;refine zx (v := .int .i64 a.G) rfl krf zsd gx (fun H2 nx2 hK => zp evr zxr rfl (by rw [Nat.zero_add]; exact ze hK rfl)) ?_;refine zg1 ?_;refine zx (v := .slice ai a.init.length ci) rfl krf zsd gx (fun H2 nx2 hK => zp evr zxr rfl (by rw [Nat.zero_add]; exact ze hK rfl)) ?_;refine zg1 ?_;refine zx (v := .slice af a.final.length cf) rfl krf zsd gx (fun H2 nx2 hK => zp evr zxr rfl (by rw [Nat.zero_add]; exact ze hK rfl)) ?_;refine zg1 ?_;refine zx (v := .slice ao a.opens.length co) rfl krf zsd gx (fun H2 nx2 hK => zp evr zxr rfl (by rw [Nat.zero_add]; exact ze hK rfl)) ?_;refine zg1 ?_;refine zx (v := .slice ac a.closes.length cc) rfl krf zsd gx (fun H2 nx2 hK => zp evr zxr rfl (by rw [Nat.zero_add]; exact ze hK rfl)) ?_;refine zg1 ?_;refine zx (v := .slice an a.inners.length cn) rfl krf zsd gx (fun H2 nx2 hK => zp evr zxr rfl (by rw [Nat.zero_add]; exact ze hK rfl)) ?_;refine z05 krf (zZ rfl rfl zsd zxr evd evd z6d (zf5 W0 (z1h ha.init) (by have := hn.init; omega)).ok ?_);rintro v1 n1 H1 ⟨⟨o1, w1, x1, b1⟩, ok1⟩;have hxx1 : Ext (nx + 1 + 1) G n1 H1 := x1;have gx1 : H1 nx = some (.cells (zz a (.slice ai a.init.length ci) (.slice af a.final.length cf) (.slice ao a.opens.length co) (.slice ac a.closes.length cc) (.slice an a.inners.length cn)) 0 none false (some 30)) := (hxx1.2 nx zom).trans gx;have ha1 := ha.ext hxx1 hokG;obtain ⟨a1, c1, hv1⟩ := (w1.at z04).slice;subst hv1;refine ⟨gx1, ?_⟩;refine z05 krf (zZ rfl rfl zsd zxr evd evd z6d (zf5 W0 (z1h ha1.final) (by have := hn.final; omega)).ok ?_);rintro v2 n2 H2 ⟨⟨o2, w2, x2, b2⟩, ok2⟩;have hxx2 : Ext (nx + 1 + 1) G n2 H2 := hxx1.trans x2;have gx2 : H2 nx = some (.cells (zz a (.slice ai a.init.length ci) (.slice af a.final.length cf) (.slice ao a.opens.length co) (.slice ac a.closes.length cc) (.slice an a.inners.length cn)) 0 none false (some 30)) := (hxx2.2 nx zom).trans gx;have ha2 := ha.ext hxx2 hokG;obtain ⟨a2, c2, hv2⟩ := (w2.at z04).slice;subst hv2;refine ⟨gx2, ?_⟩;refine z05 krf (zZ rfl rfl zsd zxr evd evd za4 (zgU W0 ha2.opens (by have := hn.opens; omega)).ok ?_);rintro v3 n3 H3 ⟨⟨o3, w3, x3, b3⟩, ok3⟩;have hxx3 : Ext (nx + 1 + 1) G n3 H3 := hxx2.trans x3;have gx3 : H3 nx = some (.cells (zz a (.slice ai a.init.length ci) (.slice af a.final.length cf) (.slice ao a.opens.length co) (.slice ac a.closes.length cc) (.slice an a.inners.length cn)) 0 none false (some 30)) := (hxx3.2 nx zom).trans gx
 have ha3 := ha.ext hxx3 hokG;obtain ⟨a3, c3, hv3⟩ := (w3.at z0f).slice;subst hv3;refine ⟨gx3, ?_⟩;refine z05 krf (zZ rfl rfl zsd zxr evd evd za6 (zgW W0 ha3.closes (by have := hn.closes; omega)).ok ?_);rintro v4 n4 H4 ⟨⟨o4, w4, x4, b4⟩, ok4⟩;have hxx4 : Ext (nx + 1 + 1) G n4 H4 := hxx3.trans x4;have gx4 : H4 nx = some (.cells (zz a (.slice ai a.init.length ci) (.slice af a.final.length cf) (.slice ao a.opens.length co) (.slice ac a.closes.length cc) (.slice an a.inners.length cn)) 0 none false (some 30)) := (hxx4.2 nx zom).trans gx;have ha4 := ha.ext hxx4 hokG;obtain ⟨a4, c4, hv4⟩ := (w4.at z0f).slice;subst hv4;refine ⟨gx4, ?_⟩;refine z05 krf (zZ rfl rfl zsd zxr evd evd za5 (zgV W0 ha4.inners (by have := hn.inners; omega)).ok ?_);rintro v5 n5 H5 ⟨⟨o5, w5, x5, b5⟩, ok5⟩;have hxx5 : Ext (nx + 1 + 1) G n5 H5 := hxx4.trans x5;have gx5 : H5 nx = some (.cells (zz a (.slice ai a.init.length ci) (.slice af a.final.length cf) (.slice ao a.opens.length co) (.slice ac a.closes.length cc) (.slice an a.inners.length cn)) 0 none false (some 30)) := (hxx5.2 nx zom).trans gx;have ha5 := ha.ext hxx5 hokG;obtain ⟨a5, c5, hv5⟩ := (w5.at z13).slice;subst hv5;refine ⟨gx5, ?_⟩;refine zg5 ?_;refine zd (zC (v := .agg (zz (zM a) (.slice a1 (zB lt1 a.init).length c1) (.slice a2 (zB lt1 a.final).length c2) (.slice a3 (zB lt4 a.opens).length c3) (.slice a4 (zB lt4 a.closes).length c4) (.slice a5 (zB lt3 a.inners).length c5)).toArray) (l := [(0, .int .i64 a.N), (1, .int .i64 a.G), (2, .slice a1 (zB lt1 a.init).length c1), (3, .slice a2 (zB lt1 a.final).length c2), (4, .slice a3 (zB lt4 a.opens).length c3), (5, .slice a4 (zB lt4 a.closes).length c4), (6, .slice a5 (zB lt3 a.inners).length c5)]) zeq krf) ?_;refine OpsL.nil ?_;refine zg6 ?_;have gy5 : H5 (nx + 1) = some (.cells z0m 0 none false (some 30)) := (hxx5.2 (nx + 1) zom).trans gy;refine OpsL.upd (zw (k := 7) evr evr zxr rfl (o := .cells (zz (zM a) (.slice a1 (zB lt1 a.init).length c1) (.slice a2 (zB lt1 a.final).length c2) (.slice a3 (zB lt4 a.opens).length c3) (.slice a4 (zB lt4 a.closes).length c4) (.slice a5 (zB lt3 a.inners).length c5)) 0 none false (some 30)) (zE (vs := zz (zM a) (.slice a1 (zB lt1 a.init).length c1) (.slice a2 (zB lt1 a.final).length c2) (.slice a3 (zB lt4 a.opens).length c3) (.slice a4 (zB lt4 a.closes).length c4) (.slice a5 (zB lt3 a.inners).length c5)) gy5 rfl rfl)) ?_;refine OpsL.nil ⟨by show Heap.put H5 (nx + 1) _ nx = _; rw [za zom]; exact gx5, ?_⟩;refine z0M ?_
 (change Trip _ _ _ _ _)
 refine z9z ?_;have hk1 := x1.1;have hk2 := x2.1;have hk3 := x3.1;have hk4 := x4.1;have hk5 := x5.1;have hH : ∀ i, i ≠ nx + 1 → (H5.put (nx + 1) (.cells (zz (zM a) (.slice a1 (zB lt1 a.init).length c1) (.slice a2 (zB lt1 a.final).length c2) (.slice a3 (zB lt4 a.opens).length c3) (.slice a4 (zB lt4 a.closes).length c4) (.slice a5 (zB lt3 a.inners).length c5)) 0 none false (some 30))) i = H5 i := fun i hi => za hi;have hrd : z1N Tryz.prog (H5.put (nx + 1) (.cells (zz (zM a) (.slice a1 (zB lt1 a.init).length c1) (.slice a2 (zB lt1 a.final).length c2) (.slice a3 (zB lt4 a.opens).length c3) (.slice a4 (zB lt4 a.closes).length c4) (.slice a5 (zB lt3 a.inners).length c5)) 0 none false (some 30))) 30 ⟨nx + 1, 0, none⟩ = some (.agg (zz (zM a) (.slice a1 (zB lt1 a.init).length c1) (.slice a2 (zB lt1 a.final).length c2) (.slice a3 (zB lt4 a.opens).length c3) (.slice a4 (zB lt4 a.closes).length c4) (.slice a5 (zB lt3 a.inners).length c5)).toArray) := z1g (k := 7) zxr zxr zxr (zH zb rfl);refine ⟨.inr rfl, _, z2h (a := ⟨nx + 1, 0, none⟩) (by simp [zl]) hrd, [o1, o2, o3, o4, o5], _, _, _, _, _, rfl, ⟨rfl, ?_, ?_, ?_, ?_, ?_, ?_, zom⟩, ?_⟩
 ·exact ⟨_, rfl, OwnRow.same (fun b t h => hH b (by have := b1 b t h; omega)) (OwnOf.ext (((x2.trans x3).trans x4).trans x5) (fun b t h => (b1 b t h).2) w1)⟩
 ·exact ⟨_, rfl, OwnRow.same (fun b t h => hH b (by have := b2 b t h; omega)) (OwnOf.ext ((x3.trans x4).trans x5) (fun b t h => (b2 b t h).2) w2)⟩
 ·exact ⟨_, rfl, OwnRow.same (fun b t h => hH b (by have := b3 b t h; omega)) (OwnOf.ext (x4.trans x5) (fun b t h => (b3 b t h).2) w3)⟩
 ·exact ⟨_, rfl, OwnRow.same (fun b t h => hH b (by have := b4 b t h; omega)) (OwnOf.ext x5 (fun b t h => (b4 b t h).2) w4)⟩
 ·exact ⟨_, rfl, OwnRow.same (fun b t h => hH b (by have := b5 b t h; omega)) w5⟩
 ·refine (zj2 (n0 := nx + 1 + 1) b1 b2 b3 b4 b5 hk1 hk2 hk3 hk4 hk5).base zom
 ·exact ⟨zom, fun i hi => by rw [hH i zom, hxx5.2 i zom, hx0.2 i hi]⟩
end Go.Proofs.YteplpegfcpmflaaGreat
namespace Go.Proofs.YteplpegfcpmflaaGreat
open Go.Am Go.RowKit
attribute [local irreducible] aop OpsL Trip zI z2r
theorem zf7 (W0 : World) {nx : Nat} {H : Heap} {a : Aut} {vi vf vo vc vn : Value} (ha : AutIn H a vi vf vo vc vn) (hl : AutLen a) :
  ACalls Tryz.prog W0 29 [.agg (zz a vi vf vo vc vn).toArray] nx H fun v nx' H' => v = .int .i64 (((a.opens.length : Int) + a.closes.length) + a.inners.length) ∧ Ext nx H nx' H' := by
 obtain ⟨oa, oc, rfl⟩ := ha.opens.slice;obtain ⟨ca, cc, rfl⟩ := ha.closes.slice;obtain ⟨na, nc, rfl⟩ := ha.inners.slice;have q1 := hl.opens;have q2 := hl.closes;have q3 := hl.inners;refine zm (fn := Tryz.f29) (c := _) Tryz.func29 rfl (fun tm n hn0 htm => ?_);have e0 : tm 0 = .agg (zz a vi vf (.slice oa a.opens.length oc) (.slice ca a.closes.length cc) (.slice na a.inners.length nc)).toArray := htm 0;clear htm;replace hn0 : n = 14 := hn0;refine z5h ?_;refine OpsL.new zsd (z0a evr) ?_;obtain ⟨F, hF⟩ : ∃ F, F = H.put nx (.cells (Value.agg (zz a vi vf (.slice oa a.opens.length oc) (.slice ca a.closes.length cc) (.slice na a.inners.length nc)).toArray).cells.toList 0 none false (some 30)) := ⟨_, rfl⟩;have hx0 : Ext nx H (nx + 1) F := by rw [hF]; exact zj
 have hFn : F nx = some (.cells (zz a vi vf (.slice oa a.opens.length oc) (.slice ca a.closes.length cc) (.slice na a.inners.length nc)) 0 none false (some 30)) := by rw [hF, zb]; rfl
 have g4 : zh F ⟨nx, 4, none⟩ (.slice oa a.opens.length oc) := ze hFn rfl;have g5 : zh F ⟨nx, 5, none⟩ (.slice ca a.closes.length cc) := ze hFn rfl;have g6 : zh F ⟨nx, 6, none⟩ (.slice na a.inners.length nc) := ze hFn rfl;rw [← hF];clear hF
 repeat' (first | (refine zd (by first | exact z0y | exact z5G | exact z1D | exact ofa | exact old) ?_) | refine Trip.seq ?_ | refine zk ?_ | (refine Trip.ret ?_; (dsimp only)) | (refine OpsL.nil ?_; (change Trip _ _ _ _ _)))
 exact ⟨.inr rfl, _, zy, by simp [zl], hx0⟩
theorem zim (W0 : World) {nx : Nat} {H : Heap} {a : Aut} {vi vf vo vc vn : Value} (ha : AutIn H a vi vf vo vc vn) (hl : AutLen a) :
  ACalls Tryz.prog W0 39 [.agg (zz a vi vf vo vc vn).toArray] nx H fun v nx' H' => v = .bool (z9D a) ∧ Ext nx H nx' H' := by
 refine zm (fn := Tryz.f39) (c := _) Tryz.func39 rfl (fun tm n hn0 htm => ?_);have e0 : tm 0 = .agg (zz a vi vf vo vc vn).toArray := htm 0;clear htm;replace hn0 : n = 16 := hn0;refine Trip.ok fun hok => ?_;replace hok : ∀ id o, H id = some o → id < nx := hok;refine z5h ?_;refine OpsL.new zsd (z0a evr) ?_;obtain ⟨F, hF⟩ : ∃ F, F = H.put nx (.cells (Value.agg (zz a vi vf vo vc vn).toArray).cells.toList 0 none false (some 30)) := ⟨_, rfl⟩;have hx0 : Ext nx H (nx + 1) F := by rw [hF]; exact zj
 have hFn : F nx = some (.cells (zz a vi vf vo vc vn) 0 none false (some 30)) := by rw [hF, zb]; rfl
 have g0 : zh F ⟨nx, 0, none⟩ (.int .i64 a.N) := ze hFn rfl;have g1 : zh F ⟨nx, 1, none⟩ (.int .i64 a.G) := ze hFn rfl;rw [← hF];clear hF
 repeat' (first | (refine zd (by first | exact z0y | exact ofa | exact old) ?_) | refine Trip.seq ?_ | refine zk ?_ | (refine OpsL.nil ?_; (change Trip _ _ _ _ _)))
 refine z2T (hf := z2p) (hc := (z5L W0 _ _ _)) (h := ?_);rintro v2 n2 H2 ⟨rfl, rfl, rfl⟩;cases hs1 : btF a.N 0 200
 ·repeat' (first | (refine zd (by first | exact omv | exact z0y | exact z2Y) ?_) | (refine Trip.ret ?_; (dsimp only)) | (refine OpsL.nil ?_; (change Trip _ _ _ _ _)) | refine zW ?_)
  exact ⟨.inr rfl, _, zy, by simp [zl, z9D, *], hx0⟩
 repeat' (first | (refine zd (by first | exact omv | exact ofa | exact old) ?_) | refine zA ?_)
 refine z2T (hf := z2p) (hc := (z5L W0 _ _ _)) (h := ?_);rintro v2 n2 H2 ⟨rfl, rfl, rfl⟩;cases hs2 : btF a.G 0 10000
 ·repeat' (first | (refine zd (by first | exact omv | exact z0y | exact z3i | exact z2Y) ?_) | (refine Trip.ret ?_; (dsimp only)) | (refine OpsL.nil ?_; (change Trip _ _ _ _ _)) | refine zW ?_)
  exact ⟨.inr rfl, _, zy, by simp [zl, z9D, *], hx0⟩
 repeat' (first | (refine zd (by first | exact omv | exact z3i) ?_) | refine zA ?_)
 refine zd (zg (k := 7) evd zxr rfl zxr (zH hFn rfl)) ?_
 repeat' (refine zA ?_)
 refine z0c (hf := z6e) (hc := (zf7 W0 (ha.ext hx0 hok) hl)) (h := ?_);rintro v2 n2 H2 ⟨rfl, hx2⟩
 repeat' (first | (refine zd (by first | exact z0y | exact zgr | exact z3i) ?_) | (refine Trip.ret ?_; (dsimp only)) | (refine OpsL.nil ?_; (change Trip _ _ _ _ _)) | refine zA ?_)
 exact ⟨.inr rfl, _, zy, by simp [zl, z9D, *], hx0.trans hx2⟩
theorem z74 : Am.z0O Tryz.prog 40 := ⟨Tryz.f40, Tryz.func40, by kernel_rfl, by kernel_rfl⟩
theorem zc1 : Am.z0O Tryz.prog 41 := ⟨Tryz.f41, Tryz.func41, by kernel_rfl, by kernel_rfl⟩
theorem zc3 : Am.z0O Tryz.prog 42 := ⟨Tryz.f42, Tryz.func42, by kernel_rfl, by kernel_rfl⟩
theorem zc2 : Am.z0O Tryz.prog 43 := ⟨Tryz.f43, Tryz.func43, by kernel_rfl, by kernel_rfl⟩
theorem zgS (W0 : World) {nx : Nat} {H : Heap} {f : FuncId} {cap : Array Value} {p : Int → Bool} {va : Value} {xs : List Int} (hf : Am.z0O Tryz.prog f) (hx : IntsAt H va xs) (hlen : xs.length ≤ 1000)
  (hp : ∀ (x : Int) nx1 H1, Ext nx H nx1 H1 → ACalls Tryz.prog W0 f (.int .i64 x :: cap.toList) nx1 H1 fun v n2 H2 => v = .bool (p x) ∧ Ext nx1 H1 n2 H2) :
  ACalls Tryz.prog W0 40 [va, .func (.func f) #[] cap] nx H fun v nx' H' => v = .bool (xs.all p) ∧ Ext nx H nx' H' := by
 obtain ⟨xa, xc, rfl⟩ := hx.slice;refine zm (fn := Tryz.f40) (c := _) Tryz.func40 rfl (fun tm n hn0 htm => ?_);have e0 : tm 0 = .slice xa xs.length xc := htm 0;have e1 : tm 1 = .func (.func f) #[] cap := htm 1;clear htm;replace hn0 : n = 18 := hn0;refine Trip.ok fun hok => ?_;replace hok : ∀ id o, H id = some o → id < nx := hok;refine zaF ?_
 refine zu (fun (i : Nat) s => ∃ (tm : Nat → Value) (nx' : Nat) (H' : Heap), s = ⟨tm, n, H', nx'⟩ ∧ Ext nx H nx' H' ∧
   tm 1 = .func (.func f) #[] cap ∧ tm 7 = .slice xa xs.length xc ∧ tm 8 = .int .i64 xs.length ∧ tm 9 = .int .i64 i ∧ i ≤ xs.length ∧ (xs.take i).all p = true) (fun i => xs.length - i) 0 ?_ ?_
 ·exact ⟨_, _, _, rfl, Ext.refl, stp, stp, stp, stp, zom, rfl⟩
 ·clear e0 e1;rintro i s ⟨tm, nx', H', rfl, hext, e1, e7, e8, e9, hi, hall⟩
  repeat (first | refine zd (by exact zaH) ?_ | refine Trip.seq ?_ | refine zk ?_ | refine Trip.block ?_ | refine z1u (fun _ => ?_) (fun _ => ?_) | (refine Trip.skip ?_; (change Trip _ _ _ _ _)) | (refine OpsL.nil ?_; (change Trip _ _ _ _ _)))
  ·have hlt : i < xs.length := by omega
   obtain ⟨q, rfl, hc⟩ := z0g hx hlt;replace hc := zN hext hok hc
   repeat (first | (refine zd (by first | exact omv | exact z0y | exact z2Z | exact old) ?_) | refine Trip.seq ?_ | refine zk ?_ | (refine OpsL.nil ?_; (change Trip _ _ _ _ _)))
   refine z0V (cap := cap) zsd evd evr hf (hp _ _ _ hext) ?_;rintro v2 n2 H2 ⟨rfl, hx2⟩;cases hs : p xs[i]
   ·repeat (first | refine zd (by exact z7e) ?_ | (refine OpsL.nil ?_; (change Trip _ _ _ _ _)))
    refine zdN ?_;exact ⟨.inr rfl, _, zy, by simp [zl, zaO hlt hs], hext.trans hx2⟩
   ·repeat (first | refine zd (by exact z7e) ?_ | (refine OpsL.nil ?_; (change Trip _ _ _ _ _)))
    refine zck ?_;exact ⟨i + 1, ⟨_, _, _, rfl, hext.trans hx2, stp, stp, stp, stp, zom, z5M hlt hall hs⟩, zom⟩
  ·repeat (first | refine zd (by exact z0y) ?_ | refine Trip.seq ?_ | refine zk ?_ | (refine Trip.exit ?_; ((repeat (refine zY ?_)); change Trip _ _ _ _ _)) | (refine Trip.ret ?_; (dsimp only)) | (refine OpsL.nil ?_; (change Trip _ _ _ _ _)))
   have hi2 : i = xs.length := by omega
   subst hi2;rw [List.take_length] at hall;exact ⟨.inr rfl, _, zy, by simp [zl, hall], hext⟩
theorem zd7 {A : Prop} (h : A := by
 obtain ⟨xa, xc, rfl⟩ := hx.slice;refine zm (fn := zp0) (c := _) zp1 rfl (fun tm n hn0 htm => ?_);have e0 : tm 0 = .slice xa xs.length xc := htm 0;have e1 : tm 1 = .func (.func f) #[] cap := htm 1;clear htm;replace hn0 : n = 18 := hn0;refine Trip.ok fun hok => ?_;replace hok : ∀ id o, H id = some o → id < nx := hok;refine zaF ?_
 refine zu (fun (i : Nat) s => ∃ (tm : Nat → Value) (nx' : Nat) (H' : Heap), s = ⟨tm, n, H', nx'⟩ ∧ Ext nx H nx' H' ∧
   tm 1 = .func (.func f) #[] cap ∧ tm 7 = .slice xa xs.length xc ∧ tm 8 = .int .i64 xs.length ∧ tm 9 = .int .i64 i ∧ i ≤ xs.length ∧ (xs.take i).all p = true) (fun i => xs.length - i) 0 ?_ ?_
 ·exact ⟨_, _, _, rfl, Ext.refl, stp, stp, stp, stp, zom, rfl⟩
 ·clear e0 e1;rintro i s ⟨tm, nx', H', rfl, hext, e1, e7, e8, e9, hi, hall⟩
  repeat (first | refine zd (by exact zaH) ?_ | refine Trip.seq ?_ | refine zk ?_ | refine Trip.block ?_ | refine z1u (fun _ => ?_) (fun _ => ?_) | (refine Trip.skip ?_; (change Trip _ _ _ _ _)) | (refine OpsL.nil ?_; (change Trip _ _ _ _ _)))
  ·have hlt : i < xs.length := by omega
   obtain ⟨q, rfl, hc⟩ := zX hx hlt;replace hc := z1r hext hok hc;refine zcu ?_;refine zd (zg (k := 4) evr zxr rfl zxr hc) ?_;refine OpsL.new zsd (zD (l := rep 4 [.int .i64 0]) zxr) ?_;refine OpsL.upd (zw (k := 4) evr evr zxr rfl (o := .cells (e4 xs[i]) 0 none false (some zp2)) (by simp [z5j, Heap.put, Value.cells, e4, rep, Value.oneCell'])) ?_;refine zaE ?_;refine zd (zg (k := 4) (vs := e4 xs[i]) evd zxr rfl zxr (zH zb rfl)) ?_;refine z0V (cap := cap) zsd evd evr hf (hp _ _ _ (hext.trans (zj.put (Nat.le_refl _)))) ?_;rintro v2 n2 H2 ⟨rfl, hx2⟩;replace hx2 := (hext.trans (zj.put (Nat.le_refl _))).trans hx2;cases hs : p xs[i]
   ·repeat (first | refine zd (by exact z7e) ?_ | (refine OpsL.nil ?_; (change Trip _ _ _ _ _)))
    refine zdN ?_;exact ⟨.inr rfl, _, zy, by simp [zl, zaO hlt hs], hx2⟩
   ·repeat (first | refine zd (by exact z7e) ?_ | (refine OpsL.nil ?_; (change Trip _ _ _ _ _)))
    refine zck ?_;exact ⟨i + 1, ⟨_, _, _, rfl, hx2, stp, stp, stp, stp, zom, z5M hlt hall hs⟩, zom⟩
  ·repeat (first | refine zd (by exact z0y) ?_ | refine Trip.seq ?_ | refine zk ?_ | (refine Trip.exit ?_; ((repeat (refine zY ?_)); change Trip _ _ _ _ _)) | (refine Trip.ret ?_; (dsimp only)) | (refine OpsL.nil ?_; (change Trip _ _ _ _ _)))
   have hi2 : i = xs.length := by omega
   subst hi2;rw [List.take_length] at hall;exact ⟨.inr rfl, _, zy, by simp [zl, hall], hext⟩) : A := h
namespace zd7a
noncomputable section
abbrev zp0 := @Tryz.f41
abbrev zp1 := @Tryz.func41
abbrev zp2 := 43
end
end zd7a
open zd7a in
theorem ziz (W0 : World) {nx : Nat} {H : Heap} {f : FuncId} {cap : Array Value} {p : R4 → Bool} {va : Value} {xs : List R4} (hf : Am.z0O Tryz.prog f) (hx : RowsAt e4 4 H va xs) (hlen : xs.length ≤ 1000)
  (hp : ∀ (x : R4) nx1 H1, Ext nx H nx1 H1 → ACalls Tryz.prog W0 f (.agg (e4 x).toArray :: cap.toList) nx1 H1 fun v n2 H2 => v = .bool (p x) ∧ Ext nx1 H1 n2 H2) :
  ACalls Tryz.prog W0 41 [va, .func (.func f) #[] cap] nx H fun v nx' H' => v = .bool (xs.all p) ∧ Ext nx H nx' H' := zd7
namespace zd7b
noncomputable section
abbrev zp0 := @Tryz.f42
abbrev zp1 := @Tryz.func42
abbrev zp2 := 45
end
end zd7b
open zd7b in
theorem ziB (W0 : World) {nx : Nat} {H : Heap} {f : FuncId} {cap : Array Value} {p : R4 → Bool} {va : Value} {xs : List R4} (hf : Am.z0O Tryz.prog f) (hx : RowsAt e4 4 H va xs) (hlen : xs.length ≤ 1000)
  (hp : ∀ (x : R4) nx1 H1, Ext nx H nx1 H1 → ACalls Tryz.prog W0 f (.agg (e4 x).toArray :: cap.toList) nx1 H1 fun v n2 H2 => v = .bool (p x) ∧ Ext nx1 H1 n2 H2) :
  ACalls Tryz.prog W0 42 [va, .func (.func f) #[] cap] nx H fun v nx' H' => v = .bool (xs.all p) ∧ Ext nx H nx' H' := zd7
theorem ziA (W0 : World) {nx : Nat} {H : Heap} {f : FuncId} {cap : Array Value} {p : R3 → Bool} {va : Value} {xs : List R3} (hf : Am.z0O Tryz.prog f) (hx : RowsAt e3 3 H va xs) (hlen : xs.length ≤ 1000)
  (hp : ∀ (x : R3) nx1 H1, Ext nx H nx1 H1 → ACalls Tryz.prog W0 f (.agg (e3 x).toArray :: cap.toList) nx1 H1 fun v n2 H2 => v = .bool (p x) ∧ Ext nx1 H1 n2 H2) :
  ACalls Tryz.prog W0 43 [va, .func (.func f) #[] cap] nx H fun v nx' H' => v = .bool (xs.all p) ∧ Ext nx H nx' H' := by
 obtain ⟨xa, xc, rfl⟩ := hx.slice;refine zm (fn := Tryz.f43) (c := _) Tryz.func43 rfl (fun tm n hn0 htm => ?_);have e0 : tm 0 = .slice xa xs.length xc := htm 0;have e1 : tm 1 = .func (.func f) #[] cap := htm 1;clear htm;replace hn0 : n = 18 := hn0;refine Trip.ok fun hok => ?_;replace hok : ∀ id o, H id = some o → id < nx := hok;refine zaF ?_
 refine zu (fun (i : Nat) s => ∃ (tm : Nat → Value) (nx' : Nat) (H' : Heap), s = ⟨tm, n, H', nx'⟩ ∧ Ext nx H nx' H' ∧
   tm 1 = .func (.func f) #[] cap ∧ tm 7 = .slice xa xs.length xc ∧ tm 8 = .int .i64 xs.length ∧ tm 9 = .int .i64 i ∧ i ≤ xs.length ∧ (xs.take i).all p = true) (fun i => xs.length - i) 0 ?_ ?_
 ·exact ⟨_, _, _, rfl, Ext.refl, stp, stp, stp, stp, zom, rfl⟩
 ·clear e0 e1;rintro i s ⟨tm, nx', H', rfl, hext, e1, e7, e8, e9, hi, hall⟩
  repeat (first | refine zd (by exact zaH) ?_ | refine Trip.seq ?_ | refine zk ?_ | refine Trip.block ?_ | refine z1u (fun _ => ?_) (fun _ => ?_) | (refine Trip.skip ?_; (change Trip _ _ _ _ _)) | (refine OpsL.nil ?_; (change Trip _ _ _ _ _)))
  ·have hlt : i < xs.length := by omega
   obtain ⟨q, rfl, hc⟩ := zX hx hlt;replace hc := z1r hext hok hc;refine zcu ?_;refine zd (zg (k := 3) evr zxr rfl zxr hc) ?_;refine OpsL.new zsd (zD (l := rep 3 [.int .i64 0]) zxr) ?_;refine OpsL.upd (zw (k := 3) evr evr zxr rfl (o := .cells (e3 xs[i]) 0 none false (some 51)) (by simp [z5j, Heap.put, Value.cells, e3, rep, Value.oneCell'])) ?_;refine zaE ?_;refine zd (zg (k := 3) (vs := e3 xs[i]) evd zxr rfl zxr (zH zb rfl)) ?_;refine z0V (cap := cap) zsd evd evr hf (hp _ _ _ (hext.trans (zj.put (Nat.le_refl _)))) ?_;rintro v2 n2 H2 ⟨rfl, hx2⟩;replace hx2 := (hext.trans (zj.put (Nat.le_refl _))).trans hx2;cases hs : p xs[i]
   ·repeat (first | refine zd (by exact z7e) ?_ | (refine OpsL.nil ?_; (change Trip _ _ _ _ _)))
    refine zdN ?_;exact ⟨.inr rfl, _, zy, by simp [zl, zaO hlt hs], hx2⟩
   ·repeat (first | refine zd (by exact z7e) ?_ | (refine OpsL.nil ?_; (change Trip _ _ _ _ _)))
    refine zck ?_;exact ⟨i + 1, ⟨_, _, _, rfl, hx2, stp, stp, stp, stp, zom, z5M hlt hall hs⟩, zom⟩
  ·repeat (first | refine zd (by exact z0y) ?_ | refine Trip.seq ?_ | refine zk ?_ | (refine Trip.exit ?_; ((repeat (refine zY ?_)); change Trip _ _ _ _ _)) | (refine Trip.ret ?_; (dsimp only)) | (refine OpsL.nil ?_; (change Trip _ _ _ _ _)))
   have hi2 : i = xs.length := by omega
   subst hi2;rw [List.take_length] at hall;exact ⟨.inr rfl, _, zy, by simp [zl, hall], hext⟩
end Go.Proofs.YteplpegfcpmflaaGreat
namespace Go.Am
def zdT (r : R4) : R3 := (r.1, r.2.1, 0)
def zf3 (r : R4) : R3 := (r.1, r.2.1, r.2.2.1)
def zgs (r : R3) : R3 := (r.1, r.2.1, 0)
def z8s (a : Aut) : List R3 := a.opens.map zdT ++ a.closes.map zf3 ++ a.inners.map zgs
def cuV (c : R3) : Value := .agg (e3 c).toArray
structure Dist (C l : List R3) : Prop where
 nodup : C.Nodup
 all : ∀ c, c ∈ C ↔ c ∈ l
theorem Dist.old {C l : List R3} {c : R3} (h : Dist C l) (hc : c ∈ C) : Dist C (l ++ [c]) := ⟨h.nodup, fun x => by
 rw [h.all, List.mem_append, List.mem_singleton];constructor
 ·exact .inl
 ·rintro (q | rfl)
  ·exact q
  ·exact (h.all _).1 hc⟩
theorem Dist.new {C l : List R3} {c : R3} (h : Dist C l) (hc : c ∉ C) : Dist (C ++ [c]) (l ++ [c]) := ⟨by
 rw [List.nodup_append];refine ⟨h.nodup, by simp, fun x hx y hy => ?_⟩;rw [List.mem_singleton] at hy;subst hy;exact fun e => hc (e ▸ hx), fun x => by rw [List.mem_append, List.mem_append, h.all]⟩
theorem zb6 {α : Type} [DecidableEq α] : ∀ (l m : List α), l.Nodup → (∀ x ∈ l, x ∈ m) → l.length ≤ m.length := by
 intro l
 induction l with
 | nil => intro m _ _; simp
 | cons x l ih =>
  intro m hn h;obtain ⟨h1, h2⟩ := List.nodup_cons.1 hn;have hx := h x (by simp)
  have := ih (m.erase x) h2 (fun y hy => by
   have hne : y ≠ x := fun e => h1 (e ▸ hy);exact (List.mem_erase_of_ne hne).2 (h y (by simp [hy])))
  rw [List.length_erase_of_mem hx] at this;have := List.length_pos_of_mem hx;simp only [List.length_cons];omega
def zgB (l : List R3) : Nat := l.eraseDups.length
theorem z6r : ∀ (n : Nat) (l : List R3), l.length ≤ n → l.eraseDups.Nodup := by
 intro n
 induction n with
 | zero => intro l h; have : l = [] := List.eq_nil_of_length_eq_zero zom; subst this; simp
 | succ n ih =>
  intro l h;cases l with
  | nil => simp
  | cons x l =>
   rw [List.eraseDups_cons, List.nodup_cons];refine ⟨fun hm => ?_, ih _ (Nat.le_trans (List.length_filter_le _ _) (by simpa using h))⟩;rw [List.mem_eraseDups] at hm;simp at hm
theorem Dist.len {C l : List R3} (h : Dist C l) : C.length = zgB l := by
 have h2 := z6r l.length l (Nat.le_refl _);refine Nat.le_antisymm (zb6 C _ h.nodup fun x hx => ?_) (zb6 _ C h2 fun x hx => ?_)
 ·rw [List.mem_eraseDups]; exact (h.all x).1 hx
 ·rw [List.mem_eraseDups] at hx; exact (h.all x).2 hx
theorem z7q {α : Type} {f : α → R3} {l : List α} {i : Nat} (h : i < l.length) : (l.take (i + 1)).map f = (l.take i).map f ++ [f l[i]] := by
 rw [List.take_succ_eq_append_getElem h, List.map_append];rfl
end Go.Am
namespace Go.Proofs.YteplpegfcpmflaaGreat
open Go.RowKit Go.Am
attribute [local irreducible] aop OpsL Trip zI z2r OpsK OpsR
theorem z73 : Am.z0O Tryz.prog 28 := ⟨Tryz.f28, Tryz.func28, by kernel_rfl, by kernel_rfl⟩
theorem zie (H : Heap) (x y : R3) : aEq Tryz.prog H 60 112 (cuV x) (cuV y) = some (decide (x = y)) := by
 have h1 : Tryz.prog.stoodInHeld 112 = false := by kernel_rfl
 obtain ⟨a, b, c⟩ := x;obtain ⟨d, e, f⟩ := y
 have key : aEq Tryz.prog H 60 112 (cuV (a, b, c)) (cuV (d, e, f)) = some ((a == d) && ((b == e) && (c == f))) := by
  cases h : (a == d) <;> cases h2 : (b == e) <;> cases h3 : (c == f) <;> simp [cuV, Go.Am.e3, aEq, z20, z0C, z2t, h, h2, h3, h1, Tryz.underlying112, Tryz.underlying3]
 rw [key];congr 1;rw [Bool.eq_iff_iff];simp
theorem zbS {v : R3 → Value} (H : Heap) (k : R3) : ∀ (l : List R3) (i : Nat), k ∉ l → z18 Tryz.prog H 112 (cuV k) (l.map fun t => (cuV t, v t)) i = some none := by
 intro l
 induction l with
 | nil => intro i _; rfl
 | cons t l ih =>
  intro i h;simp only [List.mem_cons, not_or] at h;simp only [List.map_cons, z18, zie, decide_eq_false h.1];exact ih (i + 1) h.2
theorem zbR {v : R3 → Value} (H : Heap) (k : R3) : ∀ (l : List R3) (i : Nat), k ∈ l → ∃ j, z18 Tryz.prog H 112 (cuV k) (l.map fun t => (cuV t, v t)) i = some (some (i + j, v k)) ∧ l[j]? = some k := by
 intro l
 induction l with
 | nil => intro i h; cases h
 | cons t l ih =>
  intro i h;by_cases e : k = t
  ·subst e;exact ⟨0, by simp only [List.map_cons, z18, zie, decide_true]; rfl, rfl⟩
  ·obtain ⟨j, h1, h2⟩ := ih (i + 1) ((List.mem_cons.1 h).resolve_left e);refine ⟨j + 1, ?_, h2⟩;simp only [List.map_cons, z18, zie, decide_eq_false e];rw [h1];congr 3;omega
theorem zhs (k : R3) (H : Heap) : z1a Tryz.prog 60 112 (cuV k) = true ∧ z8h H (cuV k) = true := ⟨by kernel_rfl, by kernel_rfl⟩
theorem zhr (k : R3) : zP.veqk (cuV k) (cuV k) = true := by
 obtain ⟨a, b, c⟩ := k;simp [cuV, Go.Am.e3, zP.veqk, zP.eqs, zP.eq1]
theorem z7F {H : Heap} {m : Nat} {bs : List Nat} {clk : Nat} {C l : List R3} (hm : H m = some (.map (C.map fun t => (cuV t, .agg #[])) bs clk)) (hd : Dist C l) (k : R3) :
  ∃ C' bs' clk', Dist C' (l ++ [k]) ∧ zP Tryz.prog H 59 (.map (some m)) (cuV k) (.agg #[]) = some (.upd m (.map (C'.map fun t => (cuV t, .agg #[])) bs' clk')) := by
 obtain ⟨c1, c2⟩ := zhs k H;by_cases hk : k ∈ C
 ·obtain ⟨j, h1, h2⟩ := zbR (v := fun _ => .agg #[]) H k C 0 hk;refine ⟨C, bs, clk, hd.old hk, ?_⟩;have h3 : (C.map fun t => ((cuV t, .agg #[]) : Value × Value))[0 + j]? = some (cuV k, .agg #[]) := by rw [List.getElem?_map, Nat.zero_add, h2]; rfl
  have h4 : (C.map fun t => ((cuV t, .agg #[]) : Value × Value)).set (0 + j) (cuV k, .agg #[]) = C.map fun t => ((cuV t, .agg #[]) : Value × Value) := by
   obtain ⟨hj, he⟩ := List.getElem?_eq_some_iff.1 h3;rw [← he, List.set_getElem_self]
  unfold zP;simp only [Tryz.underlying59, hm, c1, c2, show (Tryz.prog.underlying 112).isSome = true from rfl, and_self, if_true, h1, h3, zhr, h4]
 ·refine ⟨C ++ [k], bs ++ [clk], clk + 1, hd.new hk, ?_⟩;unfold zP;simp only [Tryz.underlying59, hm, c1, c2, show (Tryz.prog.underlying 112).isSome = true from rfl, and_self, if_true, zbS (v := fun _ => .agg #[]) H k C 0 hk, List.map_append, List.map_cons, List.map_nil]
theorem zgQ (W0 : World) {nx : Nat} {H : Heap} {a : Aut} {vi vf vo vc vn : Value} (ha : AutIn H a vi vf vo vc vn) (hn : AutLen a) :
  ACalls Tryz.prog W0 28 [.agg (zz a vi vf vo vc vn).toArray] nx H fun v nx' H' => ∃ m C bs clk, v = .map (some m) ∧ H' m = some (.map (C.map fun t => (cuV t, .agg #[])) bs clk) ∧ Dist C (z8s a) ∧ Ext nx H nx' H' := by
 obtain ⟨oa, oc, rfl⟩ := ha.opens.slice;obtain ⟨ca, cc, rfl⟩ := ha.closes.slice;obtain ⟨na, nc, rfl⟩ := ha.inners.slice;refine zm (fn := Tryz.f28) (c := _) Tryz.func28 rfl (fun tm n hn0 htm => ?_);have e0 : tm 0 = .agg (zz a vi vf (.slice oa a.opens.length oc) (.slice ca a.closes.length cc) (.slice na a.inners.length nc)).toArray := htm 0;clear htm;replace hn0 : n = 59 := hn0;refine Trip.ok fun hok => ?_;replace hok : ∀ id o, H id = some o → id < nx := hok;refine z5h ?_;refine OpsL.new zsd (z0a evr) ?_;obtain ⟨G, hG⟩ : ∃ G, G = H.put nx (.cells (Value.agg (zz a vi vf (.slice oa a.opens.length oc) (.slice ca a.closes.length cc) (.slice na a.inners.length nc)).toArray).cells.toList 0 none false (some 30)) := ⟨_, rfl⟩;have hx0 : Ext nx H (nx + 1) G := by rw [hG]; exact zj
 have ok0 : ∀ id o, G id = some o → id < nx + 1 := by rw [hG]; exact zF hok
 have g0 : G nx = some (.cells (zz a vi vf (.slice oa a.opens.length oc) (.slice ca a.closes.length cc) (.slice na a.inners.length nc)) 0 none false (some 30)) := by rw [hG, zb]; rfl
 rw [← hG];clear hG e0;refine z9q ?_;refine OpsL.new zsd z2b ?_;obtain ⟨G1, hG1⟩ : ∃ G1, G1 = G.put (nx + 1) (.map [] [] 0) := ⟨_, rfl⟩;have x1 : Ext (nx + 1) G (nx + 1 + 1) G1 := by rw [hG1]; exact zj
 have ok1 : ∀ id o, G1 id = some o → id < nx + 1 + 1 := by rw [hG1]; exact zF ok0
 have gm : G1 (nx + 1) = some (.map [] [] 0) := by rw [hG1, zb]
 have g1 := (x1.2 nx zom).trans g0;rw [← hG1];clear hG1 g0;have hx1 := hx0.trans x1;have q4 := hn.opens;have q5 := hn.closes;have q6 := hn.inners;clear hx0 x1 ok0;have cl0 : zh G1 ⟨nx, 0 + 4, none⟩ (.slice oa a.opens.length oc) := by rw [Nat.zero_add]; exact ze g1 rfl
 refine zfB ?_;refine Trip.mono (Q := fun e st => e = .exit 0 ∧ ∃ (tm' : Nat → Value) (J : Heap) (m : Nat) (C : List R3) (bs : List Nat) (clk : Nat), st = ⟨tm', n, J, m⟩ ∧ nx + 1 + 1 ≤ m ∧ (∀ j, j < nx + 1 → J j = G1 j) ∧ (∀ id o, J id = some o → id < m) ∧ J (nx + 1) = some (.map (C.map fun t => (cuV t, .agg #[])) bs clk) ∧ Dist C (a.opens.map zdT) ∧ tm' 1 = .pointer (some ⟨nx, 0, none⟩) ∧ tm' 3 = .map (some (nx + 1))) ?_ ?_
 ·refine zu (fun (i : Nat) st => ∃ (tm' : Nat → Value) (J : Heap) (m : Nat) (C : List R3) (bs : List Nat) (clk : Nat), st = ⟨tm', n, J, m⟩ ∧ nx + 1 + 1 ≤ m ∧ (∀ j, j < nx + 1 → J j = G1 j) ∧ (∀ id o, J id = some o → id < m) ∧ J (nx + 1) = some (.map (C.map fun t => (cuV t, .agg #[])) bs clk) ∧ Dist C ((a.opens.take i).map zdT) ∧ tm' 1 = .pointer (some ⟨nx, 0, none⟩) ∧ tm' 3 = .map (some (nx + 1)) ∧ tm' 12 = .slice oa a.opens.length oc ∧ tm' 13 = .int .i64 (a.opens.length : Int) ∧ tm' 14 = .int .i64 (i : Int) ∧ i ≤ a.opens.length) (fun i => a.opens.length - i) 0 ?_ ?_
  ·exact ⟨_, _, _, [], [], 0, rfl, Nat.le_refl _, fun _ _ => rfl, ok1, gm, ⟨List.nodup_nil, fun c => by simp⟩, stp, stp, stp, stp, stp, Nat.zero_le _⟩
  ·skip;rintro i st ⟨tm', J, m, C, bs, clk, rfl, hm, fr, okJ, hM, hd, e1, e3, ea, el, ei, hi⟩;have gJ := (fr nx zom).trans g1;by_cases hlt : i < a.opens.length
   case neg =>
    have hie : i = a.opens.length := by omega
    subst hie;rw [List.take_length] at hd;refine z4e ?_;exact ⟨rfl, _, J, m, C, bs, clk, rfl, hm, fr, okJ, hM, hd, stp, stp⟩
   case pos =>
    obtain ⟨p, hp, gr⟩ := zX (ha.ext (⟨zom, fun j hj => (fr j zom).trans (hx1.2 j hj)⟩ : Ext nx H m J) hok).opens hlt;subst hp;have htk := z7q (f := zdT) hlt;obtain ⟨r, hr⟩ : ∃ r, a.opens[i] = r := ⟨_, rfl⟩;rw [hr] at gr htk;refine zcq ?_;refine zd (zg (k := 4) (vs := Go.Am.e4 r) evr zxr rfl zxr gr) ?_;refine OpsL.new zsd (zD (l := [.int .i64 0, .int .i64 0, .int .i64 0, .int .i64 0]) krf) ?_;refine OpsL.upd (zw (k := 4) (u := .agg (Go.Am.e4 r).toArray) evd evd zxr rfl (o := .cells (Go.Am.e4 r) 0 none false (some 43)) (zE (vs := (Go.Am.e4 r)) zb rfl rfl)) ?_;obtain ⟨G4, hG4⟩ : ∃ G0, G0 = (J.put m (.cells [.int .i64 0, .int .i64 0, .int .i64 0, .int .i64 0] 0 none false (some 43))).put m (.cells (Go.Am.e4 r) 0 none false (some 43)) := ⟨_, rfl⟩;have xG4 : Ext m J (m + 1) G4 := ⟨Nat.le_succ _, fun j hj => by rw [hG4, za zom, za zom]⟩;have kG4 : ∀ id o, G4 id = some o → id < m + 1 := by rw [hG4]; exact zV (zF okJ) zb
    have bG4 : G4 m = some (.cells (Go.Am.e4 r) 0 none false (some 43)) := by rw [hG4, zb]
    first | rw [← hG4] | skip
    clear hG4;clear gr;have c0 : zh G4 ⟨m, 0 + 0, none⟩ (.int .i64 r.1) := by rw [Nat.zero_add]; exact ze bG4 rfl
    have c1 : zh G4 ⟨m, 0 + 1, none⟩ (.int .i64 r.2.1) := by rw [Nat.zero_add]; exact ze bG4 rfl
    have hM4 := (xG4.2 (nx + 1) zom).trans hM;obtain ⟨C', bs', clk', hd', hu⟩ := z7F hM4 hd (zdT r);refine zeZ ?_;refine zd (zC (v := cuV (zdT r)) (l := [(0, .int .i64 r.1), (1, .int .i64 r.2.1)]) zep krf) ?_;refine zd (zC (v := .agg #[]) (l := []) (by simp only [z0i]) krf) ?_;refine OpsL.upd (z10 evd evd evd hu) ?_;refine zgo ?_;exact ⟨i + 1, ⟨_, _, _, C', bs', clk', rfl, zom, fun j hj => by rw [za zom, xG4.2 j zom]; exact fr j hj, zV kG4 hM4, zb, by rw [htk]; exact hd', stp, stp, stp, stp, stp, zom⟩, zom⟩
 rintro e st ⟨rfl, tm1, J1, m1, C1, bs1, clk1, rfl, hm1, fr1, ok1d, hM1, hd1, e1, e3⟩;refine z4r ?_;have g11 := (fr1 nx zom).trans g1;have cl1 : zh J1 ⟨nx, 0 + 5, none⟩ (.slice ca a.closes.length cc) := by rw [Nat.zero_add]; exact ze g11 rfl
 refine zfn ?_;refine Trip.mono (Q := fun e st => e = .exit 2 ∧ ∃ (tm' : Nat → Value) (J : Heap) (m : Nat) (C : List R3) (bs : List Nat) (clk : Nat), st = ⟨tm', n, J, m⟩ ∧ nx + 1 + 1 ≤ m ∧ (∀ j, j < nx + 1 → J j = G1 j) ∧ (∀ id o, J id = some o → id < m) ∧ J (nx + 1) = some (.map (C.map fun t => (cuV t, .agg #[])) bs clk) ∧ Dist C (a.opens.map zdT ++ a.closes.map zf3) ∧ tm' 1 = .pointer (some ⟨nx, 0, none⟩) ∧ tm' 3 = .map (some (nx + 1))) ?_ ?_
 ·refine zu (fun (i : Nat) st => ∃ (tm' : Nat → Value) (J : Heap) (m : Nat) (C : List R3) (bs : List Nat) (clk : Nat), st = ⟨tm', n, J, m⟩ ∧ nx + 1 + 1 ≤ m ∧ (∀ j, j < nx + 1 → J j = G1 j) ∧ (∀ id o, J id = some o → id < m) ∧ J (nx + 1) = some (.map (C.map fun t => (cuV t, .agg #[])) bs clk) ∧ Dist C (a.opens.map zdT ++ (a.closes.take i).map zf3) ∧ tm' 1 = .pointer (some ⟨nx, 0, none⟩) ∧ tm' 3 = .map (some (nx + 1)) ∧ tm' 27 = .slice ca a.closes.length cc ∧ tm' 28 = .int .i64 (a.closes.length : Int) ∧ tm' 29 = .int .i64 (i : Int) ∧ i ≤ a.closes.length) (fun i => a.closes.length - i) 0 ?_ ?_
  ·exact ⟨_, _, _, C1, bs1, clk1, rfl, hm1, fr1, ok1d, hM1, by simpa using hd1, stp, stp, stp, stp, stp, Nat.zero_le _⟩
  ·clear e1 e3;rintro i st ⟨tm', J, m, C, bs, clk, rfl, hm, fr, okJ, hM, hd, e1, e3, ea, el, ei, hi⟩;have gJ := (fr nx zom).trans g1;by_cases hlt : i < a.closes.length
   case neg =>
    have hie : i = a.closes.length := by omega
    subst hie;rw [List.take_length] at hd;refine z4e ?_;exact ⟨rfl, _, J, m, C, bs, clk, rfl, hm, fr, okJ, hM, hd, stp, stp⟩
   case pos =>
    obtain ⟨p, hp, gr⟩ := zX (ha.ext (⟨zom, fun j hj => (fr j zom).trans (hx1.2 j hj)⟩ : Ext nx H m J) hok).closes hlt;subst hp;have htk := z7q (f := zf3) hlt;obtain ⟨r, hr⟩ : ∃ r, a.closes[i] = r := ⟨_, rfl⟩;rw [hr] at gr htk;refine zcq ?_;refine zd (zg (k := 4) (vs := Go.Am.e4 r) evr zxr rfl zxr gr) ?_;refine OpsL.new zsd (zD (l := [.int .i64 0, .int .i64 0, .int .i64 0, .int .i64 0]) krf) ?_;refine OpsL.upd (zw (k := 4) (u := .agg (Go.Am.e4 r).toArray) evd evd zxr rfl (o := .cells (Go.Am.e4 r) 0 none false (some 45)) (zE (vs := (Go.Am.e4 r)) zb rfl rfl)) ?_;obtain ⟨G4, hG4⟩ : ∃ G0, G0 = (J.put m (.cells [.int .i64 0, .int .i64 0, .int .i64 0, .int .i64 0] 0 none false (some 45))).put m (.cells (Go.Am.e4 r) 0 none false (some 45)) := ⟨_, rfl⟩;have xG4 : Ext m J (m + 1) G4 := ⟨Nat.le_succ _, fun j hj => by rw [hG4, za zom, za zom]⟩;have kG4 : ∀ id o, G4 id = some o → id < m + 1 := by rw [hG4]; exact zV (zF okJ) zb
    have bG4 : G4 m = some (.cells (Go.Am.e4 r) 0 none false (some 45)) := by rw [hG4, zb]
    first | rw [← hG4] | skip
    clear hG4;clear gr;have c0 : zh G4 ⟨m, 0 + 0, none⟩ (.int .i64 r.1) := by rw [Nat.zero_add]; exact ze bG4 rfl
    have c1 : zh G4 ⟨m, 0 + 1, none⟩ (.int .i64 r.2.1) := by rw [Nat.zero_add]; exact ze bG4 rfl
    have c2 : zh G4 ⟨m, 0 + 2, none⟩ (.int .i64 r.2.2.1) := by rw [Nat.zero_add]; exact ze bG4 rfl
    have hM4 := (xG4.2 (nx + 1) zom).trans hM;obtain ⟨C', bs', clk', hd', hu⟩ := z7F hM4 hd (zf3 r);refine zeZ ?_;refine zd (zC (v := cuV (zf3 r)) (l := [(0, .int .i64 r.1), (1, .int .i64 r.2.1), (2, .int .i64 r.2.2.1)]) zep krf) ?_;refine zd (zC (v := .agg #[]) (l := []) (by simp only [z0i]) krf) ?_;refine OpsL.upd (z10 evd evd evd hu) ?_;refine zgo ?_;exact ⟨i + 1, ⟨_, _, _, C', bs', clk', rfl, zom, fun j hj => by rw [za zom, xG4.2 j zom]; exact fr j hj, zV kG4 hM4, zb, by rw [htk, ← List.append_assoc]; exact hd', stp, stp, stp, stp, stp, zom⟩, zom⟩
 rintro e st ⟨rfl, tm2, J2, m2, C2, bs2, clk2, rfl, hm2, fr2, ok2d, hM2, hd2, e1, e3⟩;refine z4r ?_;have g12 := (fr2 nx zom).trans g1;have cl2 : zh J2 ⟨nx, 0 + 6, none⟩ (.slice na a.inners.length nc) := by rw [Nat.zero_add]; exact ze g12 rfl
 refine zfn ?_;refine Trip.mono (Q := fun e st => e = .exit 4 ∧ ∃ (tm' : Nat → Value) (J : Heap) (m : Nat) (C : List R3) (bs : List Nat) (clk : Nat), st = ⟨tm', n, J, m⟩ ∧ nx + 1 + 1 ≤ m ∧ (∀ j, j < nx + 1 → J j = G1 j) ∧ (∀ id o, J id = some o → id < m) ∧ J (nx + 1) = some (.map (C.map fun t => (cuV t, .agg #[])) bs clk) ∧ Dist C (a.opens.map zdT ++ a.closes.map zf3 ++ a.inners.map zgs) ∧ tm' 1 = .pointer (some ⟨nx, 0, none⟩) ∧ tm' 3 = .map (some (nx + 1))) ?_ ?_
 ·refine zu (fun (i : Nat) st => ∃ (tm' : Nat → Value) (J : Heap) (m : Nat) (C : List R3) (bs : List Nat) (clk : Nat), st = ⟨tm', n, J, m⟩ ∧ nx + 1 + 1 ≤ m ∧ (∀ j, j < nx + 1 → J j = G1 j) ∧ (∀ id o, J id = some o → id < m) ∧ J (nx + 1) = some (.map (C.map fun t => (cuV t, .agg #[])) bs clk) ∧ Dist C (a.opens.map zdT ++ a.closes.map zf3 ++ (a.inners.take i).map zgs) ∧ tm' 1 = .pointer (some ⟨nx, 0, none⟩) ∧ tm' 3 = .map (some (nx + 1)) ∧ tm' 44 = .slice na a.inners.length nc ∧ tm' 45 = .int .i64 (a.inners.length : Int) ∧ tm' 46 = .int .i64 (i : Int) ∧ i ≤ a.inners.length) (fun i => a.inners.length - i) 0 ?_ ?_
  ·exact ⟨_, _, _, C2, bs2, clk2, rfl, hm2, fr2, ok2d, hM2, by simpa using hd2, stp, stp, stp, stp, stp, Nat.zero_le _⟩
  ·clear e1 e3;rintro i st ⟨tm', J, m, C, bs, clk, rfl, hm, fr, okJ, hM, hd, e1, e3, ea, el, ei, hi⟩;have gJ := (fr nx zom).trans g1;by_cases hlt : i < a.inners.length
   case neg =>
    have hie : i = a.inners.length := by omega
    subst hie;rw [List.take_length] at hd;refine z4e ?_;exact ⟨rfl, _, J, m, C, bs, clk, rfl, hm, fr, okJ, hM, hd, stp, stp⟩
   case pos =>
    obtain ⟨p, hp, gr⟩ := zX (ha.ext (⟨zom, fun j hj => (fr j zom).trans (hx1.2 j hj)⟩ : Ext nx H m J) hok).inners hlt;subst hp;have htk := z7q (f := zgs) hlt;obtain ⟨r, hr⟩ : ∃ r, a.inners[i] = r := ⟨_, rfl⟩;rw [hr] at gr htk;refine zcq ?_;refine zd (zg (k := 3) (vs := Go.Am.e3 r) evr zxr rfl zxr gr) ?_;refine OpsL.new zsd (zD (l := [.int .i64 0, .int .i64 0, .int .i64 0]) krf) ?_;refine OpsL.upd (zw (k := 3) (u := .agg (Go.Am.e3 r).toArray) evd evd zxr rfl (o := .cells (Go.Am.e3 r) 0 none false (some 51)) (zE (vs := (Go.Am.e3 r)) zb rfl rfl)) ?_;obtain ⟨G4, hG4⟩ : ∃ G0, G0 = (J.put m (.cells [.int .i64 0, .int .i64 0, .int .i64 0] 0 none false (some 51))).put m (.cells (Go.Am.e3 r) 0 none false (some 51)) := ⟨_, rfl⟩;have xG4 : Ext m J (m + 1) G4 := ⟨Nat.le_succ _, fun j hj => by rw [hG4, za zom, za zom]⟩;have kG4 : ∀ id o, G4 id = some o → id < m + 1 := by rw [hG4]; exact zV (zF okJ) zb
    have bG4 : G4 m = some (.cells (Go.Am.e3 r) 0 none false (some 51)) := by rw [hG4, zb]
    first | rw [← hG4] | skip
    clear hG4;clear gr;have c0 : zh G4 ⟨m, 0 + 0, none⟩ (.int .i64 r.1) := by rw [Nat.zero_add]; exact ze bG4 rfl
    have c1 : zh G4 ⟨m, 0 + 1, none⟩ (.int .i64 r.2.1) := by rw [Nat.zero_add]; exact ze bG4 rfl
    have hM4 := (xG4.2 (nx + 1) zom).trans hM;obtain ⟨C', bs', clk', hd', hu⟩ := z7F hM4 hd (zgs r);refine zeZ ?_;refine zd (zC (v := cuV (zgs r)) (l := [(0, .int .i64 r.1), (1, .int .i64 r.2.1)]) zep krf) ?_;refine zd (zC (v := .agg #[]) (l := []) (by simp only [z0i]) krf) ?_;refine OpsL.upd (z10 evd evd evd hu) ?_;refine zgo ?_;exact ⟨i + 1, ⟨_, _, _, C', bs', clk', rfl, zom, fun j hj => by rw [za zom, xG4.2 j zom]; exact fr j hj, zV kG4 hM4, zb, by rw [htk, ← List.append_assoc]; exact hd', stp, stp, stp, stp, stp, zom⟩, zom⟩
 rintro e st ⟨rfl, tm3, J3, m3, C3, bs3, clk3, rfl, hm3, fr3, ok3d, hM3, hd3, e1, e3⟩;refine z4r ?_;have hx3 : Ext nx H m3 J3 := ⟨zom, fun j hj => (fr3 j zom).trans (hx1.2 j hj)⟩;refine zcr ?_;exact ⟨.inr rfl, _, zy, nx + 1, C3, bs3, clk3, stp, hM3, hd3, hx3⟩
end Go.Proofs.YteplpegfcpmflaaGreat
