import Derived.Test.YtjgbcpagfghfnaaQYM19
import Derived.Test.YtjgbcpagfghfnaaQYM14
set_option linter.unusedVariables false
set_option linter.unusedSimpArgs false
namespace Go.Am
open Go.RowKit
def z2i (o : List Int) (c : Int) : List Int := ((List.range o.length).filter fun p => decide (o.getD p 0 = c)).map fun (p : Nat) => (p : Int)
theorem z5X {α : Type} {l : List α} {x d : α} {i : Nat} (h : i < l.length) : (l ++ [x]).getD i d = l.getD i d := by
 rw [List.getD_eq_getElem?_getD, List.getD_eq_getElem?_getD, List.getElem?_append_left h]
theorem z5Y {α : Type} {l : List α} {x d : α} : (l ++ [x]).getD l.length d = x := by
 rw [List.getD_eq_getElem?_getD, List.getElem?_append_right (Nat.le_refl _)];simp
theorem z8T (o : List Int) (x c : Int) : z2i (o ++ [x]) c = if x = c then z2i o c ++ [(o.length : Int)] else z2i o c := by
 have h1 : ((List.range o.length).filter fun p => decide ((o ++ [x]).getD p 0 = c)) = (List.range o.length).filter fun p => decide (o.getD p 0 = c) := by
  apply List.filter_congr;intro p hp;rw [z5X (List.mem_range.1 hp)]
 unfold z2i;rw [List.length_append, List.length_singleton, List.range_succ, List.filter_append, List.map_append, h1];simp only [List.filter_cons, List.filter_nil, z5Y, decide_eq_true_eq];split <;> simp
theorem zdE {o : List Int} {c x : Int} (h : x ∈ z2i o c) : 0 ≤ x ∧ x < o.length ∧ o.getD x.toNat 0 = c := by
 unfold z2i at h;rw [List.mem_map] at h;obtain ⟨p, hp, rfl⟩ := h;rw [List.mem_filter, List.mem_range, decide_eq_true_eq] at hp;exact ⟨by omega, by omega, by rw [Int.toNat_natCast]; exact hp.2⟩
theorem zeY {o : List Int} {c : Int} {p : Nat} (hp : p < o.length) (h : o.getD p 0 = c) : z2i o c ≠ [] := by
 intro e
 have : (p : Int) ∈ z2i o c := by
  unfold z2i;rw [List.mem_map];exact ⟨p, by rw [List.mem_filter, List.mem_range, decide_eq_true_eq]; exact ⟨hp, h⟩, rfl⟩
 rw [e] at this;cases this
theorem z6g (o : List Int) (c : Int) : (z2i o c).length ≤ o.length := by
 unfold z2i;rw [List.length_map];refine Nat.le_trans (List.length_filter_le _ _) ?_;simp
def z0t (ns : List Int) (L : Nat → List Int) (cnt m : Nat) : List Int := (List.range m).map fun i => (L i).getD (z6f ns (cnt + i + 1) (L i).length).toNat 0
theorem z3b (ns : List Int) (L : Nat → List Int) (cnt m : Nat) : z0t ns L cnt (m + 1) = z0t ns L cnt m ++ [(L m).getD (z6f ns (cnt + m + 1) (L m).length).toNat 0] := by
 unfold z0t;rw [List.range_succ, List.map_append];rfl
theorem z0U (ns : List Int) (L : Nat → List Int) (cnt m : Nat) : (z0t ns L cnt m).length = m := by simp [z0t]
theorem zar (ns : List Int) (L : Nat → List Int) (cnt : Nat) {m i : Nat} (h : i < m) : (z0t ns L cnt m).getD i 0 = (L i).getD (z6f ns (cnt + i + 1) (L i).length).toNat 0 := by
 unfold z0t;rw [List.getD_eq_getElem?_getD, List.getElem?_map, List.getElem?_range h];rfl
theorem ze3 {α : Type} {l : List α} {d : α} {i : Nat} (h : i < l.length) : l.getD i d ∈ l := by
 rw [List.getD_eq_getElem?_getD, List.getElem?_eq_getElem h];exact List.getElem_mem h
theorem zaq (ns : List Int) (L : Nat → List Int) (cnt : Nat) {m i : Nat} (h : i < m) (hL : L i ≠ []) : (z0t ns L cnt m).getD i 0 ∈ L i := by
 rw [zar _ _ _ h];have hl : 0 < (L i).length := List.length_pos_iff.2 hL;have := z4R ns (cnt + i + 1) (m := (L i).length) (by omega);exact ze3 (by omega)
def l1F (ns : List Int) (k : Nat) : Nat → Nat × List Int × List Bool
 | 0 => (0, [], [])
 | i + 1 =>
  let s := l1F ns k i
  let n1 := if i < k then s.1 else s.1 + 1
  (n1 + 1, s.2.1 ++ [if i < k then (i : Int) else z6f ns (s.1 + 1) k], s.2.2 ++ [decide (z6f ns (n1 + 1) 3 = 0)])
theorem z4Q (ns : List Int) (k : Nat) : ∀ i, (l1F ns k i).2.1.length = i ∧ (l1F ns k i).2.2.length = i ∧ (l1F ns k i).1 ≤ 2 * i
 | 0 => ⟨rfl, rfl, Nat.le_refl _⟩
 | i + 1 => by
  obtain ⟨h1, h2, h3⟩ := z4Q ns k i;refine ⟨by simp [l1F, h1], by simp [l1F, h2], ?_⟩;simp only [l1F];split <;> omega
theorem za8 (ns : List Int) {k : Nat} (hk : 0 < k) : ∀ i p, p < i → (0 ≤ (l1F ns k i).2.1.getD p 0 ∧ (l1F ns k i).2.1.getD p 0 < k) ∧ (p < k → (l1F ns k i).2.1.getD p 0 = p)
 | 0, p, h => by omega
 | i + 1, p, h => by
  have hl := (z4Q ns k i).1;by_cases hp : p < i
  ·have := za8 ns hk i p hp;simp only [l1F];rw [z5X (by omega)];exact this
  ·have e : p = (l1F ns k i).2.1.length := by omega
   have hg := z4R ns ((l1F ns k i).1 + 1) (m := (k : Int)) (by omega);simp only [l1F];rw [e, z5Y];split
   ·exact ⟨by omega, fun _ => by omega⟩
   ·exact ⟨hg, fun _ => by omega⟩
def zcb (o : List Int) (pl cl n c0 : Nat) : Nat → Nat
 | 0 => c0
 | p + 1 => zcb o pl cl n c0 p + pl + (if o.getD p 0 = 0 then cl else cl * n)
theorem zcF (o : List Int) {pl cl n : Nat} (c0 : Nat) (h1 : pl ≤ 2) (h2 : cl ≤ 2) (h3 : n ≤ 8) (h4 : 1 ≤ n) : ∀ p, zcb o pl cl n c0 p ≤ c0 + 18 * p
 | 0 => Nat.le_refl _
 | p + 1 => by
  have := zcF o c0 h1 h2 h3 h4 p;have h5 : cl * n ≤ 16 := Nat.le_trans (Nat.mul_le_mul h2 h3) (by decide);simp only [zcb];split <;> omega
structure MkP where
 pl : Nat
 cl : Nat
 k : Nat
 n : Nat
def mkP (size : Int) : MkP := ⟨(size % 3).toNat, (size.tdiv 3 % 3).toNat, (1 + size.tdiv 9 % 3).toNat, (1 + size.tdiv 9 % 3 + size.tdiv 27 % 6).toNat⟩
structure MkP.ok (q : MkP) : Prop where
 pl : q.pl ≤ 2
 cl : q.cl ≤ 2
 k1 : 1 ≤ q.k
 k3 : q.k ≤ 3
 n1 : q.k ≤ q.n
 n8 : q.n ≤ 8
theorem zck (size : Int) : (mkP size).ok := by
 have a1 := Int.emod_nonneg size (show (3 : Int) ≠ 0 by omega);have a2 := Int.emod_lt_of_pos size (show (0 : Int) < 3 by omega);have b1 := Int.emod_nonneg (size.tdiv 3) (show (3 : Int) ≠ 0 by omega);have b2 := Int.emod_lt_of_pos (size.tdiv 3) (show (0 : Int) < 3 by omega);have c1 := Int.emod_nonneg (size.tdiv 9) (show (3 : Int) ≠ 0 by omega);have c2 := Int.emod_lt_of_pos (size.tdiv 9) (show (0 : Int) < 3 by omega);have d1 := Int.emod_nonneg (size.tdiv 27) (show (6 : Int) ≠ 0 by omega);have d2 := Int.emod_lt_of_pos (size.tdiv 27) (show (0 : Int) < 6 by omega);exact ⟨by simp only [mkP]; omega, by simp only [mkP]; omega, by simp only [mkP]; omega, by simp only [mkP]; omega, by simp only [mkP]; omega, by simp only [mkP]; omega⟩
def zfv (ns : List Int) (q : MkP) (o : List Int) (c2 p : Nat) : List Int := z0t ns (fun _ => z2i o (o.getD p 0)) (zcb o q.pl q.cl q.n c2 p) q.pl
def zfK (ns : List Int) (q : MkP) (o : List Int) (c2 p : Nat) : List Int := if o.getD p 0 = 0 then z0t ns (fun _ => z2i o (o.getD p 0)) (zcb o q.pl q.cl q.n c2 p + q.pl) q.cl else []
def zbY (ns : List Int) (q : MkP) (o : List Int) (c3 j : Nat) : List Int := z0t ns (fun x => z2i o (o.getD x 0)) (c3 + j * q.n) q.n
def zfJ (ns : List Int) (q : MkP) (o : List Int) (c2 p : Nat) : List (List Int) := if o.getD p 0 = 0 then [] else (List.range q.cl).map fun j => zbY ns q o (zcb o q.pl q.cl q.n c2 p + q.pl) j
def z26 (ns : List Int) (q : MkP) : Mo :=
 let s := l1F ns q.k q.n
 ⟨q.pl, q.cl, s.2.1, z0t ns (fun c => z2i s.2.1 c) s.1 q.k, s.2.2, (List.range q.n).map (zfv ns q s.2.1 (s.1 + q.k)), (List.range q.n).map (zfK ns q s.2.1 (s.1 + q.k)), (List.range q.n).map (zfJ ns q s.2.1 (s.1 + q.k))⟩
def z8F (size : Int) (ns : List Int) : Mo := z26 ns (mkP size)
theorem z0x {α : Type} {f : Nat → α} {d : α} {n i : Nat} (h : i < n) : ((List.range n).map f).getD i d = f i := by
 rw [List.getD_eq_getElem?_getD, List.getElem?_map, List.getElem?_range h];rfl
section
variable {ns : List Int} {q : MkP} (hq : q.ok)
include hq
theorem z6m (p : Nat) (hp : p < q.n) : (0 ≤ (z26 ns q).of.getD p 0 ∧ (z26 ns q).of.getD p 0 < q.k) ∧ (p < q.k → (z26 ns q).of.getD p 0 = p) := za8 ns (by have := hq.k1; omega) q.n p hp
omit hq in
theorem z93 : (z26 ns q).of.length = q.n := (z4Q ns q.k q.n).1
theorem z6K (c : Int) (h0 : 0 ≤ c) (h1 : c < q.k) : z2i (z26 ns q).of c ≠ [] := by
 have hk := hq.n1;refine zeY (p := c.toNat) (by rw [z93]; omega) ?_;rw [(z6m hq c.toNat (by omega)).2 (by omega)];omega
omit hq in
theorem zdT {x c : Int} (h : x ∈ z2i (z26 ns q).of c) : inF (z26 ns q) x c = true := by
 obtain ⟨h1, h2, h3⟩ := zdE h;exact decide_eq_true ⟨⟨h1, by omega⟩, h3⟩
theorem z4A {L : Nat → List Int} {cnt m i : Nat} {c : Int} (hi : i < m) (hL : L i = z2i (z26 ns q).of c) (h0 : 0 ≤ c) (h1 : c < q.k) : inF (z26 ns q) ((z0t ns L cnt m).getD i 0) c = true := by
 have := zaq ns L cnt hi (by rw [hL]; exact z6K hq c h0 h1);rw [hL] at this;exact zdT this
theorem zdS : z65 (z26 ns q) = true := by
 have hl : (z26 ns q).of.length = q.n := z93;have he : (z26 ns q).entry.length = q.k := z0U _ _ _ _;have hf : (z26 ns q).final.length = q.n := (z4Q ns q.k q.n).2.1;have hi : (z26 ns q).inn.length = q.n := by simp [z26]
 have hw : (z26 ns q).low.length = q.n := by simp [z26]
 have hr : (z26 ns q).ret.length = q.n := by simp [z26]
 have hp : (z26 ns q).plains = q.pl := rfl;have hc : (z26 ns q).closings = q.cl := rfl;obtain ⟨z1, z2, z3, z4, z5, z6⟩ := hq;have hq : q.ok := ⟨z1, z2, z3, z4, z5, z6⟩;unfold z65;rw [Bool.and_eq_true, Bool.and_eq_true];refine ⟨⟨decide_eq_true (by rw [hl, he, hf, hi, hw, hr, hp, hc]; omega), ?_⟩, z0J.2 fun p hp => ?_⟩
 ·unfold z1C;rw [Bool.and_eq_true];refine ⟨z0J.2 fun p hp => ?_, z0J.2 fun c hc => ?_⟩
  ·rw [hl] at hp;have := (z6m (ns := ns) hq p hp).1;rw [decide_eq_true_eq, he];omega
  ·rw [he] at hc;exact z4A hq (L := fun c => z2i (l1F ns q.k q.n).2.1 c) hc rfl (by omega) (by omega)
 ·rw [hl] at hp;have ho := (z6m (ns := ns) hq p hp).1;have hin : (z26 ns q).inn.getD p [] = zfv ns q (z26 ns q).of ((l1F ns q.k q.n).1 + q.k) p := z0x hp;have hlo : (z26 ns q).low.getD p [] = zfK ns q (z26 ns q).of ((l1F ns q.k q.n).1 + q.k) p := z0x hp;have hre : (z26 ns q).ret.getD p [] = zfJ ns q (z26 ns q).of ((l1F ns q.k q.n).1 + q.k) p := z0x hp;unfold z29;rw [Bool.and_eq_true, Bool.and_eq_true];refine ⟨⟨?_, ?_⟩, ?_⟩
  ·unfold zbZ;rw [hin, Bool.and_eq_true];refine ⟨decide_eq_true (by unfold zfv; rw [z0U]; rfl), z0J.2 fun i hi => ?_⟩;unfold zfv at hi ⊢;rw [z0U] at hi;exact z4A hq hi rfl ho.1 ho.2
  ·unfold zbk;rw [hlo];unfold zfK;split
   ·rename_i h0;rw [Bool.and_eq_true];refine ⟨decide_eq_true (by rw [z0U]; rfl), z0J.2 fun i hi => ?_⟩;rw [z0U] at hi;exact z4A hq hi (by rw [h0]) (by omega) (by omega)
   ·exact decide_eq_true rfl
  ·unfold zbj;rw [hre];unfold zfJ;split
   ·exact decide_eq_true rfl
   ·rw [Bool.and_eq_true];refine ⟨decide_eq_true (by rw [List.length_map, List.length_range]; rfl), z0J.2 fun j hj => ?_⟩;rw [List.length_map, List.length_range] at hj;rw [z0x hj];unfold z9S zbY;rw [z0U, Bool.and_eq_true];refine ⟨decide_eq_true (by rw [hl]), z0J.2 fun x hx => ?_⟩;have hx2 := (z6m (ns := ns) hq x hx).1;exact z4A hq hx rfl hx2.1 hx2.2
end
end Go.Am
namespace Go.Am
open Go.RowKit
def OldC (σ0 σ : CH) : Prop := σ0.nx ≤ σ.nx ∧ ∀ i, i < σ0.nx → σ.C i = .old ∧ σ.H i = σ0.H i
theorem OldC.keep {S : List Co} {σ0 σ τ : CH} (h : Chg S σ τ) (hc : Co.old ∉ S) (ho : OldC σ0 σ) : OldC σ0 τ :=
 ⟨Nat.le_trans ho.1 h.1, fun i hi => by
  obtain ⟨q1, q2⟩ := ho.2 i hi;have hi' := Nat.lt_of_lt_of_le hi ho.1;exact ⟨(h.hue hi').trans q1, (h.same hc hi' q1).trans q2⟩⟩
theorem OldC.ext {σ0 σ : CH} (h : OldC σ0 σ) : Ext σ0.nx σ0.H σ.nx σ.H := ⟨h.1, fun i hi => (h.2 i hi).2⟩
structure MkX where
 A : Nat
 B : Nat
 a4 : Nat
 nv : Value
 tv : Value
 ns : List Int
 pl : Int
 cl : Int
structure MkD where
 cnt : Nat
 L : List Int
 E : List Int
 T : List (List Int)
 f : List Bool
 I : List (List Int)
 W : List (List Int)
 R : List (List (List Int))
def moC (pl cl : Int) (V : MoV) : List Value := [.int .i64 pl, .int .i64 cl, V.o, V.e, V.f, V.i, V.l, V.r]
def zdv (D : MkD) : Co → Prop
 | .inn1 p => D.I.length ≤ p
 | .low1 p => D.W.length ≤ p
 | .ret1 p => D.R.length ≤ p
 | .ret2 p _ => D.R.length ≤ p
 | _ => False
end Go.Am
namespace Go.Proofs.Ytjgbcpagfghfnaa
open Go.Am Go.RowKit
abbrev RowI (c : Co) (σ : CH) (v : Value) (l : List Int) : Prop := OwnC z1L 3 c σ v l
abbrev Row2 (d : Nat → Co) (c : Co) (σ : CH) (v : Value) (l : List (List Int)) : Prop := OwnLC (fun p => RowI (d p)) 22 c σ v l
abbrev Row3 (σ : CH) (v : Value) (l : List (List (List Int))) : Prop := OwnLC (fun p => Row2 (.ret2 p) (.ret1 p)) 26 .ret σ v l
def z4q (pl cl : Int) (V : MoV) : AObj := .cells (moC pl cl V) 0 none false (some 29)
def TabC (σ : CH) (tv : Value) (T : List (List Int)) : Prop := ∃ vs : List SV, PlainC 22 .table σ tv (vs.map slV) ∧ AllC (fun c => RowI (.tab c)) σ vs T
structure MkS (σ0 σ : CH) (X : MkX) (D : MkD) (V : MoV) : Prop where
 old : OldC σ0 σ
 a : ObC .self σ X.A (z4q X.pl X.cl V)
 b : ObC .next σ X.B (za1 X.nv D.cnt)
 r : ∃ cs, cs.length = 8 ∧ ObC .tmp σ X.a4 (.cells cs 0 none false (some 29))
 n : IntsC .old σ X.nv X.ns
 of : PlainC 3 .of σ V.o (D.L.map (.int .i64 ·))
 en : PlainC 3 .entry σ V.e (D.E.map (.int .i64 ·))
 tb : TabC σ X.tv D.T
 fi : OwnC z3v 4 .final σ V.f D.f
 inn : Row2 .inn1 .inn σ V.i D.I
 low : Row2 .low1 .low σ V.l D.W
 ret : Row3 σ V.r D.R
theorem zm {S : List Co} {σ τ : CH} {c : Co} {v : Value} {l : List Int} (h : Chg S σ τ) (hc : c ∉ S) (ho : RowI c σ v l) : RowI c τ v l := OwnC.keep h hc ho
theorem ze {S : List Co} {σ τ : CH} {d : Nat → Co} {c : Co} {v : Value} {l : List (List Int)} (h : Chg S σ τ) (hc : c ∉ S) (hd : ∀ p, p < l.length → d p ∉ S) (ho : Row2 d c σ v l) : Row2 d c τ v l := OwnLC.keep h hc (fun i _ _ hi hr => hr.keep h (hd i hi)) ho
theorem zN {S : List Co} {σ τ : CH} {v : Value} {l : List (List (List Int))} (h : Chg S σ τ) (hc : Co.ret ∉ S) (hd : ∀ p, p < l.length → Co.ret1 p ∉ S) (he : ∀ p j, p < l.length → Co.ret2 p j ∉ S) (ho : Row3 σ v l) : Row3 τ v l :=
 OwnLC.keep h hc (fun i _ _ hi hr => ze h (hd i hi) (fun j _ => he i j hi) hr) ho
theorem TabC.keep {S : List Co} {σ τ : CH} {tv : Value} {T : List (List Int)} (h : Chg S σ τ) (hc : Co.table ∉ S) (hd : ∀ p, p < T.length → Co.tab p ∉ S) (ho : TabC σ tv T) : TabC τ tv T := by
 obtain ⟨vs, h1, h2⟩ := ho;exact ⟨vs, h1.keep h hc, h2.keep fun i _ _ hi hr => hr.keep h (hd i hi)⟩
section
variable {σ0 σ τ : CH} {X : MkX} {D : MkD} {V : MoV} {S : List Co}
theorem MkS.loc (h : MkS σ0 σ X D V) (hc : Chg S σ τ) (hS : ∀ c ∈ S, zdv D c) : MkS σ0 τ X D V := ⟨(h.old.keep hc (fun q => hS _ q)), (h.a.keep hc (fun q => hS _ q)), (h.b.keep hc (fun q => hS _ q)), (by obtain ⟨cs, q1, q2⟩ := h.r; exact ⟨cs, q1, q2.keep hc (fun q => hS _ q)⟩), (h.n.keep hc (fun q => hS _ q)), (h.of.keep hc (fun q => hS _ q)), (h.en.keep hc (fun q => hS _ q)), (h.tb.keep hc (fun q => hS _ q) (fun p hp => fun q => (hS _ q))), (h.fi.keep hc (fun q => hS _ q)), (ze hc (fun q => hS _ q) (fun p hp => fun q => absurd (hS _ q) (by simp [zdv]; omega)) h.inn), (ze hc (fun q => hS _ q) (fun p hp => fun q => absurd (hS _ q) (by simp [zdv]; omega)) h.low), (zN hc (fun q => hS _ q) (fun p hp => fun q => absurd (hS _ q) (by simp [zdv]; omega)) (fun p j hp => fun q => absurd (hS _ q) (by simp [zdv]; omega)) h.ret)⟩
theorem MkS.next (h : MkS σ0 σ X D V) (hc : Chg [.next] σ τ) (hb : ObC .next τ X.B (za1 X.nv (D.cnt + 1))) : MkS σ0 τ X { D with cnt := D.cnt + 1 } V := ⟨(h.old.keep hc (by simp)), (h.a.keep hc (by simp)), hb, (by obtain ⟨cs, q1, q2⟩ := h.r; exact ⟨cs, q1, q2.keep hc (by simp)⟩), (h.n.keep hc (by simp)), (h.of.keep hc (by simp)), (h.en.keep hc (by simp)), (h.tb.keep hc (by simp) (fun p hp => by simp)), (h.fi.keep hc (by simp)), (ze hc (by simp) (fun p hp => by simp) h.inn), (ze hc (by simp) (fun p hp => by simp) h.low), (zN hc (by simp) (fun p hp => by simp) (fun p j hp => by simp) h.ret)⟩
theorem MkS.setOf (h : MkS σ0 σ X D V) (hc : Chg [.of] σ τ) {L : List Int} (ho : PlainC 3 .of τ V.o (L.map (.int .i64 ·))) : MkS σ0 τ X { D with L := L } V := ⟨(h.old.keep hc (by simp)), (h.a.keep hc (by simp)), (h.b.keep hc (by simp)), (by obtain ⟨cs, q1, q2⟩ := h.r; exact ⟨cs, q1, q2.keep hc (by simp)⟩), (h.n.keep hc (by simp)), ho, (h.en.keep hc (by simp)), (h.tb.keep hc (by simp) (fun p hp => by simp)), (h.fi.keep hc (by simp)), (ze hc (by simp) (fun p hp => by simp) h.inn), (ze hc (by simp) (fun p hp => by simp) h.low), (zN hc (by simp) (fun p hp => by simp) (fun p j hp => by simp) h.ret)⟩
theorem MkS.setEn (h : MkS σ0 σ X D V) (hc : Chg [.entry] σ τ) {E : List Int} (ho : PlainC 3 .entry τ V.e (E.map (.int .i64 ·))) : MkS σ0 τ X { D with E := E } V := ⟨(h.old.keep hc (by simp)), (h.a.keep hc (by simp)), (h.b.keep hc (by simp)), (by obtain ⟨cs, q1, q2⟩ := h.r; exact ⟨cs, q1, q2.keep hc (by simp)⟩), (h.n.keep hc (by simp)), (h.of.keep hc (by simp)), ho, (h.tb.keep hc (by simp) (fun p hp => by simp)), (h.fi.keep hc (by simp)), (ze hc (by simp) (fun p hp => by simp) h.inn), (ze hc (by simp) (fun p hp => by simp) h.low), (zN hc (by simp) (fun p hp => by simp) (fun p j hp => by simp) h.ret)⟩
theorem MkS.setTb {c : Nat} (h : MkS σ0 σ X D V) (hc : Chg [.tab c, .table] σ τ) {T : List (List Int)} (ho : TabC τ X.tv T) : MkS σ0 τ X { D with T := T } V := ⟨(h.old.keep hc (by simp)), (h.a.keep hc (by simp)), (h.b.keep hc (by simp)), (by obtain ⟨cs, q1, q2⟩ := h.r; exact ⟨cs, q1, q2.keep hc (by simp)⟩), (h.n.keep hc (by simp)), (h.of.keep hc (by simp)), (h.en.keep hc (by simp)), ho, (h.fi.keep hc (by simp)), (ze hc (by simp) (fun p hp => by simp) h.inn), (ze hc (by simp) (fun p hp => by simp) h.low), (zN hc (by simp) (fun p hp => by simp) (fun p j hp => by simp) h.ret)⟩
theorem MkS.setFi (h : MkS σ0 σ X D V) (hc : Chg [.final, .self] σ τ) {f : List Bool} {v : Value} (ho : OwnC z3v 4 .final τ v f) (ha : ObC .self τ X.A (z4q X.pl X.cl { V with f := v })) : MkS σ0 τ X { D with f := f } { V with f := v } := ⟨(h.old.keep hc (by simp)), ha, (h.b.keep hc (by simp)), (by obtain ⟨cs, q1, q2⟩ := h.r; exact ⟨cs, q1, q2.keep hc (by simp)⟩), (h.n.keep hc (by simp)), (h.of.keep hc (by simp)), (h.en.keep hc (by simp)), (h.tb.keep hc (by simp) (fun p hp => by simp)), ho, (ze hc (by simp) (fun p hp => by simp) h.inn), (ze hc (by simp) (fun p hp => by simp) h.low), (zN hc (by simp) (fun p hp => by simp) (fun p j hp => by simp) h.ret)⟩
end
structure MkO (σ : CH) (m : Mo) (V : MoV) : Prop where
 of : PlainC 3 .of σ V.o (m.of.map (.int .i64 ·))
 en : PlainC 3 .entry σ V.e (m.entry.map (.int .i64 ·))
 fi : OwnC z3v 4 .final σ V.f m.final
 inn : Row2 .inn1 .inn σ V.i m.inn
 low : Row2 .low1 .low σ V.l m.low
 ret : Row3 σ V.r m.ret
end Go.Proofs.Ytjgbcpagfghfnaa
namespace Go.Am
open Go.RowKit
section
variable {P : Program} {W0 : World} {ops : Array Oper} {acts : List Nat} {K : Nat → Heap → Prop}
end
theorem z2W {H : Heap} {b e : Nat} {c vs : List Value} {t : Option Nat} {q : Option TypeId} (h : H b = some (.cells c e t false q)) (hl : vs.length = c.length) (ho : vs.all (·.oneCell') = true) : zbX H ⟨b, 0, t⟩ vs = some (.cells vs e t false q) := by
 unfold zbX;simp only [h];rw [if_pos ⟨trivial, by omega, trivial, ho⟩];simp [hl]
end Go.Am
