import Derived.Test.YtjgbcpagfghfnaaQXM19
import Derived.Test.YtjgbcpagfghfnaaQXM14
set_option linter.unusedVariables false
set_option linter.unusedSimpArgs false
namespace Go.Am
open Go.RowKit
def tabF (o : List Int) (c : Int) : List Int := ((List.range o.length).filter fun p => decide (o.getD p 0 = c)).map fun (p : Nat) => (p : Int)
theorem getD_snoc_lt {α : Type} {l : List α} {x d : α} {i : Nat} (h : i < l.length) : (l ++ [x]).getD i d = l.getD i d := by
 rw [List.getD_eq_getElem?_getD, List.getD_eq_getElem?_getD, List.getElem?_append_left h]
theorem getD_snoc_eq {α : Type} {l : List α} {x d : α} : (l ++ [x]).getD l.length d = x := by
 rw [List.getD_eq_getElem?_getD, List.getElem?_append_right (Nat.le_refl _)]
 simp
theorem tabF_snoc (o : List Int) (x c : Int) : tabF (o ++ [x]) c = if x = c then tabF o c ++ [(o.length : Int)] else tabF o c := by
 have h1 : ((List.range o.length).filter fun p => decide ((o ++ [x]).getD p 0 = c)) = (List.range o.length).filter fun p => decide (o.getD p 0 = c) := by
  apply List.filter_congr
  intro p hp
  rw [getD_snoc_lt (List.mem_range.1 hp)]
 unfold tabF
 rw [List.length_append, List.length_singleton, List.range_succ, List.filter_append, List.map_append, h1]
 simp only [List.filter_cons, List.filter_nil, getD_snoc_eq, decide_eq_true_eq]
 split <;> simp
theorem tabF_mem {o : List Int} {c x : Int} (h : x ∈ tabF o c) : 0 ≤ x ∧ x < o.length ∧ o.getD x.toNat 0 = c := by
 unfold tabF at h
 rw [List.mem_map] at h
 obtain ⟨p, hp, rfl⟩ := h
 rw [List.mem_filter, List.mem_range, decide_eq_true_eq] at hp
 exact ⟨by omega, by omega, by rw [Int.toNat_natCast]; exact hp.2⟩
theorem tabF_ne {o : List Int} {c : Int} {p : Nat} (hp : p < o.length) (h : o.getD p 0 = c) : tabF o c ≠ [] := by
 intro e
 have : (p : Int) ∈ tabF o c := by
  unfold tabF
  rw [List.mem_map]
  exact ⟨p, by rw [List.mem_filter, List.mem_range, decide_eq_true_eq]; exact ⟨hp, h⟩, rfl⟩
 rw [e] at this
 cases this
theorem tabF_len (o : List Int) (c : Int) : (tabF o c).length ≤ o.length := by
 unfold tabF
 rw [List.length_map]
 refine Nat.le_trans (List.length_filter_le _ _) ?_
 simp
def drawRow (ns : List Int) (L : Nat → List Int) (cnt m : Nat) : List Int := (List.range m).map fun i => (L i).getD (getF ns (cnt + i + 1) (L i).length).toNat 0
theorem drawRow_succ (ns : List Int) (L : Nat → List Int) (cnt m : Nat) : drawRow ns L cnt (m + 1) = drawRow ns L cnt m ++ [(L m).getD (getF ns (cnt + m + 1) (L m).length).toNat 0] := by
 unfold drawRow
 rw [List.range_succ, List.map_append]
 rfl
theorem drawRow_len (ns : List Int) (L : Nat → List Int) (cnt m : Nat) : (drawRow ns L cnt m).length = m := by simp [drawRow]
theorem drawRow_get (ns : List Int) (L : Nat → List Int) (cnt : Nat) {m i : Nat} (h : i < m) : (drawRow ns L cnt m).getD i 0 = (L i).getD (getF ns (cnt + i + 1) (L i).length).toNat 0 := by
 unfold drawRow
 rw [List.getD_eq_getElem?_getD, List.getElem?_map, List.getElem?_range h]
 rfl
theorem getD_mem {α : Type} {l : List α} {d : α} {i : Nat} (h : i < l.length) : l.getD i d ∈ l := by
 rw [List.getD_eq_getElem?_getD, List.getElem?_eq_getElem h]
 exact List.getElem_mem h
theorem drawRow_mem (ns : List Int) (L : Nat → List Int) (cnt : Nat) {m i : Nat} (h : i < m) (hL : L i ≠ []) : (drawRow ns L cnt m).getD i 0 ∈ L i := by
 rw [drawRow_get _ _ _ h]
 have hl : 0 < (L i).length := List.length_pos_iff.2 hL
 have := getF_bd ns (cnt + i + 1) (m := (L i).length) (by omega)
 exact getD_mem (by omega)
def l1F (ns : List Int) (k : Nat) : Nat → Nat × List Int × List Bool
 | 0 => (0, [], [])
 | i + 1 =>
  let s := l1F ns k i
  let n1 := if i < k then s.1 else s.1 + 1
  (n1 + 1, s.2.1 ++ [if i < k then (i : Int) else getF ns (s.1 + 1) k], s.2.2 ++ [decide (getF ns (n1 + 1) 3 = 0)])
theorem l1F_len (ns : List Int) (k : Nat) : ∀ i, (l1F ns k i).2.1.length = i ∧ (l1F ns k i).2.2.length = i ∧ (l1F ns k i).1 ≤ 2 * i
 | 0 => ⟨rfl, rfl, Nat.le_refl _⟩
 | i + 1 => by
  obtain ⟨h1, h2, h3⟩ := l1F_len ns k i
  refine ⟨by simp [l1F, h1], by simp [l1F, h2], ?_⟩
  simp only [l1F]
  split <;> omega
theorem l1F_get (ns : List Int) {k : Nat} (hk : 0 < k) : ∀ i p, p < i → (0 ≤ (l1F ns k i).2.1.getD p 0 ∧ (l1F ns k i).2.1.getD p 0 < k) ∧ (p < k → (l1F ns k i).2.1.getD p 0 = p)
 | 0, p, h => by omega
 | i + 1, p, h => by
  have hl := (l1F_len ns k i).1
  by_cases hp : p < i
  ·have := l1F_get ns hk i p hp
   simp only [l1F]
   rw [getD_snoc_lt (by omega)]
   exact this
  ·have e : p = (l1F ns k i).2.1.length := by omega
   have hg := getF_bd ns ((l1F ns k i).1 + 1) (m := (k : Int)) (by omega)
   simp only [l1F]
   rw [e, getD_snoc_eq]
   split
   ·exact ⟨by omega, fun _ => by omega⟩
   ·exact ⟨hg, fun _ => by omega⟩
def cntF (o : List Int) (pl cl n c0 : Nat) : Nat → Nat
 | 0 => c0
 | p + 1 => cntF o pl cl n c0 p + pl + (if o.getD p 0 = 0 then cl else cl * n)
theorem cntF_le (o : List Int) {pl cl n : Nat} (c0 : Nat) (h1 : pl ≤ 2) (h2 : cl ≤ 2) (h3 : n ≤ 8) (h4 : 1 ≤ n) : ∀ p, cntF o pl cl n c0 p ≤ c0 + 18 * p
 | 0 => Nat.le_refl _
 | p + 1 => by
  have := cntF_le o c0 h1 h2 h3 h4 p
  have h5 : cl * n ≤ 16 := Nat.le_trans (Nat.mul_le_mul h2 h3) (by decide)
  simp only [cntF]
  split <;> omega
structure MkP where
 pl : Nat
 cl : Nat
 k : Nat
 n : Nat
def mkP (size : Int) : MkP := ⟨(size % 3).toNat, (size.tdiv 3 % 3).toNat, (1 + size.tdiv 9 % 3).toNat, (1 + size.tdiv 9 % 3 + size.tdiv 27 % 6).toNat⟩
structure MkP.ok (q : MkP) : Prop where
 pl : q.pl ≤ 2
 cl : q.cl ≤ 2
 k1 : 1 ≤ q.k
 k3 : q.k ≤ 3
 n1 : q.k ≤ q.n
 n8 : q.n ≤ 8
theorem mkP_ok (size : Int) : (mkP size).ok := by
 have a1 := Int.emod_nonneg size (show (3 : Int) ≠ 0 by omega)
 have a2 := Int.emod_lt_of_pos size (show (0 : Int) < 3 by omega)
 have b1 := Int.emod_nonneg (size.tdiv 3) (show (3 : Int) ≠ 0 by omega)
 have b2 := Int.emod_lt_of_pos (size.tdiv 3) (show (0 : Int) < 3 by omega)
 have c1 := Int.emod_nonneg (size.tdiv 9) (show (3 : Int) ≠ 0 by omega)
 have c2 := Int.emod_lt_of_pos (size.tdiv 9) (show (0 : Int) < 3 by omega)
 have d1 := Int.emod_nonneg (size.tdiv 27) (show (6 : Int) ≠ 0 by omega)
 have d2 := Int.emod_lt_of_pos (size.tdiv 27) (show (0 : Int) < 6 by omega)
 exact ⟨by simp only [mkP]; omega, by simp only [mkP]; omega, by simp only [mkP]; omega, by simp only [mkP]; omega, by simp only [mkP]; omega, by simp only [mkP]; omega⟩
def innD (ns : List Int) (q : MkP) (o : List Int) (c2 p : Nat) : List Int := drawRow ns (fun _ => tabF o (o.getD p 0)) (cntF o q.pl q.cl q.n c2 p) q.pl
def lowD (ns : List Int) (q : MkP) (o : List Int) (c2 p : Nat) : List Int := if o.getD p 0 = 0 then drawRow ns (fun _ => tabF o (o.getD p 0)) (cntF o q.pl q.cl q.n c2 p + q.pl) q.cl else []
def retR (ns : List Int) (q : MkP) (o : List Int) (c3 j : Nat) : List Int := drawRow ns (fun x => tabF o (o.getD x 0)) (c3 + j * q.n) q.n
def retD (ns : List Int) (q : MkP) (o : List Int) (c2 p : Nat) : List (List Int) := if o.getD p 0 = 0 then [] else (List.range q.cl).map fun j => retR ns q o (cntF o q.pl q.cl q.n c2 p + q.pl) j
def makeQ (ns : List Int) (q : MkP) : Mo :=
 let s := l1F ns q.k q.n
 ⟨q.pl, q.cl, s.2.1, drawRow ns (fun c => tabF s.2.1 c) s.1 q.k, s.2.2, (List.range q.n).map (innD ns q s.2.1 (s.1 + q.k)), (List.range q.n).map (lowD ns q s.2.1 (s.1 + q.k)), (List.range q.n).map (retD ns q s.2.1 (s.1 + q.k))⟩
def makeF (size : Int) (ns : List Int) : Mo := makeQ ns (mkP size)
theorem map_range_getD {α : Type} {f : Nat → α} {d : α} {n i : Nat} (h : i < n) : ((List.range n).map f).getD i d = f i := by
 rw [List.getD_eq_getElem?_getD, List.getElem?_map, List.getElem?_range h]
 rfl
section
variable {ns : List Int} {q : MkP} (hq : q.ok)
include hq
theorem makeQ_of (p : Nat) (hp : p < q.n) : (0 ≤ (makeQ ns q).of.getD p 0 ∧ (makeQ ns q).of.getD p 0 < q.k) ∧ (p < q.k → (makeQ ns q).of.getD p 0 = p) := l1F_get ns (by have := hq.k1; omega) q.n p hp
omit hq in
theorem makeQ_len : (makeQ ns q).of.length = q.n := (l1F_len ns q.k q.n).1
theorem makeQ_tab (c : Int) (h0 : 0 ≤ c) (h1 : c < q.k) : tabF (makeQ ns q).of c ≠ [] := by
 have hk := hq.n1
 refine tabF_ne (p := c.toNat) (by rw [makeQ_len]; omega) ?_
 rw [(makeQ_of hq c.toNat (by omega)).2 (by omega)]
 omega
omit hq in
theorem makeQ_in {x c : Int} (h : x ∈ tabF (makeQ ns q).of c) : inF (makeQ ns q) x c = true := by
 obtain ⟨h1, h2, h3⟩ := tabF_mem h
 exact decide_eq_true ⟨⟨h1, by omega⟩, h3⟩
theorem makeQ_draw {L : Nat → List Int} {cnt m i : Nat} {c : Int} (hi : i < m) (hL : L i = tabF (makeQ ns q).of c) (h0 : 0 ≤ c) (h1 : c < q.k) : inF (makeQ ns q) ((drawRow ns L cnt m).getD i 0) c = true := by
 have := drawRow_mem ns L cnt hi (by rw [hL]; exact makeQ_tab hq c h0 h1)
 rw [hL] at this
 exact makeQ_in this
theorem makeQ_ok : modF (makeQ ns q) = true := by
 have hl : (makeQ ns q).of.length = q.n := makeQ_len
 have he : (makeQ ns q).entry.length = q.k := drawRow_len _ _ _ _
 have hf : (makeQ ns q).final.length = q.n := (l1F_len ns q.k q.n).2.1
 have hi : (makeQ ns q).inn.length = q.n := by simp [makeQ]
 have hw : (makeQ ns q).low.length = q.n := by simp [makeQ]
 have hr : (makeQ ns q).ret.length = q.n := by simp [makeQ]
 have hp : (makeQ ns q).plains = q.pl := rfl
 have hc : (makeQ ns q).closings = q.cl := rfl
 obtain ⟨z1, z2, z3, z4, z5, z6⟩ := hq
 have hq : q.ok := ⟨z1, z2, z3, z4, z5, z6⟩
 unfold modF
 rw [Bool.and_eq_true, Bool.and_eq_true]
 refine ⟨⟨decide_eq_true (by rw [hl, he, hf, hi, hw, hr, hp, hc]; omega), ?_⟩, allN_iff.2 fun p hp => ?_⟩
 ·unfold housedF
  rw [Bool.and_eq_true]
  refine ⟨allN_iff.2 fun p hp => ?_, allN_iff.2 fun c hc => ?_⟩
  ·rw [hl] at hp
   have := (makeQ_of (ns := ns) hq p hp).1
   rw [decide_eq_true_eq, he]
   omega
  ·rw [he] at hc
   exact makeQ_draw hq (L := fun c => tabF (l1F ns q.k q.n).2.1 c) hc rfl (by omega) (by omega)
 ·rw [hl] at hp
  have ho := (makeQ_of (ns := ns) hq p hp).1
  have hin : (makeQ ns q).inn.getD p [] = innD ns q (makeQ ns q).of ((l1F ns q.k q.n).1 + q.k) p := map_range_getD hp
  have hlo : (makeQ ns q).low.getD p [] = lowD ns q (makeQ ns q).of ((l1F ns q.k q.n).1 + q.k) p := map_range_getD hp
  have hre : (makeQ ns q).ret.getD p [] = retD ns q (makeQ ns q).of ((l1F ns q.k q.n).1 + q.k) p := map_range_getD hp
  unfold stateF
  rw [Bool.and_eq_true, Bool.and_eq_true]
  refine ⟨⟨?_, ?_⟩, ?_⟩
  ·unfold plnF
   rw [hin, Bool.and_eq_true]
   refine ⟨decide_eq_true (by unfold innD; rw [drawRow_len]; rfl), allN_iff.2 fun i hi => ?_⟩
   unfold innD at hi ⊢
   rw [drawRow_len] at hi
   exact makeQ_draw hq hi rfl ho.1 ho.2
  ·unfold lowF
   rw [hlo]
   unfold lowD
   split
   ·rename_i h0
    rw [Bool.and_eq_true]
    refine ⟨decide_eq_true (by rw [drawRow_len]; rfl), allN_iff.2 fun i hi => ?_⟩
    rw [drawRow_len] at hi
    exact makeQ_draw hq hi (by rw [h0]) (by omega) (by omega)
   ·exact decide_eq_true rfl
  ·unfold retF
   rw [hre]
   unfold retD
   split
   ·exact decide_eq_true rfl
   ·rw [Bool.and_eq_true]
    refine ⟨decide_eq_true (by rw [List.length_map, List.length_range]; rfl), allN_iff.2 fun j hj => ?_⟩
    rw [List.length_map, List.length_range] at hj
    rw [map_range_getD hj]
    unfold rowF retR
    rw [drawRow_len, Bool.and_eq_true]
    refine ⟨decide_eq_true (by rw [hl]), allN_iff.2 fun x hx => ?_⟩
    have hx2 := (makeQ_of (ns := ns) hq x hx).1
    exact makeQ_draw hq hx rfl hx2.1 hx2.2
end
end Go.Am
namespace Go.Am
open Go.RowKit
def OldC (σ0 σ : CH) : Prop := σ0.nx ≤ σ.nx ∧ ∀ i, i < σ0.nx → σ.C i = .old ∧ σ.H i = σ0.H i
theorem OldC.keep {S : List Co} {σ0 σ τ : CH} (h : Chg S σ τ) (hc : Co.old ∉ S) (ho : OldC σ0 σ) : OldC σ0 τ :=
 ⟨Nat.le_trans ho.1 h.1, fun i hi => by
  obtain ⟨q1, q2⟩ := ho.2 i hi
  have hi' := Nat.lt_of_lt_of_le hi ho.1
  exact ⟨(h.hue hi').trans q1, (h.same hc hi' q1).trans q2⟩⟩
theorem OldC.ext {σ0 σ : CH} (h : OldC σ0 σ) : Ext σ0.nx σ0.H σ.nx σ.H := ⟨h.1, fun i hi => (h.2 i hi).2⟩
structure MkX where
 A : Nat
 B : Nat
 a4 : Nat
 nv : Value
 tv : Value
 ns : List Int
 pl : Int
 cl : Int
structure MkD where
 cnt : Nat
 L : List Int
 E : List Int
 T : List (List Int)
 f : List Bool
 I : List (List Int)
 W : List (List Int)
 R : List (List (List Int))
def moC (pl cl : Int) (V : MoV) : List Value := [.int .i64 pl, .int .i64 cl, V.o, V.e, V.f, V.i, V.l, V.r]
def locB (D : MkD) : Co → Prop
 | .inn1 p => D.I.length ≤ p
 | .low1 p => D.W.length ≤ p
 | .ret1 p => D.R.length ≤ p
 | .ret2 p _ => D.R.length ≤ p
 | _ => False
end Go.Am
namespace Go.Proofs.Ytjgbcpagfghfnaa
open Go.Am Go.RowKit
abbrev RowI (c : Co) (σ : CH) (v : Value) (l : List Int) : Prop := OwnC encN 3 c σ v l
abbrev Row2 (d : Nat → Co) (c : Co) (σ : CH) (v : Value) (l : List (List Int)) : Prop := OwnLC (fun p => RowI (d p)) 22 c σ v l
abbrev Row3 (σ : CH) (v : Value) (l : List (List (List Int))) : Prop := OwnLC (fun p => Row2 (.ret2 p) (.ret1 p)) 26 .ret σ v l
def mObj (pl cl : Int) (V : MoV) : AObj := .cells (moC pl cl V) 0 none false (some 29)
def TabC (σ : CH) (tv : Value) (T : List (List Int)) : Prop := ∃ vs : List SV, PlainC 22 .table σ tv (vs.map slV) ∧ AllC (fun c => RowI (.tab c)) σ vs T
structure MkS (σ0 σ : CH) (X : MkX) (D : MkD) (V : MoV) : Prop where
 old : OldC σ0 σ
 a : ObC .self σ X.A (mObj X.pl X.cl V)
 b : ObC .next σ X.B (nextO X.nv D.cnt)
 r : ∃ cs, cs.length = 8 ∧ ObC .tmp σ X.a4 (.cells cs 0 none false (some 29))
 n : IntsC .old σ X.nv X.ns
 of : PlainC 3 .of σ V.o (D.L.map (.int .i64 ·))
 en : PlainC 3 .entry σ V.e (D.E.map (.int .i64 ·))
 tb : TabC σ X.tv D.T
 fi : OwnC encBo 4 .final σ V.f D.f
 inn : Row2 .inn1 .inn σ V.i D.I
 low : Row2 .low1 .low σ V.l D.W
 ret : Row3 σ V.r D.R
theorem RowI.keepL {S : List Co} {σ τ : CH} {c : Co} {v : Value} {l : List Int} (h : Chg S σ τ) (hc : c ∉ S) (ho : RowI c σ v l) : RowI c τ v l := OwnC.keep h hc ho
theorem Row2.keepL {S : List Co} {σ τ : CH} {d : Nat → Co} {c : Co} {v : Value} {l : List (List Int)} (h : Chg S σ τ) (hc : c ∉ S) (hd : ∀ p, p < l.length → d p ∉ S) (ho : Row2 d c σ v l) : Row2 d c τ v l := OwnLC.keep h hc (fun i _ _ hi hr => hr.keep h (hd i hi)) ho
theorem Row3.keepL {S : List Co} {σ τ : CH} {v : Value} {l : List (List (List Int))} (h : Chg S σ τ) (hc : Co.ret ∉ S) (hd : ∀ p, p < l.length → Co.ret1 p ∉ S) (he : ∀ p j, p < l.length → Co.ret2 p j ∉ S) (ho : Row3 σ v l) : Row3 τ v l :=
 OwnLC.keep h hc (fun i _ _ hi hr => Row2.keepL h (hd i hi) (fun j _ => he i j hi) hr) ho
theorem TabC.keep {S : List Co} {σ τ : CH} {tv : Value} {T : List (List Int)} (h : Chg S σ τ) (hc : Co.table ∉ S) (hd : ∀ p, p < T.length → Co.tab p ∉ S) (ho : TabC σ tv T) : TabC τ tv T := by
 obtain ⟨vs, h1, h2⟩ := ho
 exact ⟨vs, h1.keep h hc, h2.keep fun i _ _ hi hr => hr.keep h (hd i hi)⟩
section
variable {σ0 σ τ : CH} {X : MkX} {D : MkD} {V : MoV} {S : List Co}
theorem MkS.loc (h : MkS σ0 σ X D V) (hc : Chg S σ τ) (hS : ∀ c ∈ S, locB D c) : MkS σ0 τ X D V := ⟨(h.old.keep hc (fun q => hS _ q)), (h.a.keep hc (fun q => hS _ q)), (h.b.keep hc (fun q => hS _ q)), (by obtain ⟨cs, q1, q2⟩ := h.r; exact ⟨cs, q1, q2.keep hc (fun q => hS _ q)⟩), (h.n.keep hc (fun q => hS _ q)), (h.of.keep hc (fun q => hS _ q)), (h.en.keep hc (fun q => hS _ q)), (h.tb.keep hc (fun q => hS _ q) (fun p hp => fun q => (hS _ q))), (h.fi.keep hc (fun q => hS _ q)), (Row2.keepL hc (fun q => hS _ q) (fun p hp => fun q => absurd (hS _ q) (by simp [locB]; omega)) h.inn), (Row2.keepL hc (fun q => hS _ q) (fun p hp => fun q => absurd (hS _ q) (by simp [locB]; omega)) h.low), (Row3.keepL hc (fun q => hS _ q) (fun p hp => fun q => absurd (hS _ q) (by simp [locB]; omega)) (fun p j hp => fun q => absurd (hS _ q) (by simp [locB]; omega)) h.ret)⟩
theorem MkS.next (h : MkS σ0 σ X D V) (hc : Chg [.next] σ τ) (hb : ObC .next τ X.B (nextO X.nv (D.cnt + 1))) : MkS σ0 τ X { D with cnt := D.cnt + 1 } V := ⟨(h.old.keep hc (by simp)), (h.a.keep hc (by simp)), hb, (by obtain ⟨cs, q1, q2⟩ := h.r; exact ⟨cs, q1, q2.keep hc (by simp)⟩), (h.n.keep hc (by simp)), (h.of.keep hc (by simp)), (h.en.keep hc (by simp)), (h.tb.keep hc (by simp) (fun p hp => by simp)), (h.fi.keep hc (by simp)), (Row2.keepL hc (by simp) (fun p hp => by simp) h.inn), (Row2.keepL hc (by simp) (fun p hp => by simp) h.low), (Row3.keepL hc (by simp) (fun p hp => by simp) (fun p j hp => by simp) h.ret)⟩
theorem MkS.setOf (h : MkS σ0 σ X D V) (hc : Chg [.of] σ τ) {L : List Int} (ho : PlainC 3 .of τ V.o (L.map (.int .i64 ·))) : MkS σ0 τ X { D with L := L } V := ⟨(h.old.keep hc (by simp)), (h.a.keep hc (by simp)), (h.b.keep hc (by simp)), (by obtain ⟨cs, q1, q2⟩ := h.r; exact ⟨cs, q1, q2.keep hc (by simp)⟩), (h.n.keep hc (by simp)), ho, (h.en.keep hc (by simp)), (h.tb.keep hc (by simp) (fun p hp => by simp)), (h.fi.keep hc (by simp)), (Row2.keepL hc (by simp) (fun p hp => by simp) h.inn), (Row2.keepL hc (by simp) (fun p hp => by simp) h.low), (Row3.keepL hc (by simp) (fun p hp => by simp) (fun p j hp => by simp) h.ret)⟩
theorem MkS.setEn (h : MkS σ0 σ X D V) (hc : Chg [.entry] σ τ) {E : List Int} (ho : PlainC 3 .entry τ V.e (E.map (.int .i64 ·))) : MkS σ0 τ X { D with E := E } V := ⟨(h.old.keep hc (by simp)), (h.a.keep hc (by simp)), (h.b.keep hc (by simp)), (by obtain ⟨cs, q1, q2⟩ := h.r; exact ⟨cs, q1, q2.keep hc (by simp)⟩), (h.n.keep hc (by simp)), (h.of.keep hc (by simp)), ho, (h.tb.keep hc (by simp) (fun p hp => by simp)), (h.fi.keep hc (by simp)), (Row2.keepL hc (by simp) (fun p hp => by simp) h.inn), (Row2.keepL hc (by simp) (fun p hp => by simp) h.low), (Row3.keepL hc (by simp) (fun p hp => by simp) (fun p j hp => by simp) h.ret)⟩
theorem MkS.setTb {c : Nat} (h : MkS σ0 σ X D V) (hc : Chg [.tab c, .table] σ τ) {T : List (List Int)} (ho : TabC τ X.tv T) : MkS σ0 τ X { D with T := T } V := ⟨(h.old.keep hc (by simp)), (h.a.keep hc (by simp)), (h.b.keep hc (by simp)), (by obtain ⟨cs, q1, q2⟩ := h.r; exact ⟨cs, q1, q2.keep hc (by simp)⟩), (h.n.keep hc (by simp)), (h.of.keep hc (by simp)), (h.en.keep hc (by simp)), ho, (h.fi.keep hc (by simp)), (Row2.keepL hc (by simp) (fun p hp => by simp) h.inn), (Row2.keepL hc (by simp) (fun p hp => by simp) h.low), (Row3.keepL hc (by simp) (fun p hp => by simp) (fun p j hp => by simp) h.ret)⟩
theorem MkS.setFi (h : MkS σ0 σ X D V) (hc : Chg [.final, .self] σ τ) {f : List Bool} {v : Value} (ho : OwnC encBo 4 .final τ v f) (ha : ObC .self τ X.A (mObj X.pl X.cl { V with f := v })) : MkS σ0 τ X { D with f := f } { V with f := v } := ⟨(h.old.keep hc (by simp)), ha, (h.b.keep hc (by simp)), (by obtain ⟨cs, q1, q2⟩ := h.r; exact ⟨cs, q1, q2.keep hc (by simp)⟩), (h.n.keep hc (by simp)), (h.of.keep hc (by simp)), (h.en.keep hc (by simp)), (h.tb.keep hc (by simp) (fun p hp => by simp)), ho, (Row2.keepL hc (by simp) (fun p hp => by simp) h.inn), (Row2.keepL hc (by simp) (fun p hp => by simp) h.low), (Row3.keepL hc (by simp) (fun p hp => by simp) (fun p j hp => by simp) h.ret)⟩
end
structure MkO (σ : CH) (m : Mo) (V : MoV) : Prop where
 of : PlainC 3 .of σ V.o (m.of.map (.int .i64 ·))
 en : PlainC 3 .entry σ V.e (m.entry.map (.int .i64 ·))
 fi : OwnC encBo 4 .final σ V.f m.final
 inn : Row2 .inn1 .inn σ V.i m.inn
 low : Row2 .low1 .low σ V.l m.low
 ret : Row3 σ V.r m.ret
end Go.Proofs.Ytjgbcpagfghfnaa
namespace Go.Am
open Go.RowKit
section
variable {P : Program} {W0 : World} {ops : Array Oper} {acts : List Nat} {K : Nat → Heap → Prop}
end
theorem setc_allN {H : Heap} {b e : Nat} {c vs : List Value} {t : Option Nat} {q : Option TypeId} (h : H b = some (.cells c e t false q)) (hl : vs.length = c.length) (ho : vs.all (·.oneCell') = true) : setc H ⟨b, 0, t⟩ vs = some (.cells vs e t false q) := by
 unfold setc
 simp only [h]
 rw [if_pos ⟨trivial, by omega, trivial, ho⟩]
 simp [hl]
end Go.Am
