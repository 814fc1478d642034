import Derived.Test.YtjgbcpagfghfnaaQYM25
import Derived.Test.YtjgbcpagfghfnaaQYM15
import Derived.Test.YtjgbcpagfghfnaaQYM24
set_option linter.unusedVariables false
set_option linter.unusedSimpArgs false
set_option linter.unnecessarySimpa false
namespace Go.Proofs.Ytjgbcpagfghfnaa
open Go.Am Go.RowKit
attribute [local irreducible] aop OpsL Trip zt z1X z1E OpsR
theorem z35 : Am.z1G Try.prog 22 := ⟨Try.f22, Try.func22, by kernel_rfl, by kernel_rfl⟩
set_option maxRecDepth 20000 in
set_option maxHeartbeats 8000000 in
theorem z8M (W0 : World) {nx : Nat} {H : Heap} {m : Mo} {V : MoV} (hm : MoIn H m V) (hn : MoLen m) : ACalls Try.prog W0 22 [.agg (moV m V).toArray] nx H fun v nx' H' => v = .bool (z65 m) ∧ Ext nx H nx' H' := by
 refine zg (fn := Try.f22) (c := _) Try.func22 rfl (fun tm n hn0 htm => ?_);have e0 : tm 0 = .agg (moV m V).toArray := htm 0;clear htm;replace hn0 : n = 35 := hn0;refine Trip.ok fun hok => ?_;replace hok : ∀ id o, H id = some o → id < nx := hok;refine z2k ?_;refine zY hm hok ?_ evd sdc;intro G x0 okG hb hG;clear e0;obtain ⟨oa, oc, ov⟩ := hG.of.slice;have oh := hG.of;have g2 := hb.c2;rw [ov] at oh g2;have q0 := hn.of;refine zaF ?_;refine zS hb ?_ evd sdc;refine OpsL.c1 (hf := zam) (hc := (zdX W0 hG).ok) (h := ?_);rintro v1 nx1 H1 ⟨⟨rfl, y1⟩, ok1⟩;cases hs1 : z4Y m
 ·repeat (first | (refine zc (by first | exact omv | exact z4W | exact z3O) ?_) | (refine OpsL.nil ?_; (change Trip _ _ _ _ _)) | (refine z0e ?_))
  refine zaE ?_;exact ⟨.inr rfl, _, zn, by simp [zb, z65, hs1], x0.trans y1⟩
 repeat (first | (refine zc (by first | exact omv | exact z4W) ?_) | (refine zB ?_))
 refine zS (hb.ext y1 okG) ?_ evd sdc;refine z9T ?_;refine OpsL.c1 (hf := z9A) (hc := (zcW W0 (hG.ext y1 okG) hn).ok) (h := ?_);rintro v2 nx2 H2 ⟨⟨rfl, y2⟩, ok2⟩;have z2 := y1.trans y2;cases hs2 : z1C m
 ·repeat (first | (refine zc (by first | exact z4W | exact z3u) ?_) | (refine OpsL.nil ?_; (change Trip _ _ _ _ _)) | (refine zB ?_))
  refine zaE ?_;exact ⟨.inr rfl, _, zn, by simp [zb, z65, hs1, hs2], x0.trans z2⟩
 have c2 := zI z2 okG g2
 repeat (first | (refine zc (by first | exact z4W | exact z3u) ?_) | (refine OpsL.nil ?_; (change Trip _ _ _ _ _)) | (refine zB ?_))
 refine z2r ?_
 repeat (first | (refine zc (by first | exact omv | exact z1g | exact ofa | exact old) ?_) | (refine Trip.seq ?_) | (refine zd ?_) | (refine Trip.block ?_) | (refine Trip.skip ?_; (change Trip _ _ _ _ _)) | (refine OpsL.nil ?_; (change Trip _ _ _ _ _)))
 have hF : z65 m = z4H m.of.length (z29 m) := by unfold z65; rw [hs1, hs2]; rfl
 obtain ⟨-, -, -, -, f1, f2, f3, f4⟩ := of_decide_eq_true hs1;rw [hF];clear hF c2;refine zG (fun (i : Nat) s => ∃ (tm : Nat → Value) (nx' : Nat) (H' : Heap), s = ⟨tm, n, H', nx'⟩ ∧ Ext (nx + 1) G nx' H' ∧ tm 1 = .pointer (some ⟨nx, 0, none⟩) ∧ tm 14 = .int .i64 m.of.length ∧ tm 15 = .int .i64 i ∧ i ≤ m.of.length ∧ z4H i (z29 m) = true) (fun i => m.of.length - i) 0 ?_ ?_
 ·exact ⟨_, _, _, rfl, z2, stp, stp, stp, by omega, z1e⟩
 rintro i s ⟨tm, nx', H', rfl, hx, e1, e14, e15, hi, hall⟩
 repeat (first | (refine zc (by first | exact omv | exact z09 | exact z24) ?_) | (refine Trip.seq ?_) | (refine zd ?_) | (refine Trip.block ?_) | (refine zJ (fun _ => ?_) (fun _ => ?_)) | (refine Trip.skip ?_; (change Trip _ _ _ _ _)) | (refine OpsL.nil ?_; (change Trip _ _ _ _ _)))
 ·have hlt : i < m.of.length := by omega
  refine zS (hb.ext hx okG) ?_ evd sdc;refine z9V ?_;refine OpsL.c2 (hf := zan) (hc := (zdY W0 (hG.ext hx okG) hn hlt (by omega)).ok) (h := ?_);rintro v3 nx3 H3 ⟨⟨rfl, y3⟩, ok3⟩;have z3 := hx.trans y3;cases hp : zbZ m i
  ·repeat (first | (refine zc (by first | exact omv | exact z4W | exact z3O) ?_) | (refine OpsL.nil ?_; (change Trip _ _ _ _ _)) | (refine z0e ?_))
   refine z9U ?_;exact ⟨.inr rfl, _, zn, by rw [z1D hlt (by simp [z29, hp])]; rfl, x0.trans z3⟩
  repeat (first | (refine zc (by first | exact omv | exact z4W) ?_) | (refine zB ?_))
  refine zS (hb.ext z3 okG) ?_ evd sdc;refine zcd ?_;refine OpsL.c2 (hf := zd0) (hc := (zgr W0 (hG.ext z3 okG) hn hlt (by omega)).ok) (h := ?_);rintro v4 nx4 H4 ⟨⟨rfl, y4⟩, ok4⟩;have z4 := z3.trans y4;cases hl : zbk m i
  ·repeat (first | (refine zc (by first | exact omv | exact z4W | exact z3O | exact z3u) ?_) | (refine OpsL.nil ?_; (change Trip _ _ _ _ _)) | (refine zB ?_) | (refine z0e ?_))
   refine z9U ?_;exact ⟨.inr rfl, _, zn, by rw [z1D hlt (by simp [z29, hp, hl])]; rfl, x0.trans z4⟩
  repeat (first | (refine zc (by first | exact omv | exact z4W | exact z3u) ?_) | (refine zB ?_))
  refine zS (hb.ext z4 okG) ?_ evd sdc;refine zcd ?_;refine OpsL.c2 (hf := zcZ) (hc := (zgq W0 (hG.ext z4 okG) hn hlt (by omega)).ok) (h := ?_);rintro v5 nx5 H5 ⟨⟨rfl, y5⟩, ok5⟩;have z5 := z4.trans y5;cases hr : zbj m i
  ·repeat (first | (refine zc (by first | exact z4W | exact z3u) ?_) | (refine OpsL.nil ?_; (change Trip _ _ _ _ _)) | (refine zB ?_))
   refine z9U ?_;exact ⟨.inr rfl, _, zn, by rw [z1D hlt (by simp [z29, hp, hl, hr])]; rfl, x0.trans z5⟩
  repeat (first | (refine zc (by first | exact z4W | exact z3u) ?_) | (refine OpsL.nil ?_; (change Trip _ _ _ _ _)) | (refine zB ?_))
  refine z2r ?_;refine zc6 ?_;exact ⟨i + 1, ⟨_, _, _, rfl, z5, stp, stp, stp, by omega, z1N hall (by simp [z29, hp, hl, hr])⟩, by omega⟩
 ·repeat (first | (refine zc (by exact z09) ?_) | (refine Trip.seq ?_) | (refine zd ?_) | (refine Trip.exit ?_; ((repeat (refine zD ?_)); change Trip _ _ _ _ _)) | (refine Trip.ret ?_; (dsimp only)) | (refine OpsL.nil ?_; (change Trip _ _ _ _ _)))
  have hi2 : i = m.of.length := by omega
  subst hi2;exact ⟨.inr rfl, _, zn, by rw [hall]; rfl, x0.trans hx⟩
theorem z9B : Am.z1G Try.prog 19 := ⟨Try.f19, Try.func19, by kernel_rfl, by kernel_rfl⟩
set_option maxRecDepth 20000 in
set_option maxHeartbeats 8000000 in
theorem zfb (W0 : World) {nx : Nat} {H : Heap} {m : Mo} {V : MoV} (hm : MoIn H m V) (hn : MoLen m) : ACalls Try.prog W0 19 [.agg (moV m V).toArray] nx H fun v nx' H' => v = .int .i64 (if z65 m then 0 else 11) ∧ Ext nx H nx' H' := by
 refine zg (fn := Try.f19) (c := _) Try.func19 rfl (fun tm n hn0 htm => ?_);have e0 : tm 0 = .agg (moV m V).toArray := htm 0;clear htm;replace hn0 : n = 6 := hn0;refine Trip.ok fun hok => ?_;replace hok : ∀ id o, H id = some o → id < nx := hok;refine z2k ?_;refine zY hm hok ?_ evd sdc;intro G x0 okG hb hG;clear e0;refine zaF ?_;refine zS hb ?_ evd sdc;refine OpsL.c1 (hf := z35) (hc := (z8M W0 hG hn)) (h := ?_);rintro v1 nx1 H1 ⟨rfl, y1⟩;cases hs1 : z65 m
 ·repeat (first | (refine zc (by exact z4W) ?_) | (refine OpsL.nil ?_; (change Trip _ _ _ _ _)))
  refine zaE ?_;exact ⟨.inr rfl, _, zn, stp, x0.trans y1⟩
 ·repeat (first | (refine zc (by exact z4W) ?_) | (refine OpsL.nil ?_; (change Trip _ _ _ _ _)))
  refine z2r ?_
  repeat (first | (refine zc (by exact z09) ?_) | (refine Trip.seq ?_) | (refine zd ?_) | (refine Trip.skip ?_; (change Trip _ _ _ _ _)) | (refine Trip.ret ?_; (dsimp only)) | (refine OpsL.nil ?_; (change Trip _ _ _ _ _)))
  exact ⟨.inr rfl, _, zn, stp, x0.trans y1⟩
end Go.Proofs.Ytjgbcpagfghfnaa
namespace Go.Am
open Go.RowKit
theorem zhw {a : Int} (h : (Lit.int .i64 a).wf = true) : -9223372036854775808 ≤ a ∧ a ≤ 9223372036854775807 := by
 have h' : (decide (IntKind.i64.min ≤ a) && decide (a ≤ IntKind.i64.max)) = true := h;rw [Bool.and_eq_true, decide_eq_true_eq, decide_eq_true_eq] at h';exact h'
theorem z8Z {P : Program} {st : ASt} {t s : Tmp} {ty : TypeId} {a : Addr} {v : Value} (ht : st.tm t = .pointer (some a)) (hr : z3Q P st.H ty a = some v) : z2K P st #[.cell t ty, .tmp s] = some (.tuple #[v, st.tm s]) := by simp [z2K, z3B, z5D, ht, hr]
def z1O : Mo := ⟨0, 0, [], [], [], [], [], []⟩
theorem zcB (H : Heap) : MoIn H z1O z2j := ⟨.inl ⟨0, rfl, rfl⟩, .inl ⟨0, rfl, rfl⟩, .inl ⟨0, rfl, rfl⟩, .inl ⟨0, rfl, rfl⟩, .inl ⟨0, rfl, rfl⟩, .inl ⟨0, rfl, rfl⟩⟩
end Go.Am
namespace Go.Proofs.Ytjgbcpagfghfnaa
open Go.Am Go.RowKit
attribute [local irreducible] aop OpsL Trip zt z1X z1E OpsR OpsQ
theorem MkO.in {σ : CH} {m : Mo} {V : MoV} (h : MkO σ m V) : MoIn σ.H m V :=
 ⟨h.of.ints, h.en.ints, h.fi.bools, OwnLC.at (fun _ _ _ hr => hr.ints) h.inn, OwnLC.at (fun _ _ _ hr => hr.ints) h.low, OwnLC.at (fun _ _ _ hr => OwnLC.at (fun _ _ _ hr => hr.ints) hr) h.ret⟩
theorem zbG : Am.z1G Try.prog 7 := ⟨Try.f7, Try.func7, by kernel_rfl, by kernel_rfl⟩
theorem zhb (W0 : World) {nx : Nat} {H : Heap} {nv : Value} {ns : List Int} {size : Int} (hn : IntsAt H nv ns) (hok : ∀ id o, H id = some o → id < nx) (hs : -9223372036854775808 ≤ size ∧ size ≤ 9223372036854775807) :
  ACalls Try.prog W0 7 [.int .i64 size, nv] nx H fun v nx' H' => ∃ V σ, v = .agg (moV (z8F size ns) V).toArray ∧ nx' = σ.nx ∧ H' = σ.H ∧ OldC ⟨nx, fun _ => .old, H⟩ σ ∧ MkO σ (z8F size ns) V :=
 zgm W0 (σ0 := ⟨nx, fun _ => .old, H⟩) (fun _ _ => rfl) (IntsC.of hn hok) hs
theorem z4k : Am.z1G Try.prog 8 := ⟨Try.f8, Try.func8, by kernel_rfl, by kernel_rfl⟩
end Go.Proofs.Ytjgbcpagfghfnaa
namespace Go.Am
open Go.RowKit
theorem z2h {α : Type} {enc : α → List Value} {f : α → Value} (h : ∀ x, enc x = [f x]) (l : List α) : l.flatMap enc = l.map f := by
 induction l with
 | nil => rfl
 | cons x l ih => rw [List.flatMap_cons, ih, h]; rfl
section
variable {α : Type} {enc : α → List Value} {f : α → Value} {el : TypeId} {c : Co} {σ : CH} {v : Value} {l : List α}
theorem z8c (he : ∀ x, enc x = [f x]) (h : OwnC enc el c σ v l) (hl : l ≠ []) : ∃ b t rest, v = .slice (some ⟨b, 0, some t⟩) l.length l.length ∧ ObC c σ b (.cells (l.map f ++ rest) 1 (some t) false (some el)) := by
 obtain ⟨ob, ho, hc⟩ := h;cases ob with
 | none => obtain ⟨_, _, h0⟩ := ho; exact absurd (List.eq_nil_of_length_eq_zero h0) hl
 | some bt =>
  obtain ⟨b, t⟩ := bt;obtain ⟨h1, h2, rest, h3⟩ := ho;rw [z2h he] at h3;exact ⟨b, t, rest, h1, (hc b t rfl).1, (hc b t rfl).2, h3⟩
theorem OwnC.cls (he : ∀ x, enc x = [f x]) {b t : Nat} {rest : List Value} (h : ObC c σ b (.cells (l.map f ++ rest) 1 (some t) false (some el))) : OwnC enc el c σ (.slice (some ⟨b, 0, some t⟩) l.length l.length) l := by
 refine ⟨some (b, t), ⟨rfl, ?_, rest, ?_⟩, fun b' t' e => ?_⟩
 ·rw [z2h he, List.length_map, Nat.mul_one]
 ·rw [z2h he]; exact h.2.2
 ·cases e;exact ⟨h.1, h.2.1⟩
end
theorem z6R {σ : CH} {nx' : Nat} {H' : Heap} (h : Ext σ.nx σ.H nx' H') : ∃ τ : CH, nx' = τ.nx ∧ H' = τ.H ∧ Chg [] σ τ :=
 ⟨⟨nx', fun i => if i < σ.nx then σ.C i else .tmp, H'⟩, rfl, rfl, h.1, fun i hi => ⟨if_pos hi, fun _ => h.2 i hi⟩⟩
theorem z6z (x : Int) : z1L x = [(fun x => Value.int .i64 x) x] := rfl
theorem zez (s : SV) : z8E s = [slV s] := rfl
end Go.Am
namespace Go.Proofs.Ytjgbcpagfghfnaa
open Go.Am Go.RowKit
end Go.Proofs.Ytjgbcpagfghfnaa
namespace Go.Am
open Go.RowKit
def zC (l places : List Int) : List Int := places.map fun a => l.getD a.toNat 0
theorem z0r (l places : List Int) : (zC l places).length = places.length := by simp [zC]
def NewP (el : TypeId) (nx : Nat) (nx' : Nat) (H' : Heap) (v : Value) (cs : List Value) : Prop := ∃ b, nx ≤ b ∧ b < nx' ∧ v = .slice (some ⟨b, 0, none⟩) cs.length cs.length ∧ H' b = some (.cells cs 1 none false (some el))
theorem NewP.ints {el : TypeId} {nx nx' : Nat} {H' : Heap} {v : Value} {l : List Int} (h : NewP el nx nx' H' v (l.map (.int .i64 ·))) : IntsAt H' v l := by
 obtain ⟨b, _, _, rfl, hH⟩ := h;refine .inr ⟨⟨b, 0, none⟩, l.length, by rw [List.length_map], fun i hi => ?_⟩;rw [Nat.zero_add];exact z0c hH (by rw [List.getElem?_map, List.getElem?_eq_getElem hi]; rfl)
theorem NewP.plain {el : TypeId} {σ : CH} {nx' : Nat} {H' : Heap} {v : Value} {cs : List Value} (h : NewP el σ.nx nx' H' v cs) (hx : Ext σ.nx σ.H nx' H') (c : Co) : ∃ τ : CH, nx' = τ.nx ∧ H' = τ.H ∧ Chg [] σ τ ∧ PlainC el c τ v cs := by
 obtain ⟨b, h1, h2, rfl, hH⟩ := h;exact ⟨⟨nx', fun i => if i < σ.nx then σ.C i else c, H'⟩, rfl, rfl, ⟨hx.1, fun i hi => ⟨if_pos hi, fun _ => hx.2 i hi⟩⟩, b, rfl, h2, if_neg (by omega), hH⟩
def z0w (l : List Bool) (i : Nat) : Nat := (l.take i).count true
def zZ (l : List Bool) : List Int := (List.range l.length).map fun i => if l.getD i false then (z0w l i : Int) else -1
theorem z2o {l : List Bool} {i : Nat} (h : i < l.length) : z0w l (i + 1) = z0w l i + (if l.getD i false then 1 else 0) := by
 unfold z0w;rw [List.take_succ_eq_append_getElem h, List.count_append, List.getD_eq_getElem?_getD, List.getElem?_eq_getElem h];cases l[i] <;> rfl
theorem zdN (l : List Bool) (i : Nat) : z0w l i ≤ i := by
 unfold z0w;refine Nat.le_trans List.count_le_length ?_;rw [List.length_take];omega
def z05 (l : List Int) : Nat → List Int
 | 0 => []
 | i + 1 => if l.getD i 0 = (z05 l i).length then z05 l i ++ [(i : Int)] else z05 l i
theorem z2Q (l : List Int) : ∀ i, (z05 l i).length ≤ i
 | 0 => Nat.le_refl _
 | i + 1 => by
  have := z2Q l i;unfold z05;split
  ·simp; omega
  ·omega
theorem z51 {l : List Int} {n i : Nat} {x z : Int} (hl : l.length = i) (h : i < n) : (l ++ List.replicate (n - i) z).set i x = (l ++ [x]) ++ List.replicate (n - (i + 1)) z := by
 obtain ⟨k, rfl⟩ : ∃ k, n = i + 1 + k := ⟨n - (i + 1), by omega⟩;subst hl;rw [List.set_append_right _ _ (Nat.le_refl _), Nat.sub_self, show l.length + 1 + k - l.length = k + 1 by omega, show l.length + 1 + k - (l.length + 1) = k by omega, List.replicate_succ, List.append_assoc];rfl
end Go.Am
namespace Go.Proofs.Ytjgbcpagfghfnaa
open Go.Am Go.RowKit
attribute [local irreducible] aop OpsL Trip zt z1X z1E OpsR OpsQ
theorem z2S : Am.z1G Try.prog 37 := ⟨Try.f37, Try.func37, by kernel_rfl, by kernel_rfl⟩
set_option maxRecDepth 20000 in
set_option maxHeartbeats 16000000 in
theorem zbm (W0 : World) {nx : Nat} {H : Heap} {lv pv : Value} {l places : List Int} (hl : IntsAt H lv l) (hp : IntsAt H pv places) (hpl : places.length ≤ 100000) (hin : ∀ i, i < places.length → 0 ≤ places.getD i 0 ∧ places.getD i 0 < l.length) :
  ACalls Try.prog W0 37 [lv, pv] nx H fun v nx' H' => NewP 3 nx nx' H' v ((zC l places).map (.int .i64 ·)) ∧ Ext nx H nx' H' := by
 refine zg (fn := Try.f37) (c := _) Try.func37 rfl (fun tm n hn0 htm => ?_);have e0 : tm 0 = lv := htm 0;have e1 : tm 1 = pv := htm 1;clear htm;replace hn0 : n = 27 := hn0;refine Trip.ok fun hok => ?_;replace hok : ∀ id o, H id = some o → id < nx := hok;obtain ⟨la, lc, rfl⟩ := hl.slice;obtain ⟨pa, pc, rfl⟩ := hp.slice;refine zgP ?_;refine OpsL.new sdc (z0m evd evd (z0f (m := places.length) (bytes := 8) (z := .int .i64 0) xrf xrf xrf xrf (by omega) (by omega))) ?_;refine zfG ?_;refine zG (fun (i : Nat) s => ∃ (tm : Nat → Value) (F : Heap), s = ⟨tm, n, F, nx + 1⟩ ∧ Ext nx H (nx + 1) F ∧ F nx = some (.cells ((zC l (places.take i) ++ List.replicate (places.length - i) 0).map (.int .i64 ·)) 1 none false (some 3)) ∧ tm 0 = .slice la l.length lc ∧ tm 5 = .slice (some ⟨nx, 0, none⟩) places.length places.length ∧ tm 11 = .slice pa places.length pc ∧ tm 12 = .int .i64 places.length ∧ tm 13 = .int .i64 i ∧ i ≤ places.length) (fun i => places.length - i) 0 ?_ ?_
 ·refine ⟨_, _, rfl, z0p, ?_, stp, stp, stp, stp, stp, by omega⟩;rw [zu];simp [zC]
 clear e0 e1;rintro i s ⟨tm, F, rfl, hx, hF, e0, e5, e11, e12, e13, hi⟩
 repeat (first | (refine zc (by first | exact omv | exact z24) ?_) | (refine Trip.seq ?_) | (refine zd ?_) | (refine Trip.block ?_) | (refine zJ (fun _ => ?_) (fun _ => ?_)) | (refine Trip.skip ?_; (change Trip _ _ _ _ _)) | (refine OpsL.nil ?_; (change Trip _ _ _ _ _)))
 ·have hlt : i < places.length := by omega
  obtain ⟨q, rfl, hc⟩ := IntsAt.atI (hp.ext hx hok) (show (0 : Int) ≤ i by omega) (show (i : Int) < places.length by omega);rw [Int.toNat_natCast] at hc;obtain ⟨h0, h1⟩ := hin i hlt
  have hpk : zC l (places.take (i + 1)) = zC l (places.take i) ++ [l.getD (places.getD i 0).toNat 0] := by
   unfold zC;rw [List.take_succ_eq_append_getElem hlt, List.map_append, List.getD_eq_getElem?_getD (l := places), List.getElem?_eq_getElem hlt];rfl
  have hpll : (zC l (places.take i)).length = i := by rw [z0r, List.length_take]; omega
  obtain ⟨a, ha⟩ : ∃ a, places.getD i 0 = a := ⟨_, rfl⟩;rw [ha] at hc h0 h1 hpk;obtain ⟨q1, rfl, hc1⟩ := IntsAt.atI (hl.ext hx hok) h0 h1
  repeat (first | (refine zc (by first | exact omv | exact z09 | exact z1j | exact old) ?_) | (refine zd ?_) | (refine OpsL.nil ?_; (change Trip _ _ _ _ _)))
  refine OpsL.storeAt (a := ⟨nx, 0 + (i : Int).toNat * 1, none⟩) (v := .int .i64 (l.getD a.toNat 0)) (cs' := (zC l (places.take (i + 1)) ++ List.replicate (places.length - (i + 1)) 0).map (.int .i64 ·)) i evr evd xrf rfl rfl hF (by simp) (by simp [hpll]; omega) (by rw [z3A, z51 hpll hlt, hpk]) ?_;refine zeo ?_;exact ⟨i + 1, ⟨_, _, rfl, ⟨by omega, fun j hj => by rw [zj (by show j ≠ nx; omega), hx.2 j hj]⟩, zu, stp, stp, stp, stp, stp, by omega⟩, by omega⟩
 ·repeat (first | (refine zc (by first | exact omv | exact z09) ?_) | (refine Trip.seq ?_) | (refine zd ?_) | (refine Trip.exit ?_; ((repeat (refine zD ?_)); change Trip _ _ _ _ _)) | (refine Trip.ret ?_; (dsimp only)) | (refine OpsL.nil ?_; (change Trip _ _ _ _ _)))
  have hi2 : i = places.length := by omega
  subst hi2;rw [List.take_length, Nat.sub_self, List.replicate_zero, List.append_nil] at hF;exact ⟨.inr rfl, _, zn, ⟨nx, Nat.le_refl _, Nat.lt_succ_self _, by simp [zb, z0r], hF⟩, hx⟩
theorem z3H : Am.z1G Try.prog 24 := ⟨Try.f24, Try.func24, by kernel_rfl, by kernel_rfl⟩
set_option maxRecDepth 20000 in
set_option maxHeartbeats 16000000 in
theorem zaJ (W0 : World) {nx : Nat} {H : Heap} {bv : Value} {l : List Bool} (hl : BoolsAt H bv l) (hll : l.length ≤ 100000) :
  ACalls Try.prog W0 24 [bv] nx H fun v nx' H' => NewP 3 nx nx' H' v ((zZ l).map (.int .i64 ·)) ∧ Ext nx H nx' H' := by
 refine zg (fn := Try.f24) (c := _) Try.func24 rfl (fun tm n hn0 htm => ?_);have e0 : tm 0 = bv := htm 0;clear htm;replace hn0 : n = 29 := hn0;refine Trip.ok fun hok => ?_;replace hok : ∀ id o, H id = some o → id < nx := hok;obtain ⟨la, lc, rfl⟩ := hl.slice;refine zgP ?_;refine OpsL.new sdc (z0m evd evd (z0f (m := l.length) (bytes := 8) (z := .int .i64 0) xrf xrf xrf xrf (by omega) (by omega))) ?_;refine zfG ?_;refine zG (fun (i : Nat) s => ∃ (tm : Nat → Value) (F : Heap), s = ⟨tm, n, F, nx + 1⟩ ∧ Ext nx H (nx + 1) F ∧ F nx = some (.cells ((((List.range i).map fun i => if l.getD i false then (z0w l i : Int) else -1) ++ List.replicate (l.length - i) 0).map (.int .i64 ·)) 1 none false (some 3)) ∧ tm 3 = .slice (some ⟨nx, 0, none⟩) l.length l.length ∧ tm 4 = .int .i64 (z0w l i) ∧ tm 10 = .slice la l.length lc ∧ tm 11 = .int .i64 l.length ∧ tm 12 = .int .i64 i ∧ i ≤ l.length) (fun i => l.length - i) 0 ?_ ?_
 ·refine ⟨_, _, rfl, z0p, ?_, stp, by simp [zb, z0w], stp, stp, stp, by omega⟩;rw [zu];simp
 clear e0;rintro i s ⟨tm, F, rfl, hx, hF, e3, e4, e10, e11, e12, hi⟩
 repeat (first | (refine zc (by first | exact omv | exact z24) ?_) | (refine Trip.seq ?_) | (refine zd ?_) | (refine Trip.block ?_) | (refine zJ (fun _ => ?_) (fun _ => ?_)) | (refine Trip.skip ?_; (change Trip _ _ _ _ _)) | (refine OpsL.nil ?_; (change Trip _ _ _ _ _)))
 ·have hlt : i < l.length := by omega
  obtain ⟨q, rfl, hc⟩ := BoolsAt.atI (hl.ext hx hok) (show (0 : Int) ≤ i by omega) (show (i : Int) < l.length by omega);rw [Int.toNat_natCast] at hc;have hr := z2o hlt;have hrl := zdN l i;have hml : ((List.range i).map fun i => if l.getD i false then (z0w l i : Int) else -1).length = i := by simp
  have hms : ((List.range (i + 1)).map fun i => if l.getD i false then (z0w l i : Int) else -1) = ((List.range i).map fun i => if l.getD i false then (z0w l i : Int) else -1) ++ [if l.getD i false then (z0w l i : Int) else -1] := by rw [List.range_succ, List.map_append]; rfl
  generalize ((List.range i).map fun i => if l.getD i false then (z0w l i : Int) else -1) = M at *;obtain ⟨b, hb⟩ : ∃ b, l.getD i false = b := ⟨_, rfl⟩;rw [hb] at hc hr hms
  repeat (first | (refine zc (by first | exact omv | exact z09 | exact z1j | exact old) ?_) | (refine Trip.seq ?_) | (refine zd ?_) | (refine OpsL.nil ?_; (change Trip _ _ _ _ _)))
  refine OpsL.storeAt (a := ⟨nx, 0 + (i : Int).toNat * 1, none⟩) (v := .int .i64 (-1)) (cs' := ((M ++ [(-1 : Int)]) ++ List.replicate (l.length - (i + 1)) 0).map (.int .i64 ·)) i evr (by rfl) xrf rfl rfl hF (by simp) (by simp [hml]; omega) (by rw [z3A, z51 hml hlt]) ?_;refine z0n ?_
  (change Trip _ _ _ _ _)
  have hx1 : Ext nx H (nx + 1) (F.put nx (.cells (((M ++ [(-1 : Int)]) ++ List.replicate (l.length - (i + 1)) 0).map (.int .i64 ·)) 1 none false (some 3))) := ⟨by omega, fun j hj => by rw [zj (by show j ≠ nx; omega), hx.2 j hj]⟩;have hF1 : (F.put nx (.cells (((M ++ [(-1 : Int)]) ++ List.replicate (l.length - (i + 1)) 0).map (.int .i64 ·)) 1 none false (some 3))) nx = some (.cells (((M ++ [(-1 : Int)]) ++ List.replicate (l.length - (i + 1)) 0).map (.int .i64 ·)) 1 none false (some 3)) := zu;generalize hG : (F.put nx (.cells (((M ++ [(-1 : Int)]) ++ List.replicate (l.length - (i + 1)) 0).map (.int .i64 ·)) 1 none false (some 3))) = G at *;clear hG hF;cases b
  ·repeat (first | (refine zc (by exact omv) ?_) | (refine Trip.seq ?_) | (refine zd ?_) | (refine OpsL.nil ?_; (change Trip _ _ _ _ _)))
   refine z2r ?_;refine zc6 ?_;exact ⟨i + 1, ⟨_, _, rfl, hx1, by rw [hms]; exact hF1, stp, by simp [zb, hr, *], stp, stp, stp, by omega⟩, by omega⟩
  ·repeat (first | (refine zc (by exact omv) ?_) | (refine Trip.seq ?_) | (refine zd ?_) | (refine OpsL.nil ?_; (change Trip _ _ _ _ _)))
   refine z07 ?_
   repeat (first | (refine zc (by first | exact omv | exact z1j) ?_) | (refine Trip.seq ?_) | (refine zd ?_))
   refine OpsL.storeAt (a := ⟨nx, 0 + (i : Int).toNat * 1, none⟩) (v := .int .i64 (z0w l i)) (cs' := ((M ++ [(z0w l i : Int)]) ++ List.replicate (l.length - (i + 1)) 0).map (.int .i64 ·)) i evr evd xrf rfl rfl hF1 (by simp) (by rw [List.length_map, List.length_append, List.length_append, hml]; simp only [List.length_singleton]; omega) (by rw [z3A, List.append_assoc, List.set_append_right _ _ (by omega), hml, Nat.sub_self, List.append_assoc]; try rfl) ?_
   repeat (first | (refine zc (by first | exact omv | exact z09 | exact z6e) ?_) | (refine zd ?_) | (refine OpsL.nil ?_; ((repeat (refine zH ?_)); first | (change Trip _ _ _ _ _) | (dsimp only))))
   exact ⟨i + 1, ⟨_, _, rfl, ⟨by omega, fun j hj => by rw [zj (by show j ≠ nx; omega), hx1.2 j hj]⟩, by rw [hms]; exact zu, stp, by simp [zb, hr, *], stp, stp, stp, by omega⟩, by omega⟩
 ·repeat (first | (refine zc (by first | exact omv | exact z09) ?_) | (refine Trip.seq ?_) | (refine zd ?_) | (refine Trip.exit ?_; ((repeat (refine zD ?_)); change Trip _ _ _ _ _)) | (refine Trip.ret ?_; (dsimp only)) | (refine OpsL.nil ?_; (change Trip _ _ _ _ _)))
  have hi2 : i = l.length := by omega
  subst hi2;rw [Nat.sub_self, List.replicate_zero, List.append_nil] at hF;exact ⟨.inr rfl, _, zn, ⟨nx, Nat.le_refl _, Nat.lt_succ_self _, by simp [zb, zZ, *], hF⟩, hx⟩
theorem z9z : Am.z1G Try.prog 38 := ⟨Try.f38, Try.func38, by kernel_rfl, by kernel_rfl⟩
set_option maxRecDepth 20000 in
set_option maxHeartbeats 16000000 in
theorem zf8 (W0 : World) {nx : Nat} {H : Heap} {cv : Value} {l : List Int} (hl : IntsAt H cv l) (hll : l.length ≤ 100000) :
  ACalls Try.prog W0 38 [cv] nx H fun v nx' H' => ∃ ob, OwnInts H' ob 3 v (z05 l l.length) ∧ (∀ b t, ob = some (b, t) → nx ≤ b ∧ b < nx') ∧ Ext nx H nx' H' := by
 refine zg (fn := Try.f38) (c := _) Try.func38 rfl (fun tm n hn0 htm => ?_);have e0 : tm 0 = cv := htm 0;clear htm;replace hn0 : n = 23 := hn0;refine Trip.ok fun hok => ?_;replace hok : ∀ id o, H id = some o → id < nx := hok;obtain ⟨la, lc, rfl⟩ := hl.slice;refine zfG ?_;refine zG (fun (i : Nat) s => ∃ (tm : Nat → Value) (nx' : Nat) (F : Heap) (ob : Option (Nat × Nat)) (v : Value), s = ⟨tm, n, F, nx'⟩ ∧ Ext nx H nx' F ∧ OwnInts F ob 3 v (z05 l i) ∧ (∀ b t, ob = some (b, t) → nx ≤ b ∧ b < nx') ∧ tm 3 = v ∧ tm 6 = .slice la l.length lc ∧ tm 7 = .int .i64 l.length ∧ tm 8 = .int .i64 i ∧ i ≤ l.length) (fun i => l.length - i) 0 ?_ ?_
 ·exact ⟨_, _, _, none, _, rfl, Ext.refl, ⟨rfl, rfl, rfl⟩, fun _ _ h => (by cases h), stp, stp, stp, stp, by omega⟩
 clear e0;rintro i s ⟨tm, nx', F, ob, v, rfl, hx, hown, hob, e3, e6, e7, e8, hi⟩;obtain ⟨va, vc, hv⟩ := (OwnInts.at hown).slice;have hll2 := z2Q l i
 repeat (first | (refine zc (by first | exact omv | exact z24) ?_) | (refine Trip.seq ?_) | (refine zd ?_) | (refine Trip.block ?_) | (refine zJ (fun _ => ?_) (fun _ => ?_)) | (refine Trip.skip ?_; (change Trip _ _ _ _ _)) | (refine OpsL.nil ?_; (change Trip _ _ _ _ _)))
 ·have hlt : i < l.length := by omega
  obtain ⟨q, rfl, hc⟩ := IntsAt.atI (hl.ext hx hok) (show (0 : Int) ≤ i by omega) (show (i : Int) < l.length by omega);rw [Int.toNat_natCast] at hc;rw [hv] at e3
  repeat (first | (refine zc (by first | exact omv | exact z09 | exact z1j | exact old | exact z1g) ?_) | (refine Trip.seq ?_) | (refine zd ?_) | (refine OpsL.nil ?_; (change Trip _ _ _ _ _)))
  by_cases h : l.getD i 0 = ((z05 l i).length : Int)
  ·refine z0H ?_ (c := h)
   have hs : z05 l (i + 1) = z05 l i ++ [(i : Int)] := by
    show (if l.getD i 0 = (z05 l i).length then z05 l i ++ [(i : Int)] else z05 l i) = _;rw [if_pos h]
   clear h;refine z9O ?_;refine zfl ?_;rw [hv] at hown;refine z63 sdc sdc evr (by decide) (by (simp only [zb, ↓reduceIte, reduceIte, Option.some.injEq, Nat.reduceEqDiff, *])) hown (fun b t hb => (hob b t hb).2) xrf xrf xrf xrf (by omega) ?_;rintro v' ob' H'' hown' ⟨b, rfl, hb⟩ hsame;refine zgX ?_;refine ⟨i + 1, ⟨_, _, _, some (b, nx' + 1), v', rfl, ?_, by rw [hs]; exact hown', fun b' t' e => ?_, stp, stp, stp, stp, by omega⟩, by omega⟩
   ·exact ⟨by have := hx.1; omega, fun k hk => by rw [hsame k (by have := hx.1; omega) (fun b t hb => by have := (hob b t hb).1; omega), hx.2 k hk]⟩
   ·cases e;have := hx.1;rcases hb with rfl | ⟨t, hb⟩
    ·omega
    ·have := hob _ _ hb; omega
  ·refine z30 ?_ (c := h)
   have hs : z05 l (i + 1) = z05 l i := by
    show (if l.getD i 0 = (z05 l i).length then z05 l i ++ [(i : Int)] else z05 l i) = _;rw [if_neg h]
   clear h;refine z68 ?_;refine zc6 ?_;exact ⟨i + 1, ⟨_, _, _, ob, v, rfl, hx, by rw [hs]; exact hown, hob, stp, stp, stp, stp, by omega⟩, by omega⟩
 ·repeat (first | (refine zc (by first | exact omv | exact z09) ?_) | (refine Trip.seq ?_) | (refine zd ?_) | (refine Trip.exit ?_; ((repeat (refine zD ?_)); change Trip _ _ _ _ _)) | (refine Trip.ret ?_; (dsimp only)) | (refine OpsL.nil ?_; (change Trip _ _ _ _ _)))
  have hi2 : i = l.length := by omega
  subst hi2;exact ⟨.inr rfl, _, zn, ob, by rw [hv] at hown; simpa [zb, e3, hv] using hown, hob, hx⟩
end Go.Proofs.Ytjgbcpagfghfnaa
