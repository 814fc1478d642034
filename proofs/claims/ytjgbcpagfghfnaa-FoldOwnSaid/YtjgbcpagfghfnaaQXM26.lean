import Derived.Test.YtjgbcpagfghfnaaQXM25
import Derived.Test.YtjgbcpagfghfnaaQXM15
import Derived.Test.YtjgbcpagfghfnaaQXM24
set_option linter.unusedVariables false
set_option linter.unusedSimpArgs false
set_option linter.unnecessarySimpa false
namespace Go.Proofs.Ytjgbcpagfghfnaa
open Go.Am Go.RowKit
attribute [local irreducible] aop OpsL Trip blockExit OpsD OpsK OpsR
theorem entersIsMod : Am.Enters Try.prog 22 := ⟨Try.f22, Try.func22, by kernel_rfl, by kernel_rfl⟩
set_option maxRecDepth 20000 in
set_option maxHeartbeats 8000000 in
theorem isModC (W0 : World) {nx : Nat} {H : Heap} {m : Mo} {V : MoV} (hm : MoIn H m V) (hn : MoLen m) : ACalls Try.prog W0 22 [.agg (moV m V).toArray] nx H fun v nx' H' => v = .bool (modF m) ∧ Ext nx H nx' H' := by
 refine ACalls.by_trip (fn := Try.f22) (c := _) Try.func22 rfl (fun tm n hn0 htm => ?_)
 have e0 : tm 0 = .agg (moV m V).toArray := htm 0
 clear htm
 replace hn0 : n = 35 := hn0
 refine Trip.ok fun hok => ?_
 replace hok : ∀ id o, H id = some o → id < nx := hok
 refine zg29 ?_
 refine OpsL.boxM hm hok ?_ evd sdc
 intro G x0 okG hb hG
 clear e0
 obtain ⟨oa, oc, ov⟩ := hG.of.slice
 have oh := hG.of
 have g2 := hb.c2
 rw [ov] at oh g2
 have q0 := hn.of
 refine zg25 ?_
 refine OpsL.loadM hb ?_ evd sdc
 refine OpsL.c1 (hf := entersSized) (hc := (isSizedC W0 hG).ok) (h := ?_)
 rintro v1 nx1 H1 ⟨⟨rfl, y1⟩, ok1⟩
 cases hs1 : sizedF m
 ·repeat (first | (refine OpsL.q (by first | exact omv | exact onot | exact opkT) ?_) | (refine OpsL.nil ?_; (change Trip _ _ _ _ _)) | (refine OpsL.skp ?_))
  refine zg90 ?_
  exact ⟨.inr rfl, _, res_tmp, by simp [tmPut, modF, hs1], x0.trans y1⟩
 repeat (first | (refine OpsL.q (by first | exact omv | exact onot) ?_) | (refine OpsL.ung ?_))
 refine OpsL.loadM (hb.ext y1 okG) ?_ evd sdc
 refine zg69 ?_
 refine OpsL.c1 (hf := entersHoused) (hc := (isHousedC W0 (hG.ext y1 okG) hn).ok) (h := ?_)
 rintro v2 nx2 H2 ⟨⟨rfl, y2⟩, ok2⟩
 have z2 := y1.trans y2
 cases hs2 : housedF m
 ·repeat (first | (refine OpsL.q (by first | exact onot | exact opkF) ?_) | (refine OpsL.nil ?_; (change Trip _ _ _ _ _)) | (refine OpsL.ung ?_))
  refine zg90 ?_
  exact ⟨.inr rfl, _, res_tmp, by simp [tmPut, modF, hs1, hs2], x0.trans z2⟩
 have c2 := cell_ext z2 okG g2
 repeat (first | (refine OpsL.q (by first | exact onot | exact opkF) ?_) | (refine OpsL.nil ?_; (change Trip _ _ _ _ _)) | (refine OpsL.ung ?_))
 refine zg88 ?_
 repeat (first | (refine OpsL.q (by first | exact omv | exact olen | exact ofa | exact old) ?_) | (refine Trip.seq ?_) | (refine Trip.ops ?_) | (refine Trip.block ?_) | (refine Trip.skip ?_; (change Trip _ _ _ _ _)) | (refine OpsL.nil ?_; (change Trip _ _ _ _ _)))
 have hF : modF m = allN m.of.length (stateF m) := by unfold modF; rw [hs1, hs2]; rfl
 obtain ⟨-, -, -, -, f1, f2, f3, f4⟩ := of_decide_eq_true hs1
 rw [hF]
 clear hF c2
 refine Trip.inv (fun (i : Nat) s => ∃ (tm : Nat → Value) (nx' : Nat) (H' : Heap), s = ⟨tm, n, H', nx'⟩ ∧ Ext (nx + 1) G nx' H' ∧ tm 1 = .pointer (some ⟨nx, 0, none⟩) ∧ tm 14 = .int .i64 m.of.length ∧ tm 15 = .int .i64 i ∧ i ≤ m.of.length ∧ allN i (stateF m) = true) (fun i => m.of.length - i) 0 ?_ ?_
 ·exact ⟨_, _, _, rfl, z2, stp, stp, stp, by omega, allN_zero⟩
 rintro i s ⟨tm, nx', H', rfl, hx, e1, e14, e15, hi, hall⟩
 repeat (first | (refine OpsL.q (by first | exact omv | exact oasg | exact olss) ?_) | (refine Trip.seq ?_) | (refine Trip.ops ?_) | (refine Trip.block ?_) | (refine Trip.itA (fun _ => ?_) (fun _ => ?_)) | (refine Trip.skip ?_; (change Trip _ _ _ _ _)) | (refine OpsL.nil ?_; (change Trip _ _ _ _ _)))
 ·have hlt : i < m.of.length := by omega
  refine OpsL.loadM (hb.ext hx okG) ?_ evd sdc
  refine zg61 ?_
  refine OpsL.c2 (hf := entersPlain) (hc := (isPlainC W0 (hG.ext hx okG) hn hlt (by omega)).ok) (h := ?_)
  rintro v3 nx3 H3 ⟨⟨rfl, y3⟩, ok3⟩
  have z3 := hx.trans y3
  cases hp : plnF m i
  ·repeat (first | (refine OpsL.q (by first | exact omv | exact onot | exact opkT) ?_) | (refine OpsL.nil ?_; (change Trip _ _ _ _ _)) | (refine OpsL.skp ?_))
   refine zg80 ?_
   exact ⟨.inr rfl, _, res_tmp, by rw [allN_no hlt (by simp [stateF, hp])]; rfl, x0.trans z3⟩
  repeat (first | (refine OpsL.q (by first | exact omv | exact onot) ?_) | (refine OpsL.ung ?_))
  refine OpsL.loadM (hb.ext z3 okG) ?_ evd sdc
  refine zg99 ?_
  refine OpsL.c2 (hf := entersLow) (hc := (isLowC W0 (hG.ext z3 okG) hn hlt (by omega)).ok) (h := ?_)
  rintro v4 nx4 H4 ⟨⟨rfl, y4⟩, ok4⟩
  have z4 := z3.trans y4
  cases hl : lowF m i
  ·repeat (first | (refine OpsL.q (by first | exact omv | exact onot | exact opkT | exact opkF) ?_) | (refine OpsL.nil ?_; (change Trip _ _ _ _ _)) | (refine OpsL.ung ?_) | (refine OpsL.skp ?_))
   refine zg80 ?_
   exact ⟨.inr rfl, _, res_tmp, by rw [allN_no hlt (by simp [stateF, hp, hl])]; rfl, x0.trans z4⟩
  repeat (first | (refine OpsL.q (by first | exact omv | exact onot | exact opkF) ?_) | (refine OpsL.ung ?_))
  refine OpsL.loadM (hb.ext z4 okG) ?_ evd sdc
  refine zg99 ?_
  refine OpsL.c2 (hf := entersRet) (hc := (isRetC W0 (hG.ext z4 okG) hn hlt (by omega)).ok) (h := ?_)
  rintro v5 nx5 H5 ⟨⟨rfl, y5⟩, ok5⟩
  have z5 := z4.trans y5
  cases hr : retF m i
  ·repeat (first | (refine OpsL.q (by first | exact onot | exact opkF) ?_) | (refine OpsL.nil ?_; (change Trip _ _ _ _ _)) | (refine OpsL.ung ?_))
   refine zg80 ?_
   exact ⟨.inr rfl, _, res_tmp, by rw [allN_no hlt (by simp [stateF, hp, hl, hr])]; rfl, x0.trans z5⟩
  repeat (first | (refine OpsL.q (by first | exact onot | exact opkF) ?_) | (refine OpsL.nil ?_; (change Trip _ _ _ _ _)) | (refine OpsL.ung ?_))
  refine zg88 ?_
  refine zg20 ?_
  exact ⟨i + 1, ⟨_, _, _, rfl, z5, stp, stp, stp, by omega, allN_put hall (by simp [stateF, hp, hl, hr])⟩, by omega⟩
 ·repeat (first | (refine OpsL.q (by exact oasg) ?_) | (refine Trip.seq ?_) | (refine Trip.ops ?_) | (refine Trip.exit ?_; ((repeat (refine blockExit_eq ?_)); change Trip _ _ _ _ _)) | (refine Trip.ret ?_; (dsimp only)) | (refine OpsL.nil ?_; (change Trip _ _ _ _ _)))
  have hi2 : i = m.of.length := by omega
  subst hi2
  exact ⟨.inr rfl, _, res_tmp, by rw [hall]; rfl, x0.trans hx⟩
theorem entersFCheck : Am.Enters Try.prog 19 := ⟨Try.f19, Try.func19, by kernel_rfl, by kernel_rfl⟩
set_option maxRecDepth 20000 in
set_option maxHeartbeats 8000000 in
theorem fcheckC (W0 : World) {nx : Nat} {H : Heap} {m : Mo} {V : MoV} (hm : MoIn H m V) (hn : MoLen m) : ACalls Try.prog W0 19 [.agg (moV m V).toArray] nx H fun v nx' H' => v = .int .i64 (if modF m then 0 else 11) ∧ Ext nx H nx' H' := by
 refine ACalls.by_trip (fn := Try.f19) (c := _) Try.func19 rfl (fun tm n hn0 htm => ?_)
 have e0 : tm 0 = .agg (moV m V).toArray := htm 0
 clear htm
 replace hn0 : n = 6 := hn0
 refine Trip.ok fun hok => ?_
 replace hok : ∀ id o, H id = some o → id < nx := hok
 refine zg29 ?_
 refine OpsL.boxM hm hok ?_ evd sdc
 intro G x0 okG hb hG
 clear e0
 refine zg25 ?_
 refine OpsL.loadM hb ?_ evd sdc
 refine OpsL.c1 (hf := entersIsMod) (hc := (isModC W0 hG hn)) (h := ?_)
 rintro v1 nx1 H1 ⟨rfl, y1⟩
 cases hs1 : modF m
 ·repeat (first | (refine OpsL.q (by exact onot) ?_) | (refine OpsL.nil ?_; (change Trip _ _ _ _ _)))
  refine zg90 ?_
  exact ⟨.inr rfl, _, res_tmp, stp, x0.trans y1⟩
 ·repeat (first | (refine OpsL.q (by exact onot) ?_) | (refine OpsL.nil ?_; (change Trip _ _ _ _ _)))
  refine zg88 ?_
  repeat (first | (refine OpsL.q (by exact oasg) ?_) | (refine Trip.seq ?_) | (refine Trip.ops ?_) | (refine Trip.skip ?_; (change Trip _ _ _ _ _)) | (refine Trip.ret ?_; (dsimp only)) | (refine OpsL.nil ?_; (change Trip _ _ _ _ _)))
  exact ⟨.inr rfl, _, res_tmp, stp, x0.trans y1⟩
end Go.Proofs.Ytjgbcpagfghfnaa
namespace Go.Am
open Go.RowKit
theorem wf64 {a : Int} (h : (Lit.int .i64 a).wf = true) : -9223372036854775808 ≤ a ∧ a ≤ 9223372036854775807 := by
 have h' : (decide (IntKind.i64.min ≤ a) && decide (a ≤ IntKind.i64.max)) = true := h
 rw [Bool.and_eq_true, decide_eq_true_eq, decide_eq_true_eq] at h'
 exact h'
theorem res_cell2 {P : Program} {st : ASt} {t s : Tmp} {ty : TypeId} {a : Addr} {v : Value} (ht : st.tm t = .pointer (some a)) (hr : readAt P st.H ty a = some v) : aResults P st #[.cell t ty, .tmp s] = some (.tuple #[v, st.tm s]) := by simp [aResults, aResultL, aResult, ht, hr]
def noMo : Mo := ⟨0, 0, [], [], [], [], [], []⟩
theorem noMo_in (H : Heap) : MoIn H noMo nilV := ⟨.inl ⟨0, rfl, rfl⟩, .inl ⟨0, rfl, rfl⟩, .inl ⟨0, rfl, rfl⟩, .inl ⟨0, rfl, rfl⟩, .inl ⟨0, rfl, rfl⟩, .inl ⟨0, rfl, rfl⟩⟩
end Go.Am
namespace Go.Proofs.Ytjgbcpagfghfnaa
open Go.Am Go.RowKit
attribute [local irreducible] aop OpsL Trip blockExit OpsD OpsK OpsR OpsQ
theorem MkO.in {σ : CH} {m : Mo} {V : MoV} (h : MkO σ m V) : MoIn σ.H m V :=
 ⟨h.of.ints, h.en.ints, h.fi.bools, OwnLC.at (fun _ _ _ hr => hr.ints) h.inn, OwnLC.at (fun _ _ _ hr => hr.ints) h.low, OwnLC.at (fun _ _ _ hr => OwnLC.at (fun _ _ _ hr => hr.ints) hr) h.ret⟩
theorem entersMake : Am.Enters Try.prog 7 := ⟨Try.f7, Try.func7, by kernel_rfl, by kernel_rfl⟩
theorem makeC (W0 : World) {nx : Nat} {H : Heap} {nv : Value} {ns : List Int} {size : Int} (hn : IntsAt H nv ns) (hok : ∀ id o, H id = some o → id < nx) (hs : -9223372036854775808 ≤ size ∧ size ≤ 9223372036854775807) :
  ACalls Try.prog W0 7 [.int .i64 size, nv] nx H fun v nx' H' => ∃ V σ, v = .agg (moV (makeF size ns) V).toArray ∧ nx' = σ.nx ∧ H' = σ.H ∧ OldC ⟨nx, fun _ => .old, H⟩ σ ∧ MkO σ (makeF size ns) V :=
 makeC0 W0 (σ0 := ⟨nx, fun _ => .old, H⟩) (fun _ _ => rfl) (IntsC.of hn hok) hs
theorem entersFSmall : Am.Enters Try.prog 8 := ⟨Try.f8, Try.func8, by kernel_rfl, by kernel_rfl⟩
end Go.Proofs.Ytjgbcpagfghfnaa
namespace Go.Am
open Go.RowKit
theorem flat_map1 {α : Type} {enc : α → List Value} {f : α → Value} (h : ∀ x, enc x = [f x]) (l : List α) : l.flatMap enc = l.map f := by
 induction l with
 | nil => rfl
 | cons x l ih => rw [List.flatMap_cons, ih, h]; rfl
section
variable {α : Type} {enc : α → List Value} {f : α → Value} {el : TypeId} {c : Co} {σ : CH} {v : Value} {l : List α}
theorem OwnC.opn (he : ∀ x, enc x = [f x]) (h : OwnC enc el c σ v l) (hl : l ≠ []) : ∃ b t rest, v = .slice (some ⟨b, 0, some t⟩) l.length l.length ∧ ObC c σ b (.cells (l.map f ++ rest) 1 (some t) false (some el)) := by
 obtain ⟨ob, ho, hc⟩ := h
 cases ob with
 | none => obtain ⟨_, _, h0⟩ := ho; exact absurd (List.eq_nil_of_length_eq_zero h0) hl
 | some bt =>
  obtain ⟨b, t⟩ := bt
  obtain ⟨h1, h2, rest, h3⟩ := ho
  rw [flat_map1 he] at h3
  exact ⟨b, t, rest, h1, (hc b t rfl).1, (hc b t rfl).2, h3⟩
theorem OwnC.cls (he : ∀ x, enc x = [f x]) {b t : Nat} {rest : List Value} (h : ObC c σ b (.cells (l.map f ++ rest) 1 (some t) false (some el))) : OwnC enc el c σ (.slice (some ⟨b, 0, some t⟩) l.length l.length) l := by
 refine ⟨some (b, t), ⟨rfl, ?_, rest, ?_⟩, fun b' t' e => ?_⟩
 ·rw [flat_map1 he, List.length_map, Nat.mul_one]
 ·rw [flat_map1 he]; exact h.2.2
 ·cases e
  exact ⟨h.1, h.2.1⟩
end
theorem Chg.ofExt {σ : CH} {nx' : Nat} {H' : Heap} (h : Ext σ.nx σ.H nx' H') : ∃ τ : CH, nx' = τ.nx ∧ H' = τ.H ∧ Chg [] σ τ :=
 ⟨⟨nx', fun i => if i < σ.nx then σ.C i else .tmp, H'⟩, rfl, rfl, h.1, fun i hi => ⟨if_pos hi, fun _ => h.2 i hi⟩⟩
theorem encN_f (x : Int) : encN x = [(fun x => Value.int .i64 x) x] := rfl
theorem encS_f (s : SV) : encS s = [slV s] := rfl
end Go.Am
namespace Go.Proofs.Ytjgbcpagfghfnaa
open Go.Am Go.RowKit
end Go.Proofs.Ytjgbcpagfghfnaa
namespace Go.Am
open Go.RowKit
def pickL (l places : List Int) : List Int := places.map fun a => l.getD a.toNat 0
theorem pickL_len (l places : List Int) : (pickL l places).length = places.length := by simp [pickL]
def NewP (el : TypeId) (nx : Nat) (nx' : Nat) (H' : Heap) (v : Value) (cs : List Value) : Prop := ∃ b, nx ≤ b ∧ b < nx' ∧ v = .slice (some ⟨b, 0, none⟩) cs.length cs.length ∧ H' b = some (.cells cs 1 none false (some el))
theorem NewP.ints {el : TypeId} {nx nx' : Nat} {H' : Heap} {v : Value} {l : List Int} (h : NewP el nx nx' H' v (l.map (.int .i64 ·))) : IntsAt H' v l := by
 obtain ⟨b, _, _, rfl, hH⟩ := h
 refine .inr ⟨⟨b, 0, none⟩, l.length, by rw [List.length_map], fun i hi => ?_⟩
 rw [Nat.zero_add]
 exact cell_of hH (by rw [List.getElem?_map, List.getElem?_eq_getElem hi]; rfl)
theorem NewP.plain {el : TypeId} {σ : CH} {nx' : Nat} {H' : Heap} {v : Value} {cs : List Value} (h : NewP el σ.nx nx' H' v cs) (hx : Ext σ.nx σ.H nx' H') (c : Co) : ∃ τ : CH, nx' = τ.nx ∧ H' = τ.H ∧ Chg [] σ τ ∧ PlainC el c τ v cs := by
 obtain ⟨b, h1, h2, rfl, hH⟩ := h
 exact ⟨⟨nx', fun i => if i < σ.nx then σ.C i else c, H'⟩, rfl, rfl, ⟨hx.1, fun i hi => ⟨if_pos hi, fun _ => hx.2 i hi⟩⟩, b, rfl, h2, if_neg (by omega), hH⟩
def rankN (l : List Bool) (i : Nat) : Nat := (l.take i).count true
def rankL (l : List Bool) : List Int := (List.range l.length).map fun i => if l.getD i false then (rankN l i : Int) else -1
theorem rankN_succ {l : List Bool} {i : Nat} (h : i < l.length) : rankN l (i + 1) = rankN l i + (if l.getD i false then 1 else 0) := by
 unfold rankN
 rw [List.take_succ_eq_append_getElem h, List.count_append, List.getD_eq_getElem?_getD, List.getElem?_eq_getElem h]
 cases l[i] <;> rfl
theorem rankN_le (l : List Bool) (i : Nat) : rankN l i ≤ i := by
 unfold rankN
 refine Nat.le_trans List.count_le_length ?_
 rw [List.length_take]
 omega
def leastL (l : List Int) : Nat → List Int
 | 0 => []
 | i + 1 => if l.getD i 0 = (leastL l i).length then leastL l i ++ [(i : Int)] else leastL l i
theorem leastL_len (l : List Int) : ∀ i, (leastL l i).length ≤ i
 | 0 => Nat.le_refl _
 | i + 1 => by
  have := leastL_len l i
  unfold leastL
  split
  ·simp; omega
  ·omega
theorem rep_snoc {l : List Int} {n i : Nat} {x z : Int} (hl : l.length = i) (h : i < n) : (l ++ List.replicate (n - i) z).set i x = (l ++ [x]) ++ List.replicate (n - (i + 1)) z := by
 obtain ⟨k, rfl⟩ : ∃ k, n = i + 1 + k := ⟨n - (i + 1), by omega⟩
 subst hl
 rw [List.set_append_right _ _ (Nat.le_refl _), Nat.sub_self, show l.length + 1 + k - l.length = k + 1 by omega, show l.length + 1 + k - (l.length + 1) = k by omega, List.replicate_succ, List.append_assoc]
 rfl
end Go.Am
namespace Go.Proofs.Ytjgbcpagfghfnaa
open Go.Am Go.RowKit
attribute [local irreducible] aop OpsL Trip blockExit OpsD OpsK OpsR OpsQ
theorem entersPick : Am.Enters Try.prog 37 := ⟨Try.f37, Try.func37, by kernel_rfl, by kernel_rfl⟩
set_option maxRecDepth 20000 in
set_option maxHeartbeats 16000000 in
theorem pickC (W0 : World) {nx : Nat} {H : Heap} {lv pv : Value} {l places : List Int} (hl : IntsAt H lv l) (hp : IntsAt H pv places) (hpl : places.length ≤ 100000) (hin : ∀ i, i < places.length → 0 ≤ places.getD i 0 ∧ places.getD i 0 < l.length) :
  ACalls Try.prog W0 37 [lv, pv] nx H fun v nx' H' => NewP 3 nx nx' H' v ((pickL l places).map (.int .i64 ·)) ∧ Ext nx H nx' H' := by
 refine ACalls.by_trip (fn := Try.f37) (c := _) Try.func37 rfl (fun tm n hn0 htm => ?_)
 have e0 : tm 0 = lv := htm 0
 have e1 : tm 1 = pv := htm 1
 clear htm
 replace hn0 : n = 27 := hn0
 refine Trip.ok fun hok => ?_
 replace hok : ∀ id o, H id = some o → id < nx := hok
 obtain ⟨la, lc, rfl⟩ := hl.slice
 obtain ⟨pa, pc, rfl⟩ := hp.slice
 refine zg82 ?_
 refine OpsL.new sdc (aop_makeSlice evd evd (aMakeSlice_one (m := places.length) (bytes := 8) (z := .int .i64 0) xrf xrf xrf xrf (by omega) (by omega))) ?_
 refine zg44 ?_
 refine Trip.inv (fun (i : Nat) s => ∃ (tm : Nat → Value) (F : Heap), s = ⟨tm, n, F, nx + 1⟩ ∧ Ext nx H (nx + 1) F ∧ F nx = some (.cells ((pickL l (places.take i) ++ List.replicate (places.length - i) 0).map (.int .i64 ·)) 1 none false (some 3)) ∧ tm 0 = .slice la l.length lc ∧ tm 5 = .slice (some ⟨nx, 0, none⟩) places.length places.length ∧ tm 11 = .slice pa places.length pc ∧ tm 12 = .int .i64 places.length ∧ tm 13 = .int .i64 i ∧ i ≤ places.length) (fun i => places.length - i) 0 ?_ ?_
 ·refine ⟨_, _, rfl, Ext.newPut, ?_, stp, stp, stp, stp, stp, by omega⟩
  rw [Heap.put_eq]
  simp [pickL]
 clear e0 e1
 rintro i s ⟨tm, F, rfl, hx, hF, e0, e5, e11, e12, e13, hi⟩
 repeat (first | (refine OpsL.q (by first | exact omv | exact olss) ?_) | (refine Trip.seq ?_) | (refine Trip.ops ?_) | (refine Trip.block ?_) | (refine Trip.itA (fun _ => ?_) (fun _ => ?_)) | (refine Trip.skip ?_; (change Trip _ _ _ _ _)) | (refine OpsL.nil ?_; (change Trip _ _ _ _ _)))
 ·have hlt : i < places.length := by omega
  obtain ⟨q, rfl, hc⟩ := IntsAt.atI (hp.ext hx hok) (show (0 : Int) ≤ i by omega) (show (i : Int) < places.length by omega)
  rw [Int.toNat_natCast] at hc
  obtain ⟨h0, h1⟩ := hin i hlt
  have hpk : pickL l (places.take (i + 1)) = pickL l (places.take i) ++ [l.getD (places.getD i 0).toNat 0] := by
   unfold pickL
   rw [List.take_succ_eq_append_getElem hlt, List.map_append, List.getD_eq_getElem?_getD (l := places), List.getElem?_eq_getElem hlt]
   rfl
  have hpll : (pickL l (places.take i)).length = i := by rw [pickL_len, List.length_take]; omega
  obtain ⟨a, ha⟩ : ∃ a, places.getD i 0 = a := ⟨_, rfl⟩
  rw [ha] at hc h0 h1 hpk
  obtain ⟨q1, rfl, hc1⟩ := IntsAt.atI (hl.ext hx hok) h0 h1
  repeat (first | (refine OpsL.q (by first | exact omv | exact oasg | exact oixa | exact old) ?_) | (refine Trip.ops ?_) | (refine OpsL.nil ?_; (change Trip _ _ _ _ _)))
  refine OpsL.storeAt (a := ⟨nx, 0 + (i : Int).toNat * 1, none⟩) (v := .int .i64 (l.getD a.toNat 0)) (cs' := (pickL l (places.take (i + 1)) ++ List.replicate (places.length - (i + 1)) 0).map (.int .i64 ·)) i evr evd xrf rfl rfl hF (by simp) (by simp [hpll]; omega) (by rw [set_ints, rep_snoc hpll hlt, hpk]) ?_
  refine zg30 ?_
  exact ⟨i + 1, ⟨_, _, rfl, ⟨by omega, fun j hj => by rw [Heap.put_ne (by show j ≠ nx; omega), hx.2 j hj]⟩, Heap.put_eq, stp, stp, stp, stp, stp, by omega⟩, by omega⟩
 ·repeat (first | (refine OpsL.q (by first | exact omv | exact oasg) ?_) | (refine Trip.seq ?_) | (refine Trip.ops ?_) | (refine Trip.exit ?_; ((repeat (refine blockExit_eq ?_)); change Trip _ _ _ _ _)) | (refine Trip.ret ?_; (dsimp only)) | (refine OpsL.nil ?_; (change Trip _ _ _ _ _)))
  have hi2 : i = places.length := by omega
  subst hi2
  rw [List.take_length, Nat.sub_self, List.replicate_zero, List.append_nil] at hF
  exact ⟨.inr rfl, _, res_tmp, ⟨nx, Nat.le_refl _, Nat.lt_succ_self _, by simp [tmPut, pickL_len], hF⟩, hx⟩
theorem entersRanks : Am.Enters Try.prog 24 := ⟨Try.f24, Try.func24, by kernel_rfl, by kernel_rfl⟩
set_option maxRecDepth 20000 in
set_option maxHeartbeats 16000000 in
theorem ranksC (W0 : World) {nx : Nat} {H : Heap} {bv : Value} {l : List Bool} (hl : BoolsAt H bv l) (hll : l.length ≤ 100000) :
  ACalls Try.prog W0 24 [bv] nx H fun v nx' H' => NewP 3 nx nx' H' v ((rankL l).map (.int .i64 ·)) ∧ Ext nx H nx' H' := by
 refine ACalls.by_trip (fn := Try.f24) (c := _) Try.func24 rfl (fun tm n hn0 htm => ?_)
 have e0 : tm 0 = bv := htm 0
 clear htm
 replace hn0 : n = 29 := hn0
 refine Trip.ok fun hok => ?_
 replace hok : ∀ id o, H id = some o → id < nx := hok
 obtain ⟨la, lc, rfl⟩ := hl.slice
 refine zg82 ?_
 refine OpsL.new sdc (aop_makeSlice evd evd (aMakeSlice_one (m := l.length) (bytes := 8) (z := .int .i64 0) xrf xrf xrf xrf (by omega) (by omega))) ?_
 refine zg44 ?_
 refine Trip.inv (fun (i : Nat) s => ∃ (tm : Nat → Value) (F : Heap), s = ⟨tm, n, F, nx + 1⟩ ∧ Ext nx H (nx + 1) F ∧ F nx = some (.cells ((((List.range i).map fun i => if l.getD i false then (rankN l i : Int) else -1) ++ List.replicate (l.length - i) 0).map (.int .i64 ·)) 1 none false (some 3)) ∧ tm 3 = .slice (some ⟨nx, 0, none⟩) l.length l.length ∧ tm 4 = .int .i64 (rankN l i) ∧ tm 10 = .slice la l.length lc ∧ tm 11 = .int .i64 l.length ∧ tm 12 = .int .i64 i ∧ i ≤ l.length) (fun i => l.length - i) 0 ?_ ?_
 ·refine ⟨_, _, rfl, Ext.newPut, ?_, stp, by simp [tmPut, rankN], stp, stp, stp, by omega⟩
  rw [Heap.put_eq]
  simp
 clear e0
 rintro i s ⟨tm, F, rfl, hx, hF, e3, e4, e10, e11, e12, hi⟩
 repeat (first | (refine OpsL.q (by first | exact omv | exact olss) ?_) | (refine Trip.seq ?_) | (refine Trip.ops ?_) | (refine Trip.block ?_) | (refine Trip.itA (fun _ => ?_) (fun _ => ?_)) | (refine Trip.skip ?_; (change Trip _ _ _ _ _)) | (refine OpsL.nil ?_; (change Trip _ _ _ _ _)))
 ·have hlt : i < l.length := by omega
  obtain ⟨q, rfl, hc⟩ := BoolsAt.atI (hl.ext hx hok) (show (0 : Int) ≤ i by omega) (show (i : Int) < l.length by omega)
  rw [Int.toNat_natCast] at hc
  have hr := rankN_succ hlt
  have hrl := rankN_le l i
  have hml : ((List.range i).map fun i => if l.getD i false then (rankN l i : Int) else -1).length = i := by simp
  have hms : ((List.range (i + 1)).map fun i => if l.getD i false then (rankN l i : Int) else -1) = ((List.range i).map fun i => if l.getD i false then (rankN l i : Int) else -1) ++ [if l.getD i false then (rankN l i : Int) else -1] := by rw [List.range_succ, List.map_append]; rfl
  generalize ((List.range i).map fun i => if l.getD i false then (rankN l i : Int) else -1) = M at *
  obtain ⟨b, hb⟩ : ∃ b, l.getD i false = b := ⟨_, rfl⟩
  rw [hb] at hc hr hms
  repeat (first | (refine OpsL.q (by first | exact omv | exact oasg | exact oixa | exact old) ?_) | (refine Trip.seq ?_) | (refine Trip.ops ?_) | (refine OpsL.nil ?_; (change Trip _ _ _ _ _)))
  refine OpsL.storeAt (a := ⟨nx, 0 + (i : Int).toNat * 1, none⟩) (v := .int .i64 (-1)) (cs' := ((M ++ [(-1 : Int)]) ++ List.replicate (l.length - (i + 1)) 0).map (.int .i64 ·)) i evr (by rfl) xrf rfl rfl hF (by simp) (by simp [hml]; omega) (by rw [set_ints, rep_snoc hml hlt]) ?_
  refine zg46 ?_
  (change Trip _ _ _ _ _)
  have hx1 : Ext nx H (nx + 1) (F.put nx (.cells (((M ++ [(-1 : Int)]) ++ List.replicate (l.length - (i + 1)) 0).map (.int .i64 ·)) 1 none false (some 3))) := ⟨by omega, fun j hj => by rw [Heap.put_ne (by show j ≠ nx; omega), hx.2 j hj]⟩
  have hF1 : (F.put nx (.cells (((M ++ [(-1 : Int)]) ++ List.replicate (l.length - (i + 1)) 0).map (.int .i64 ·)) 1 none false (some 3))) nx = some (.cells (((M ++ [(-1 : Int)]) ++ List.replicate (l.length - (i + 1)) 0).map (.int .i64 ·)) 1 none false (some 3)) := Heap.put_eq
  generalize hG : (F.put nx (.cells (((M ++ [(-1 : Int)]) ++ List.replicate (l.length - (i + 1)) 0).map (.int .i64 ·)) 1 none false (some 3))) = G at *
  clear hG hF
  cases b
  ·repeat (first | (refine OpsL.q (by exact omv) ?_) | (refine Trip.seq ?_) | (refine Trip.ops ?_) | (refine OpsL.nil ?_; (change Trip _ _ _ _ _)))
   refine zg88 ?_
   refine zg20 ?_
   exact ⟨i + 1, ⟨_, _, rfl, hx1, by rw [hms]; exact hF1, stp, by simp [tmPut, hr, *], stp, stp, stp, by omega⟩, by omega⟩
  ·repeat (first | (refine OpsL.q (by exact omv) ?_) | (refine Trip.seq ?_) | (refine Trip.ops ?_) | (refine OpsL.nil ?_; (change Trip _ _ _ _ _)))
   refine Trip.ifT ?_
   repeat (first | (refine OpsL.q (by first | exact omv | exact oixa) ?_) | (refine Trip.seq ?_) | (refine Trip.ops ?_))
   refine OpsL.storeAt (a := ⟨nx, 0 + (i : Int).toNat * 1, none⟩) (v := .int .i64 (rankN l i)) (cs' := ((M ++ [(rankN l i : Int)]) ++ List.replicate (l.length - (i + 1)) 0).map (.int .i64 ·)) i evr evd xrf rfl rfl hF1 (by simp) (by rw [List.length_map, List.length_append, List.length_append, hml]; simp only [List.length_singleton]; omega) (by rw [set_ints, List.append_assoc, List.set_append_right _ _ (by omega), hml, Nat.sub_self, List.append_assoc]; try rfl) ?_
   repeat (first | (refine OpsL.q (by first | exact omv | exact oasg | exact oadd) ?_) | (refine Trip.ops ?_) | (refine OpsL.nil ?_; ((repeat (refine blockExit_normal ?_)); first | (change Trip _ _ _ _ _) | (dsimp only))))
   exact ⟨i + 1, ⟨_, _, rfl, ⟨by omega, fun j hj => by rw [Heap.put_ne (by show j ≠ nx; omega), hx1.2 j hj]⟩, by rw [hms]; exact Heap.put_eq, stp, by simp [tmPut, hr, *], stp, stp, stp, by omega⟩, by omega⟩
 ·repeat (first | (refine OpsL.q (by first | exact omv | exact oasg) ?_) | (refine Trip.seq ?_) | (refine Trip.ops ?_) | (refine Trip.exit ?_; ((repeat (refine blockExit_eq ?_)); change Trip _ _ _ _ _)) | (refine Trip.ret ?_; (dsimp only)) | (refine OpsL.nil ?_; (change Trip _ _ _ _ _)))
  have hi2 : i = l.length := by omega
  subst hi2
  rw [Nat.sub_self, List.replicate_zero, List.append_nil] at hF
  exact ⟨.inr rfl, _, res_tmp, ⟨nx, Nat.le_refl _, Nat.lt_succ_self _, by simp [tmPut, rankL, *], hF⟩, hx⟩
theorem entersLeasts : Am.Enters Try.prog 38 := ⟨Try.f38, Try.func38, by kernel_rfl, by kernel_rfl⟩
set_option maxRecDepth 20000 in
set_option maxHeartbeats 16000000 in
theorem leastsC (W0 : World) {nx : Nat} {H : Heap} {cv : Value} {l : List Int} (hl : IntsAt H cv l) (hll : l.length ≤ 100000) :
  ACalls Try.prog W0 38 [cv] nx H fun v nx' H' => ∃ ob, OwnInts H' ob 3 v (leastL l l.length) ∧ (∀ b t, ob = some (b, t) → nx ≤ b ∧ b < nx') ∧ Ext nx H nx' H' := by
 refine ACalls.by_trip (fn := Try.f38) (c := _) Try.func38 rfl (fun tm n hn0 htm => ?_)
 have e0 : tm 0 = cv := htm 0
 clear htm
 replace hn0 : n = 23 := hn0
 refine Trip.ok fun hok => ?_
 replace hok : ∀ id o, H id = some o → id < nx := hok
 obtain ⟨la, lc, rfl⟩ := hl.slice
 refine zg44 ?_
 refine Trip.inv (fun (i : Nat) s => ∃ (tm : Nat → Value) (nx' : Nat) (F : Heap) (ob : Option (Nat × Nat)) (v : Value), s = ⟨tm, n, F, nx'⟩ ∧ Ext nx H nx' F ∧ OwnInts F ob 3 v (leastL l i) ∧ (∀ b t, ob = some (b, t) → nx ≤ b ∧ b < nx') ∧ tm 3 = v ∧ tm 6 = .slice la l.length lc ∧ tm 7 = .int .i64 l.length ∧ tm 8 = .int .i64 i ∧ i ≤ l.length) (fun i => l.length - i) 0 ?_ ?_
 ·exact ⟨_, _, _, none, _, rfl, Ext.refl, ⟨rfl, rfl, rfl⟩, fun _ _ h => (by cases h), stp, stp, stp, stp, by omega⟩
 clear e0
 rintro i s ⟨tm, nx', F, ob, v, rfl, hx, hown, hob, e3, e6, e7, e8, hi⟩
 obtain ⟨va, vc, hv⟩ := (OwnInts.at hown).slice
 have hll2 := leastL_len l i
 repeat (first | (refine OpsL.q (by first | exact omv | exact olss) ?_) | (refine Trip.seq ?_) | (refine Trip.ops ?_) | (refine Trip.block ?_) | (refine Trip.itA (fun _ => ?_) (fun _ => ?_)) | (refine Trip.skip ?_; (change Trip _ _ _ _ _)) | (refine OpsL.nil ?_; (change Trip _ _ _ _ _)))
 ·have hlt : i < l.length := by omega
  obtain ⟨q, rfl, hc⟩ := IntsAt.atI (hl.ext hx hok) (show (0 : Int) ≤ i by omega) (show (i : Int) < l.length by omega)
  rw [Int.toNat_natCast] at hc
  rw [hv] at e3
  repeat (first | (refine OpsL.q (by first | exact omv | exact oasg | exact oixa | exact old | exact olen) ?_) | (refine Trip.seq ?_) | (refine Trip.ops ?_) | (refine OpsL.nil ?_; (change Trip _ _ _ _ _)))
  by_cases h : l.getD i 0 = ((leastL l i).length : Int)
  ·refine OpsL.eqlT ?_ (c := h)
   have hs : leastL l (i + 1) = leastL l i ++ [(i : Int)] := by
    show (if l.getD i 0 = (leastL l i).length then leastL l i ++ [(i : Int)] else leastL l i) = _
    rw [if_pos h]
   clear h
   refine zg68 ?_
   refine zg87 ?_
   rw [hv] at hown
   refine OpsL.appendI sdc sdc evr (by decide) (by (simp only [tmPut, ↓reduceIte, reduceIte, Option.some.injEq, Nat.reduceEqDiff, *])) hown (fun b t hb => (hob b t hb).2) xrf xrf xrf xrf (by omega) ?_
   rintro v' ob' H'' hown' ⟨b, rfl, hb⟩ hsame
   refine zg55 ?_
   refine ⟨i + 1, ⟨_, _, _, some (b, nx' + 1), v', rfl, ?_, by rw [hs]; exact hown', fun b' t' e => ?_, stp, stp, stp, stp, by omega⟩, by omega⟩
   ·exact ⟨by have := hx.1; omega, fun k hk => by rw [hsame k (by have := hx.1; omega) (fun b t hb => by have := (hob b t hb).1; omega), hx.2 k hk]⟩
   ·cases e
    have := hx.1
    rcases hb with rfl | ⟨t, hb⟩
    ·omega
    ·have := hob _ _ hb; omega
  ·refine OpsL.eqlF ?_ (c := h)
   have hs : leastL l (i + 1) = leastL l i := by
    show (if l.getD i 0 = (leastL l i).length then leastL l i ++ [(i : Int)] else leastL l i) = _
    rw [if_neg h]
   clear h
   refine zg107 ?_
   refine zg20 ?_
   exact ⟨i + 1, ⟨_, _, _, ob, v, rfl, hx, by rw [hs]; exact hown, hob, stp, stp, stp, stp, by omega⟩, by omega⟩
 ·repeat (first | (refine OpsL.q (by first | exact omv | exact oasg) ?_) | (refine Trip.seq ?_) | (refine Trip.ops ?_) | (refine Trip.exit ?_; ((repeat (refine blockExit_eq ?_)); change Trip _ _ _ _ _)) | (refine Trip.ret ?_; (dsimp only)) | (refine OpsL.nil ?_; (change Trip _ _ _ _ _)))
  have hi2 : i = l.length := by omega
  subst hi2
  exact ⟨.inr rfl, _, res_tmp, ob, by rw [hv] at hown; simpa [tmPut, e3, hv] using hown, hob, hx⟩
end Go.Proofs.Ytjgbcpagfghfnaa
