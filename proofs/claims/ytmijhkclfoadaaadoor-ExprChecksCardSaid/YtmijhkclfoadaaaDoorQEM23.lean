import Derived.Test.YtmijhkclfoadaaaDoorQEM22
import Derived.Test.YtmijhkclfoadaaaDoorQEM21
import Derived.Test.YtmijhkclfoadaaaDoorQEM19
import Derived.Test.YtmijhkclfoadaaaDoorQEM16
namespace Go.Proofs.YtmijhkclfoadaaaDoor
set_option linter.unusedSimpArgs false
set_option linter.unusedVariables false
open Go.Am Go.RowKit
attribute [local irreducible] aop OpsL Trip blockExit OpsD OpsK OpsR
theorem SymsAt.kind {H : Heap} {a : Addr} {n c : Nat} {ss : List (ByteArray × Int)} (h : SymsAt H (.slice (some a) n c) ss) {j : Int} (h0 : 0 ≤ j) (h1 : j < ss.length) : cellAt H ⟨a.block, a.off + j.toNat * 2 + 1, a.spot⟩ (.int .i64 (kindX ss j)) := by
  obtain ⟨a', c', he, hs⟩ := h
  cases he
  have hj : j.toNat < ss.length := by omega
  have := hs j.toNat hj
  unfold kindX
  rw [List.getElem?_eq_getElem hj]
  exact cellAt_of_getc this
theorem entersRIs : Am.Enters Tryd.prog 73 := ⟨Tryd.f73, Tryd.func73, by kernel_rfl, by kernel_rfl⟩
set_option maxRecDepth 20000 in
set_option maxHeartbeats 8000000 in
theorem rIsC (W0 : World) {nx : Nat} {H : Heap} {lv : Value} {ss : List (ByteArray × Int)} (hl : SymsAt H lv ss) (hs : ss.length ≤ 1000) (j k : Int) : ACalls Tryd.prog W0 73 [lv, .int .i64 j, .int .i64 k] nx H fun v nx' H' => v = .bool (isX ss j k) ∧ nx' = nx ∧ H' = H := by
  obtain ⟨la, lc, rfl, _⟩ := id hl
  refine ACalls.by_trip (fn := Tryd.f73) (c := _) Tryd.func73 rfl (fun tm n hn0 htm => ?_)
  have e0 : tm 0 = .slice (some la) ss.length lc := htm 0
  have e1 : tm 1 = .int .i64 j := htm 1
  have e2 : tm 2 = .int .i64 k := htm 2
  clear htm
  replace hn0 : n = 28 := hn0
  by_cases h0 : j < 0
  · have hr : isX ss j k = false := by unfold isX; simp; omega
    repeat' (first | (first | (refine OpsL.q (by first | exact omv | exact oasg | exact ogeq | exact olen | exact olss | exact oeql | exact opkT | exact opkF) ?_) | (refine Trip.seq ?_) | (refine Trip.ops ?_) | (refine Trip.ret ?_; (dsimp only)) | (refine OpsL.nil ?_; (change Trip _ _ _ _ _)) | (refine OpsL.ung ?_) | (refine OpsL.skp ?_) | (refine OpsL.sku ?_) | (refine OpsL.gT (fun _ => ?_) (fun _ => ?_)) | (refine OpsL.gF (fun _ => ?_) (fun _ => ?_))) | fail)
    all_goals first | (exfalso; omega) | exact ⟨.inr rfl, _, res_tmp, by simp [tmPut, *], rfl, rfl⟩
  by_cases h1 : (ss.length : Int) ≤ j
  · have hr : isX ss j k = false := by unfold isX; simp; omega
    repeat' (first | (first | (refine OpsL.q (by first | exact omv | exact oasg | exact ogeq | exact olen | exact olss | exact oeql | exact opkT | exact opkF) ?_) | (refine Trip.seq ?_) | (refine Trip.ops ?_) | (refine Trip.ret ?_; (dsimp only)) | (refine OpsL.nil ?_; (change Trip _ _ _ _ _)) | (refine OpsL.ung ?_) | (refine OpsL.skp ?_) | (refine OpsL.sku ?_) | (refine OpsL.gT (fun _ => ?_) (fun _ => ?_)) | (refine OpsL.gF (fun _ => ?_) (fun _ => ?_))) | fail)
    all_goals first | (exfalso; omega) | exact ⟨.inr rfl, _, res_tmp, by simp [tmPut, *], rfl, rfl⟩
  have hc := hl.kind (show 0 ≤ j by omega) (show j < ss.length by omega)
  have hr : isX ss j k = (decide (k = 0) || decide (kindX ss j = k)) := by
    unfold isX kindX
    rw [decide_eq_true (show 0 ≤ j ∧ j < ss.length by omega), Bool.true_and]
  rw [hr]
  clear hr
  generalize kindX ss j = w at *
  repeat' (first | (first | (refine OpsL.q (by first | exact omv | exact oasg | exact ogeq | exact olen | exact olss | exact oeql | exact opkT | exact opkF | exact oixa | exact ofa | exact old) ?_) | (refine Trip.seq ?_) | (refine Trip.ops ?_) | (refine Trip.ret ?_; (dsimp only)) | (refine OpsL.nil ?_; (change Trip _ _ _ _ _)) | (refine OpsL.ung ?_) | (refine OpsL.skp ?_) | (refine OpsL.sku ?_) | (refine OpsL.gT (fun _ => ?_) (fun _ => ?_)) | (refine OpsL.gF (fun _ => ?_) (fun _ => ?_))) | fail)
  all_goals first | (exfalso; omega) | exact ⟨.inr rfl, _, res_tmp, by simp [tmPut, *], rfl, rfl⟩
end Go.Proofs.YtmijhkclfoadaaaDoor
namespace Go.Proofs.YtmijhkclfoadaaaDoor
set_option linter.unusedSimpArgs false
set_option linter.unusedVariables false
open Go.Am Go.RowKit
attribute [local irreducible] aop OpsL Trip blockExit OpsD OpsK OpsR
theorem entersPickX : Am.Enters Tryd.prog 67 := ⟨Tryd.f67, Tryd.func67, by kernel_rfl, by kernel_rfl⟩
set_option maxRecDepth 20000 in
set_option maxHeartbeats 8000000 in
theorem pickXC (W0 : World) {nx : Nat} {H : Heap} {b at_ : Nat} {lv nv : Value} {ss : List (ByteArray × Int)} {ns : List Int} (hm : MkrAt H b lv nv at_) (hl : SymsAt H lv ss) (hs0 : 0 < ss.length) (hss : ss.length ≤ 1000) (hn : IntsAt H nv ns) (hol : OffV b lv) (hof : ns ≠ [] → OffV b nv) (ha : at_ ≤ 4611686018427387904) (kd : Int) : ACalls Tryd.prog W0 67 [.pointer (some ⟨b, 0, none⟩), .int .i64 kd] nx H fun v nx' H' => v = .int .i64 (pickX ss ns kd at_).1 ∧ nx' = nx ∧ MkrAt H' b lv nv (pickX ss ns kd at_).2 ∧ ∀ k, k ≠ b → H' k = H k := by
  obtain ⟨la, lc, rfl, _⟩ := id hl
  refine ACalls.by_trip (fn := Tryd.f67) (c := _) Tryd.func67 rfl (fun tm n hn0 htm => ?_)
  have e0 : tm 0 = .pointer (some ⟨b, 0, none⟩) := htm 0
  have e1 : tm 1 = .int .i64 kd := htm 1
  clear htm
  replace hn0 : n = 44 := hn0
  have c0 := mkr_cell (k := 0) hm rfl
  repeat (first | (refine OpsL.q (by first | exact oasg | exact omv | exact aop_nilCheck (by (first | (simp only [ASt.ev, tmPut, ↓reduceIte, Nat.reduceEqDiff, *]; rfl))) | exact ofa | exact old | exact olen) ?_) | (refine Trip.seq ?_) | (refine Trip.ops ?_) | (refine OpsL.nil ?_; (change Trip _ _ _ _ _)))
  refine OpsL.c2 (hf := entersNextX) (hc := (nextXC W0 hm hn hof ha _ (by omega) (by omega))) (h := ?_)
  rintro v1 nx1 G ⟨rfl, rfl, hmG, hsm⟩
  have hk := nxtX_lt (ns := ns) (at_ := at_) (m := ss.length) (by omega)
  have hp : (pickX ss ns kd at_).1 = pickGo ss kd (nxtX ns at_ ss.length).1 ss.length 0 := rfl
  have hp2 : (pickX ss ns kd at_).2 = (nxtX ns at_ ss.length).2 := rfl
  rw [hp, hp2]
  clear hp hp2 c0
  generalize nxtX ns at_ ss.length = r at *
  obtain ⟨kk, at2⟩ := r
  simp only at hk hmG ⊢
  have hlG := hl.off hol hsm
  have c0 := mkr_cell (k := 0) hmG rfl
  repeat (first | (refine OpsL.q (by exact oasg) ?_) | (refine Trip.seq ?_) | (refine Trip.ops ?_) | (refine Trip.block ?_) | (refine OpsL.nil ?_; (change Trip _ _ _ _ _)))
  refine Trip.inv (fun (i : Nat) st => ∃ (tm : Nat → Value), st = ⟨tm, n, G, nx1⟩ ∧ tm 0 = .pointer (some ⟨b, 0, none⟩) ∧ tm 1 = .int .i64 kd ∧ tm 5 = .int .i64 kk ∧ tm 6 = .int .i64 i ∧ i ≤ ss.length ∧ pickGo ss kd kk ss.length 0 = pickGo ss kd kk (ss.length - i) i) (fun i => ss.length - i) 0 ?_ ?_
  · exact ⟨_, rfl, by simp [tmPut, *], by simp [tmPut, *], by simp [tmPut, *], by simp [tmPut, *], by omega, rfl⟩
  clear e0 e1
  rintro i st ⟨tm, rfl, e0, e1, e5, e6, hi, hg⟩
  repeat (first | (refine OpsL.q (by first | exact omv | exact aop_nilCheck (by (first | (simp only [ASt.ev, tmPut, ↓reduceIte, Nat.reduceEqDiff, *]; rfl))) | exact ofa | exact old | exact olen) ?_) | (refine Trip.seq ?_) | (refine Trip.ops ?_))
  by_cases hlt : i < ss.length
  · have hlt2 : (i : Int) < ss.length := by omega
    refine OpsL.lssT ?_ (c := hlt2)
    clear hlt2
    obtain ⟨m, hm3⟩ : ∃ m, ss.length - i = m + 1 := ⟨ss.length - i - 1, by omega⟩
    have hm4 : ss.length - (i + 1) = m := by omega
    rw [hm3] at hg
    simp only [pickGo] at hg
    have hj0 := Int.emod_nonneg (kk + i) (show (ss.length : Int) ≠ 0 by omega)
    have hj1 := Int.emod_lt_of_pos (kk + i) (show (0 : Int) < ss.length by omega)
    have hc := hlG.kind hj0 hj1
    repeat (first | (refine OpsL.nil ?_; (change Trip _ _ _ _ _)))
    refine Trip.ifT ?_
    repeat (first | (refine OpsL.q (by first | exact omv | exact aop_nilCheck (by (first | (simp only [ASt.ev, tmPut, ↓reduceIte, Nat.reduceEqDiff, *]; rfl))) | exact ofa | exact old | exact olen | exact oadd) ?_) | (refine Trip.seq ?_) | (refine Trip.ops ?_) | (refine Trip.block ?_) | (refine Trip.skip ?_; (change Trip _ _ _ _ _)))
    refine OpsL.p (by subst_vars; decide) (aop_remN (by (first | (simp only [ASt.ev, tmPut, ↓reduceIte, Nat.reduceEqDiff, *]; rfl))) (by (first | (simp only [ASt.ev, tmPut, ↓reduceIte, Nat.reduceEqDiff, *]; rfl))) (by omega) (by omega)) ?_
    obtain ⟨j, hj⟩ : ∃ j, (kk + i) % ss.length = j := ⟨_, rfl⟩
    rw [hj] at hj0 hj1 hc hg ⊢
    repeat (first | (refine OpsL.q (by first | exact oasg | exact omv | exact aop_nilCheck (by (first | (simp only [ASt.ev, tmPut, ↓reduceIte, Nat.reduceEqDiff, *]; rfl))) | exact ofa | exact old | exact oixa) ?_) | (refine Trip.seq ?_) | (refine Trip.ops ?_) | (refine OpsL.nil ?_; (change Trip _ _ _ _ _)))
    by_cases hw : kindX ss j = kd
    · rw [if_pos hw] at hg
      refine OpsL.eqlT ?_ (c := hw)
      clear hw
      repeat (first | (refine OpsL.nil ?_; (change Trip _ _ _ _ _)))
      refine Trip.ifT ?_
      repeat (first | (refine OpsL.q (by first | exact oasg | exact omv) ?_) | (refine Trip.seq ?_) | (refine Trip.ops ?_) | (refine Trip.ret ?_; ((repeat (refine blockExit_ret ?_)); dsimp only)) | (refine OpsL.nil ?_; (change Trip _ _ _ _ _)))
      exact ⟨.inr rfl, _, res_tmp, by simp [tmPut, *], rfl, hmG, hsm⟩
    · rw [if_neg hw] at hg
      refine OpsL.eqlF ?_ (c := hw)
      clear hw
      repeat (first | (refine OpsL.nil ?_; (change Trip _ _ _ _ _)))
      refine Trip.ifF ?_
      repeat (first | (refine OpsL.q (by first | exact oasg | exact omv | exact oadd) ?_) | (refine Trip.ops ?_) | (refine Trip.skip ?_; ((repeat (refine blockExit_normal ?_)); change Trip _ _ _ _ _)) | (refine OpsL.nil ?_; (dsimp only)))
      exact ⟨i + 1, ⟨_, rfl, by simp [tmPut, *], by simp [tmPut, *], by simp [tmPut, *], by simp [tmPut, *], by omega, by rw [hm4]; exact hg⟩, by omega⟩
  · have hlt2 : ¬ (i : Int) < ss.length := by omega
    refine OpsL.lssF ?_ (c := hlt2)
    rw [show ss.length - i = 0 by omega] at hg
    simp only [pickGo] at hg
    clear hlt2
    repeat (first | (refine OpsL.nil ?_; (change Trip _ _ _ _ _)))
    refine Trip.ifF ?_
    repeat (first | (refine OpsL.q (by exact oasg) ?_) | (refine Trip.seq ?_) | (refine Trip.ops ?_) | (refine Trip.exit ?_; ((repeat (refine blockExit_eq ?_)); change Trip _ _ _ _ _)) | (refine Trip.ret ?_; (dsimp only)) | (refine OpsL.nil ?_; (change Trip _ _ _ _ _)))
    exact ⟨.inr rfl, _, res_tmp, by simp [tmPut, *], rfl, hmG, hsm⟩
end Go.Proofs.YtmijhkclfoadaaaDoor
namespace Go.Am
open Go.RowKit
section
variable {P : Program} {W0 : World} {ops : Array Oper} {acts : List Nat} {K : Nat → Heap → Prop}
end
theorem setc_allN {H : Heap} {b e : Nat} {c vs : List Value} {t : Option Nat} {q : Option TypeId} (h : H b = some (.cells c e t false q)) (hl : vs.length = c.length) (ho : vs.all (·.oneCell') = true) : setc H ⟨b, 0, t⟩ vs = some (.cells vs e t false q) := by
  unfold setc
  simp only [h]
  rw [if_pos ⟨trivial, by omega, trivial, ho⟩]
  simp [hl]
end Go.Am
namespace Go.Am
set_option linter.unusedSimpArgs false
set_option linter.unusedVariables false
open Go.RowKit
def mkK (ss : List (ByteArray × Int)) (ns : List Int) (rec : Bool → Nat → Ex × Nat) (k : Int) (nest : Bool) (at_ : Nat) : Ex × Nat :=
  if k = 0 then (.node 2 0 0 [], at_)
  else if k ≤ 3 then
    let r := bif nest then pickX ss ns 3 (nxtX ns at_ ss.length).2 else nxtX ns at_ ss.length
    if 0 ≤ r.1 then (.node 3 r.1 0 [], r.2) else (.node 1 0 0 [], r.2)
  else if k = 4 then (.node 1 0 0 [], at_)
  else if k ≤ 7 then
    let a := pickX ss ns 1 at_
    let b := pickX ss ns 2 a.2
    if 0 ≤ a.1 ∧ 0 ≤ b.1 then (.node 4 a.1 b.1 [(rec true b.2).1], (rec true b.2).2) else (.node 1 0 0 [], b.2)
  else if k ≤ 11 then
    let e1 := rec nest at_
    let e2 := rec nest e1.2
    let r := nxtX ns e2.2 3
    if r.1 = 0 then (.node (5 + k % 2) 0 0 [e1.1, e2.1, (rec nest r.2).1], (rec nest r.2).2) else (.node (5 + k % 2) 0 0 [e1.1, e2.1], r.2)
  else (.node 7 0 0 [(rec nest at_).1], (rec nest at_).2)
def mkX (ss : List (ByteArray × Int)) (ns : List Int) : Nat → Bool → Nat → Ex × Nat
  | 0, nest, at_ => mkK ss ns (fun _ a => (.node 1 0 0 [], a)) ((nxtX ns at_ 14).1 % 5) nest (nxtX ns at_ 14).2
  | d + 1, nest, at_ => mkK ss ns (mkX ss ns d) (nxtX ns at_ 14).1 nest (nxtX ns at_ 14).2
def mkR (ss : List (ByteArray × Int)) (ns : List Int) : Nat → Bool → Nat → Ex × Nat
  | 0 => fun _ a => (.node 1 0 0 [], a)
  | d + 1 => mkX ss ns d
def kOf (d : Nat) (k : Int) : Int := if d = 0 then k % 5 else k
theorem mkX_eq (ss : List (ByteArray × Int)) (ns : List Int) (d : Nat) (nest : Bool) (at_ : Nat) : mkX ss ns d nest at_ = mkK ss ns (mkR ss ns d) (kOf d (nxtX ns at_ 14).1) nest (nxtX ns at_ 14).2 := by
  cases d <;> simp [mkX, mkR, kOf]
theorem kOf_lt {d : Nat} {k : Int} (h0 : 0 ≤ k) (h1 : k < 14) : 0 ≤ kOf d k ∧ kOf d k < 14 ∧ (4 < kOf d k → d ≠ 0) := by
  unfold kOf
  split
  · omega
  · rename_i h; exact ⟨h0, h1, fun _ => h⟩
def cntX : Nat → Nat | 0 => 3 | d + 1 => 6 + 3 * cntX d
theorem mkK_at {ss : List (ByteArray × Int)} {ns : List Int} {rec : Bool → Nat → Ex × Nat} {k : Int} {nest : Bool} {at_ c : Nat} (hr : ∀ b a, a ≤ (rec b a).2 ∧ (rec b a).2 ≤ a + c) : at_ ≤ (mkK ss ns rec k nest at_).2 ∧ (mkK ss ns rec k nest at_).2 ≤ at_ + (3 + 3 * c) := by
  have p := fun kd a => pickX_at (ss := ss) (ns := ns) (kd := kd) (at_ := a)
  have q := fun m a => nxtX_at (ns := ns) (at_ := a) (m := m)
  unfold mkK
  repeat' split
  · exact ⟨Nat.le_refl _, by omega⟩
  all_goals simp only
  · split
    all_goals
      cases nest
      · have := q ss.length at_
        simp only [cond_false]
        omega
      · have h1 := q ss.length at_
        have h2 := p 3 (nxtX ns at_ ss.length).2
        simp only [cond_true]
        omega
  · omega
  · have h1 := p 1 at_
    have h2 := p 2 (pickX ss ns 1 at_).2
    have h3 := hr true (pickX ss ns 2 (pickX ss ns 1 at_).2).2
    split <;> simp only <;> omega
  · have h1 := hr nest at_
    have h2 := hr nest (rec nest at_).2
    have h3 := q 3 (rec nest (rec nest at_).2).2
    have h4 := hr nest (nxtX ns (rec nest (rec nest at_).2).2 3).2
    split <;> simp only <;> omega
  · have h1 := hr nest at_
    omega
theorem mkX_at (ss : List (ByteArray × Int)) (ns : List Int) : ∀ (d : Nat) (nest : Bool) (at_ : Nat), at_ ≤ (mkX ss ns d nest at_).2 ∧ (mkX ss ns d nest at_).2 ≤ at_ + (cntX d + 1)
  | 0, nest, at_ => by
    have h1 := nxtX_at (ns := ns) (at_ := at_) (m := 14)
    have h2 := mkK_at (ss := ss) (ns := ns) (rec := fun _ a => (.node 1 0 0 [], a)) (k := (nxtX ns at_ 14).1 % 5) (nest := nest) (at_ := (nxtX ns at_ 14).2) (c := 0) (fun _ a => ⟨Nat.le_refl _, Nat.le_refl _⟩)
    simp only [mkX, cntX]
    omega
  | d + 1, nest, at_ => by
    have h1 := nxtX_at (ns := ns) (at_ := at_) (m := 14)
    have h2 := mkK_at (ss := ss) (ns := ns) (rec := mkX ss ns d) (k := (nxtX ns at_ 14).1) (nest := nest) (at_ := (nxtX ns at_ 14).2) (c := cntX d + 1) (fun b a => mkX_at ss ns d b a)
    simp only [mkX, cntX]
    omega
end Go.Am
namespace Go.Proofs.YtmijhkclfoadaaaDoor
set_option linter.unusedSimpArgs false
set_option linter.unusedVariables false
open Go.Am Go.RowKit
structure MkSt (H : Heap) (nx b : Nat) (lv nv : Value) (at_ n2 : Nat) (G : Heap) : Prop where
  mkr : MkrAt G b lv nv at_
  res : G nx = some (.cells [.int .i64 0, .int .i64 0, .int .i64 0, .slice none 0 0] 0 none false (some 28))
  ext : ExtB b nx H n2 G
  lt : nx < n2
  bn : b < nx
theorem MkSt.step {H : Heap} {nx b : Nat} {lv nv : Value} {at_ at2 n2 n3 : Nat} {G G' : Heap} (h : MkSt H nx b lv nv at_ n2 G) (hm : MkrAt G' b lv nv at2) (he : ExtB b n2 G n3 G') : MkSt H nx b lv nv at2 n3 G' :=
  ⟨hm, by rw [he.same nx h.lt (by have := h.bn; omega)]; exact h.res, h.ext.trans he, Nat.lt_of_lt_of_le h.lt he.le, h.bn⟩
theorem MkSt.same {H : Heap} {nx b : Nat} {lv nv : Value} {at_ at2 n2 : Nat} {G G' : Heap} (h : MkSt H nx b lv nv at_ n2 G) (hm : MkrAt G' b lv nv at2) (he : ∀ k, k ≠ b → G' k = G k) : MkSt H nx b lv nv at2 n2 G' :=
  h.step hm ⟨Nat.le_refl _, fun k _ hk => he k hk⟩
theorem MkSt.new {H : Heap} {nx b : Nat} {lv nv : Value} {at_ n2 n3 : Nat} {G G' : Heap} (h : MkSt H nx b lv nv at_ n2 G) (he : Ext n2 G n3 G') : MkSt H nx b lv nv at_ n3 G' :=
  h.step (by unfold MkrAt; rw [he.2 b (by have := h.bn; have := h.lt; omega)]; exact h.mkr) (.of he)
def MadeX (H : Heap) (nx b : Nat) (lv nv : Value) (r : Ex × Nat) (v : Value) (nx' : Nat) (H' : Heap) : Prop :=
  ∃ cs B, v = .agg cs.toArray ∧ ExC H' cs r.1 B ∧ B.Nodup ∧ (∀ x ∈ B, nx ≤ x ∧ x < nx') ∧ MkrAt H' b lv nv r.2 ∧ ExtB b nx H nx' H'
theorem MkSt.fin {H : Heap} {nx b : Nat} {lv nv : Value} {at_ n2 : Nat} {G G' : Heap} {x : Ex} {cs : List Value} {B : List Nat} (h : MkSt H nx b lv nv at_ n2 G) (hx : ExC G cs x B) (hB : B.Nodup) (hr : ∀ y ∈ B, nx < y ∧ y < n2) (hs : ∀ i, i ≠ nx → G' i = G i) : MadeX H nx b lv nv (x, at_) (.agg cs.toArray) n2 G' :=
  ⟨cs, B, rfl, hx.same fun y hy => hs y (by have := hr y hy; omega), hB, fun y hy => by have := hr y hy; omega,
    by unfold MkrAt; rw [hs b (by have := h.bn; omega)]; exact h.mkr, ⟨Nat.le_of_lt h.lt, fun k hk hn => by rw [hs k (by omega), h.ext.same k hk hn]⟩⟩
end Go.Proofs.YtmijhkclfoadaaaDoor
namespace Go.Am
set_option linter.unusedSimpArgs false
set_option linter.unusedVariables false
open Go.RowKit
theorem rowX_nodup2 {n2 : Nat} {B1 B2 : List Nat} {lo m : Nat} (h1 : B1.Nodup) (h2 : B2.Nodup) (r1 : ∀ y ∈ B1, lo ≤ y ∧ y < m) (r2 : ∀ y ∈ B2, m ≤ y ∧ y < n2) : (B1 ++ B2).Nodup := by
  rw [List.nodup_append]
  refine ⟨h1, h2, fun a ha b hb e => ?_⟩
  have := r1 a ha
  have := r2 b hb
  omega
section
variable {G : Heap} {nb : Nat} {tg : Option Nat} {q : Option TypeId} {k s e : Int} {c : Nat}
theorem ExC.row1 {c1 : List Value} {x1 : Ex} {B1 : List Nat} (hG : G nb = some (.cells c1 4 tg false q)) (l1 : c1.length = 4) (h1 : ExC G c1 x1 B1) : ExC G [.int .i64 k, .int .i64 s, .int .i64 e, .slice (some ⟨nb, 0, tg⟩) 1 c] (.node k s e [x1]) (nb :: B1) := by
  have := ExC.node (H := G) k s e [x1] ⟨nb, 0, tg⟩ c (fun _ => c1) (fun _ => B1) (by simp) ⟨_, _, hG⟩ (fun i hi => ?_) (fun i hi => ?_)
  · simpa [List.range_succ] using this
  · have : i = 0 := by simpa using hi
    subst this
    obtain ⟨a0, a1, a2, a3, rfl⟩ : ∃ a0 a1 a2 a3, c1 = [a0, a1, a2, a3] := by
      match c1, l1 with | [a, b, c, d], _ => exact ⟨a, b, c, d, rfl⟩
    simp [getc, hG]
  · have : i = 0 := by simpa using hi
    subst this
    exact h1
theorem ExC.row2 {c1 c2 : List Value} {x1 x2 : Ex} {B1 B2 : List Nat} (hG : G nb = some (.cells (c1 ++ c2) 4 tg false q)) (l1 : c1.length = 4) (l2 : c2.length = 4) (h1 : ExC G c1 x1 B1) (h2 : ExC G c2 x2 B2) : ExC G [.int .i64 k, .int .i64 s, .int .i64 e, .slice (some ⟨nb, 0, tg⟩) 2 c] (.node k s e [x1, x2]) (nb :: (B1 ++ B2)) := by
  have := ExC.node (H := G) k s e [x1, x2] ⟨nb, 0, tg⟩ c (fun i => if i = 0 then c1 else c2) (fun i => if i = 0 then B1 else B2) (by simp) ⟨_, _, hG⟩ (fun i hi => ?_) (fun i hi => ?_)
  · simpa [List.range_succ] using this
  · have hi2 : i = 0 ∨ i = 1 := by have : i < 2 := hi; omega
    rcases hi2 with rfl | rfl
    · simp [getc, hG, l1, l2, List.take_append_of_le_length, List.take_of_length_le]
    · simp [getc, hG, l1, l2, List.drop_append_of_le_length, List.drop_of_length_le, List.take_of_length_le]
  · have hi2 : i = 0 ∨ i = 1 := by have : i < 2 := hi; omega
    rcases hi2 with rfl | rfl
    · exact h1
    · exact h2
theorem ExC.row3 {c1 c2 c3 : List Value} {x1 x2 x3 : Ex} {B1 B2 B3 : List Nat} (hG : G nb = some (.cells (c1 ++ c2 ++ c3) 4 tg false q)) (l1 : c1.length = 4) (l2 : c2.length = 4) (l3 : c3.length = 4) (h1 : ExC G c1 x1 B1) (h2 : ExC G c2 x2 B2) (h3 : ExC G c3 x3 B3) : ExC G [.int .i64 k, .int .i64 s, .int .i64 e, .slice (some ⟨nb, 0, tg⟩) 3 c] (.node k s e [x1, x2, x3]) (nb :: (B1 ++ (B2 ++ B3))) := by
  have := ExC.node (H := G) k s e [x1, x2, x3] ⟨nb, 0, tg⟩ c (fun i => if i = 0 then c1 else if i = 1 then c2 else c3) (fun i => if i = 0 then B1 else if i = 1 then B2 else B3) (by simp) ⟨_, _, hG⟩ (fun i hi => ?_) (fun i hi => ?_)
  · simpa [List.range_succ] using this
  · obtain ⟨a0, a1, a2, a3, rfl⟩ : ∃ a0 a1 a2 a3, c1 = [a0, a1, a2, a3] := by
      match c1, l1 with | [a, b, c, d], _ => exact ⟨a, b, c, d, rfl⟩
    obtain ⟨b0, b1, b2, b3, rfl⟩ : ∃ a0 a1 a2 a3, c2 = [a0, a1, a2, a3] := by
      match c2, l2 with | [a, b, c, d], _ => exact ⟨a, b, c, d, rfl⟩
    obtain ⟨d0, d1, d2, d3, rfl⟩ : ∃ a0 a1 a2 a3, c3 = [a0, a1, a2, a3] := by
      match c3, l3 with | [a, b, c, d], _ => exact ⟨a, b, c, d, rfl⟩
    have hi2 : i = 0 ∨ i = 1 ∨ i = 2 := by have : i < 3 := hi; omega
    rcases hi2 with rfl | rfl | rfl <;> simp [getc, hG]
  · have hi2 : i = 0 ∨ i = 1 ∨ i = 2 := by have : i < 3 := hi; omega
    rcases hi2 with rfl | rfl | rfl
    · exact h1
    · exact h2
    · exact h3
end
end Go.Am
namespace Go.Proofs.YtmijhkclfoadaaaDoor
set_option linter.unusedSimpArgs false
set_option linter.unusedVariables false
open Go.Am Go.RowKit
set_option maxRecDepth 20000 in
theorem readX {G : Heap} {r z : Nat} {cs : List Value} {ro : Bool} {q : Option TypeId} (h : G r = some (.cells cs z none ro q)) (hl : cs.length = 4) : readAt Tryd.prog G 28 ⟨r, 0, none⟩ = some (.agg cs.toArray) := by
  have h1 : getc G ⟨r, 0, none⟩ 4 = some cs := by
    unfold getc
    simp only [h]
    rw [if_pos ⟨trivial, by omega⟩]
    simp [← hl]
  exact readAt_agg (k := 4) (by exact rfl) rfl (by exact rfl) h1
section
attribute [local irreducible] aop OpsL Trip blockExit OpsD OpsK OpsR
variable {W0 : World} {H : Heap} {nx n : Nat} {ops : Array Oper} {l : List Oper} {tm : Nat → Value} {QQ : ASt → Prop} {type : TypeId} {pos : String} {after : Array Edge}
set_option maxRecDepth 20000 in
theorem OpsL.storeX {x y : Operand} {r z : Nat} {c0 : List Value} {q : Option TypeId} {k s e : Int} {v : Value}
    (h : ∀ G, G r = some (.cells [.int .i64 k, .int .i64 s, .int .i64 e, v] z none false q) → (∀ i, i ≠ r → G i = H i) → OpsL Tryd.prog W0 ops l ⟨tm, n, G, nx⟩ QQ)
    (hx : ASt.ev ⟨tm, n, H, nx⟩ x = some (.pointer (some ⟨r, 0, none⟩))) (hy : ASt.ev ⟨tm, n, H, nx⟩ y = some (.agg #[.int .i64 k, .int .i64 s, .int .i64 e, v]))
    (hr : H r = some (.cells c0 z none false q)) (hl : c0.length = 4) (hv : v.cells = #[v]) (h1 : v.oneCell' = true) :
    OpsL Tryd.prog W0 ops (⟨none, .store 28 x y, type, pos, after, none⟩ :: l) ⟨tm, n, H, nx⟩ QQ := by
  have hc : (Value.agg #[.int .i64 k, .int .i64 s, .int .i64 e, v]).cells = #[.int .i64 k, .int .i64 s, .int .i64 e, v] := by simp [Value.cells, hv]
  refine OpsL.upd (aop_store (k := 4) hx hy (by exact rfl) (by rw [hc]; rfl) (by rw [hc]; exact setc_allN hr (by simp [hl]) (by simp only [List.all_cons, List.all_nil, Bool.and_true, h1]; rfl))) ?_
  exact h _ Heap.put_eq fun i hi => Heap.put_ne hi
end
end Go.Proofs.YtmijhkclfoadaaaDoor
namespace Go.Am
set_option linter.unusedSimpArgs false
set_option linter.unusedVariables false
open Go.RowKit
section
variable {P : Program} {W0 : World} {C : Corr} {nx : Nat} {H : Heap} {w : World}
variable {st : ASt}
def OpsF (P : Program) (W0 : World) (ops : Array Oper) (l : List Oper) (st : ASt) (Q : ASt → Prop) : Prop := ∀ k, ops.toList.drop k = l → Ops P W0 ops (List.range' k l.length) st Q
theorem OpsF.of {ops : Array Oper} {l : List Oper} {Q : ASt → Prop} (h : OpsL P W0 ops l st Q) : OpsF P W0 ops l st Q := fun k hk => OpsL.ops l k st hk h
theorem OpsF.pre {ops : Array Oper} {Q : ASt → Prop} {l2 : List Oper} : ∀ (l : List Oper) (st : ASt), OpsL P W0 ops l st (fun s => OpsF P W0 ops l2 s Q) → OpsF P W0 ops (l ++ l2) st Q := by
  intro l
  induction l with
  | nil => intro st h; exact h
  | cons o l ih =>
    intro st h k hk
    have ho : ops[k]? = some o := by
      have : (ops.toList.drop k)[0]? = some o := by rw [hk]; rfl
      rw [List.getElem?_drop] at this
      simpa using this
    have hk' : ops.toList.drop (k + 1) = l ++ l2 := by
      rw [← List.drop_drop, hk]; rfl
    obtain ⟨hd, h⟩ := h
    rw [List.cons_append, List.length_cons, List.range'_succ]
    rcases h with ⟨hw, h⟩ | ⟨hw, ⟨v, e, hop, h⟩ | ⟨f, args, R, hc, hf, hcall, h⟩⟩
    · exact Ops.skip ho hw hd (ih _ h _ hk')
    · exact Ops.step ho hw hd hop (ih _ h _ hk')
    · exact Ops.call ho hw hd hc hf hcall fun v nx' H' hr => ih _ (h v nx' H' hr) _ hk'
theorem OpsF.at {ops : Array Oper} {l : List Oper} {Q : ASt → Prop} (m : Nat) (h : OpsL P W0 ops (l.take m) st (fun s => OpsF P W0 ops (l.drop m) s Q)) : OpsF P W0 ops l st Q := by
  have := OpsF.pre _ _ h
  rwa [List.take_append_drop] at this
theorem Trip.opsF {id : Nat} {ops : Array Oper} {Q : AExit → ASt → Prop} (h : OpsF P W0 ops ops.toList st (Q .normal)) : Trip P W0 (.region id ops false) st Q := by
  refine Trip.region ?_
  have := h 0 rfl
  rwa [Array.length_toList, ← List.range_eq_range'] at this
end
end Go.Am
