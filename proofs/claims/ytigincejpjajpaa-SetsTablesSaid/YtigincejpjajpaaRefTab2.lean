/-
  Chapter 2 said a second time: its table, over trees.
-/
import Derived.Test.YtigincejpjajpaaArgs2
namespace Go.Proofs.Ytigincejpjajpaa
set_option linter.unusedSimpArgs false
set_option linter.unusedVariables false
set_option maxRecDepth 20000
open Go.RowKit Go.Am
attribute [local irreducible] aop OpsL Trip blockExit OpsD OpsK OpsR

structure RefH (H : Heap) (b : Nat) (S : Nat → Prop) (R : List (List (Int × Int))) (rob : Option (Nat × Nat)) (rv : Value) (vs : List SV) : Prop where
  obj : H b = some (.cells [rv] 0 none false (some 63))
  rows : OwnOf encS 1 24 H rob rv vs
  len : vs.length = R.length
  row : ∀ i (h : i < vs.length) (h' : i < R.length), PairsAt H (.slice vs[i].1 vs[i].2.1 vs[i].2.2) R[i]
  inb : S b
  inr : ∀ b' t, rob = some (b', t) → S b' ∧ b' ≠ b
  inv : ∀ i (h : i < vs.length) a, vs[i].1 = some a → S a.block ∧ a.block ≠ b ∧ ∀ t, rob ≠ some (a.block, t)

def RefAt (H : Heap) (b : Nat) (S : Nat → Prop) (R : List (List (Int × Int))) : Prop := ∃ rob rv vs, RefH H b S R rob rv vs
theorem RefAt.same {H H' : Heap} {b : Nat} {S : Nat → Prop} {R : List (List (Int × Int))} (h : RefAt H b S R) (hs : ∀ i, S i → H' i = H i) : RefAt H' b S R := by
  obtain ⟨rob, rv, vs, h⟩ := h
  exact ⟨rob, rv, vs, { h with
    obj := by rw [hs b h.inb]; exact h.obj
    rows := OwnRow.same h.rows fun b' t e => hs b' (h.inr b' t e).1
    row := fun i h1 h2 => (h.row i h1 h2).same fun a n c e => hs _ (h.inv i h1 a (Value.slice.inj e).1).1 }⟩
theorem RefAt.ext {H H' : Heap} {nx nx' b : Nat} {S : Nat → Prop} {R : List (List (Int × Int))} (h : RefAt H b S R) (hx : Ext nx H nx' H') (hS : ∀ i, S i → i < nx) : RefAt H' b S R := h.same fun i hi => hx.2 i (hS i hi)

theorem entersNewR : Am.Enters Try.prog 30 := ⟨Try.f30, Try.func30, by kernel_rfl, by kernel_rfl⟩
theorem entersLenR : Am.Enters Try.prog 36 := ⟨Try.f36, Try.func36, by kernel_rfl, by kernel_rfl⟩
theorem entersRowR : Am.Enters Try.prog 38 := ⟨Try.f38, Try.func38, by kernel_rfl, by kernel_rfl⟩
theorem entersFindR : Am.Enters Try.prog 34 := ⟨Try.f34, Try.func34, by kernel_rfl, by kernel_rfl⟩
theorem entersPutR : Am.Enters Try.prog 32 := ⟨Try.f32, Try.func32, by kernel_rfl, by kernel_rfl⟩

set_option maxHeartbeats 4000000 in
theorem rnewC (W0 : World) {nx : Nat} {H : Heap} :
    ACalls Try.prog W0 30 [] nx H fun v nx' H' => v = tabV nx ∧ nx' = nx + 1 ∧ Ext nx H nx' H' ∧ RefAt H' nx (fun i => i = nx) [] := by
  refine ACalls.by_trip (fn := Try.f30) (c := _) Try.func30 rfl (fun tm n hn0 htm => ?_)
  clear htm
  replace hn0 : n = 3 := hn0
  repeat (first | (refine OpsL.p (by subst_vars; decide) (by (first | (exact aop_assign (by (first | (simp only [ASt.ev, tmPut, ↓reduceIte, reduceIte, Nat.reduceEqDiff, plain1, *]; rfl) | fail))) | fail)) ?_) | (refine Trip.seq ?_) | (refine Trip.ops ?_) | (refine OpsL.nil ?_; ((repeat (first | refine blockExit_eq ?_ | refine blockExit_ne (by decide) ?_ | refine blockExit_normal ?_ | refine blockExit_ret ?_ | refine blockExit_goto ?_)); first | (change Trip _ _ _ _ _) | dsimp only | skip)) | fail)
  refine OpsL.p (by subst_vars; decide) (aop_build (v := .agg #[.slice none 0 0]) (l := []) (by simp only [evParts]) (by kernel_rfl)) ?_
  refine OpsL.new (by subst_vars; decide) (aop_box (by (first | (simp only [ASt.ev, tmPut, ↓reduceIte, reduceIte, Nat.reduceEqDiff, plain1, *]; rfl) | fail))) ?_
  repeat (first | (refine OpsL.p (by subst_vars; decide) (by (first | (exact aop_assign (by (first | (simp only [ASt.ev, tmPut, ↓reduceIte, reduceIte, Nat.reduceEqDiff, plain1, *]; rfl) | fail))) | fail)) ?_) | (refine Trip.ret ?_; ((repeat (first | refine blockExit_eq ?_ | refine blockExit_ne (by decide) ?_ | refine blockExit_normal ?_ | refine blockExit_ret ?_ | refine blockExit_goto ?_)); first | (change Trip _ _ _ _ _) | dsimp only | skip)) | (refine OpsL.nil ?_; ((repeat (first | refine blockExit_eq ?_ | refine blockExit_ne (by decide) ?_ | refine blockExit_normal ?_ | refine blockExit_ret ?_ | refine blockExit_goto ?_)); first | (change Trip _ _ _ _ _) | dsimp only | skip)) | fail)
  exact ⟨.inr rfl, _, res_tmp, by simp [tmPut], rfl, Ext.newPut, none, .slice none 0 0, [], ⟨Heap.put_eq, ⟨rfl, rfl, rfl⟩, rfl, fun i h => absurd h (by simp), rfl, fun _ _ h => (by cases h), fun i h => absurd h (by simp)⟩⟩

set_option maxHeartbeats 4000000 in
theorem rlenC (W0 : World) {nx b : Nat} {H : Heap} {S : Nat → Prop} {R : List (List (Int × Int))} (h : RefAt H b S R) :
    ACalls Try.prog W0 36 [tabV b] nx H fun v nx' H' => v = .int .i64 R.length ∧ nx' = nx ∧ H' = H := by
  obtain ⟨rob, rv, vs, h⟩ := h
  refine ACalls.by_trip (fn := Try.f36) (c := _) Try.func36 rfl (fun tm n hn0 htm => ?_)
  have e0 : tm 0 = tabV b := htm 0
  clear htm
  replace hn0 : n = 8 := hn0
  have c0 : cellAt H ⟨b, 0 + 0, none⟩ rv := cellAt_own (off := 0) h.obj (by show 0 < 1; decide)
  obtain ⟨ra, rc, hrv⟩ := (OwnOf.at encS_len h.rows).slice
  rw [hrv, h.len] at c0
  repeat (first | (refine OpsL.p (by subst_vars; decide) (by (first | (exact aop_move (by (first | (simp only [ASt.ev, tmPut, ↓reduceIte, reduceIte, Nat.reduceEqDiff, plain1, *]; rfl) | fail))) | (exact aop_assign (by (first | (simp only [ASt.ev, tmPut, ↓reduceIte, reduceIte, Nat.reduceEqDiff, plain1, *]; rfl) | fail))) | (exact aop_len (by (first | (simp only [ASt.ev, tmPut, ↓reduceIte, reduceIte, Nat.reduceEqDiff, plain1, *]; rfl) | fail)) (by exact rfl)) | (exact aop_fieldAddr (by (first | (simp only [ASt.ev, tmPut, ↓reduceIte, reduceIte, Nat.reduceEqDiff, plain1, *]; rfl) | fail)) (by exact rfl)) | (exact aop_load (by (first | (simp only [ASt.ev, tmPut, ↓reduceIte, reduceIte, Nat.reduceEqDiff, plain1, *]; rfl) | fail)) (by exact rfl) rfl (by assumption)) | (exact aop_nilCheck (by (first | (simp only [ASt.ev, tmPut, ↓reduceIte, reduceIte, Nat.reduceEqDiff, plain1, *]; rfl) | fail))) | fail)) ?_) | (refine Trip.seq ?_) | (refine Trip.ops ?_) | (refine Trip.ret ?_; ((repeat (first | refine blockExit_eq ?_ | refine blockExit_ne (by decide) ?_ | refine blockExit_normal ?_ | refine blockExit_ret ?_ | refine blockExit_goto ?_)); first | (change Trip _ _ _ _ _) | dsimp only | skip)) | (refine OpsL.nil ?_; ((repeat (first | refine blockExit_eq ?_ | refine blockExit_ne (by decide) ?_ | refine blockExit_normal ?_ | refine blockExit_ret ?_ | refine blockExit_goto ?_)); first | (change Trip _ _ _ _ _) | dsimp only | skip)) | fail)
  exact ⟨.inr rfl, _, res_tmp, by simp [tmPut], rfl, rfl⟩

set_option maxHeartbeats 4000000 in
theorem rrowC (W0 : World) {nx b : Nat} {H : Heap} {S : Nat → Prop} {R : List (List (Int × Int))} (x : Int) (hT : RefAt H b S R) (hR : ∀ r ∈ R, r.length ≤ 100000) :
    ACalls Try.prog W0 38 [tabV b, .int .i64 x] nx H fun v nx' H' => ∃ l, Ext nx H nx' H' ∧ PairsAt H' v l ∧ ((0 ≤ x ∧ R[x.toNat]? = some l) ∨ (¬ (0 ≤ x ∧ x < R.length) ∧ l = [])) := by
  obtain ⟨rob, rv, vs, h⟩ := hT
  refine ACalls.by_trip (fn := Try.f38) (c := _) Try.func38 rfl (fun tm n hn0 htm => ?_)
  have e0 : tm 0 = tabV b := htm 0
  have e1 : tm 1 = .int .i64 x := htm 1
  clear htm
  replace hn0 : n = 25 := hn0
  refine Trip.ok fun hok => ?_
  replace hok : ∀ id o, H id = some o → id < nx := hok
  have hrw := OwnOf.at encS_len h.rows
  have c0 : cellAt H ⟨b, 0 + 0, none⟩ rv := cellAt_own (off := 0) h.obj (by show 0 < 1; decide)
  obtain ⟨ra, rc, hrv⟩ := hrw.slice
  rw [hrv] at c0 hrw
  have hlen := h.len
  repeat (first | (refine OpsL.p (by subst_vars; decide) (by (first | (exact aop_move (by (first | (simp only [ASt.ev, tmPut, ↓reduceIte, reduceIte, Nat.reduceEqDiff, plain1, *]; rfl) | fail))) | (exact aop_assign (by (first | (simp only [ASt.ev, tmPut, ↓reduceIte, reduceIte, Nat.reduceEqDiff, plain1, *]; rfl) | fail))) | fail)) ?_) | (refine Trip.seq ?_) | (refine Trip.ops ?_) | (refine OpsL.nil ?_; ((repeat (first | refine blockExit_eq ?_ | refine blockExit_ne (by decide) ?_ | refine blockExit_normal ?_ | refine blockExit_ret ?_ | refine blockExit_goto ?_)); first | (change Trip _ _ _ _ _) | dsimp only | skip)) | fail)
  by_cases h0 : x < 0
  · refine OpsL.p (by subst_vars; decide) (aop_lssT (by (first | (simp only [ASt.ev, tmPut, ↓reduceIte, reduceIte, Nat.reduceEqDiff, plain1, *]; rfl) | fail)) (by (first | (simp only [ASt.ev, tmPut, ↓reduceIte, reduceIte, Nat.reduceEqDiff, plain1, *]; rfl) | fail)) h0) ?_
    repeat (first | (refine OpsL.p (by subst_vars; decide) (by (first | (exact aop_move (by (first | (simp only [ASt.ev, tmPut, ↓reduceIte, reduceIte, Nat.reduceEqDiff, plain1, *]; rfl) | fail))) | (exact aop_pickT (by (first | (simp only [ASt.ev, tmPut, ↓reduceIte, reduceIte, Nat.reduceEqDiff, decide_true, decide_false, not_true_eq_false, not_false_eq_true, Bool.not_true, Bool.not_false, *]; done) | fail)) (by (first | (simp only [ASt.ev, tmPut, ↓reduceIte, reduceIte, Nat.reduceEqDiff, plain1, *]; rfl) | fail))) | fail)) ?_) | (refine OpsL.nil ?_; ((repeat (first | refine blockExit_eq ?_ | refine blockExit_ne (by decide) ?_ | refine blockExit_normal ?_ | refine blockExit_ret ?_ | refine blockExit_goto ?_)); first | (change Trip _ _ _ _ _) | dsimp only | skip)) | (refine OpsL.skipped (by exact rfl) (by (first | (simp only [ASt.ev, tmPut, ↓reduceIte, reduceIte, Nat.reduceEqDiff, decide_true, decide_false, not_true_eq_false, not_false_eq_true, Bool.not_true, Bool.not_false, *]; done) | fail)) (by subst_vars; decide) ?_) | fail)
    refine Trip.iteB (b := true) (by (first | (simp only [ASt.ev, tmPut, ↓reduceIte, reduceIte, Nat.reduceEqDiff, decide_true, decide_false, not_true_eq_false, not_false_eq_true, Bool.not_true, Bool.not_false, *]; done) | fail)) (fun _ => ?_) (fun h => absurd h (by decide))
    repeat (first | (refine OpsL.p (by subst_vars; decide) (by (first | (exact aop_assign (by (first | (simp only [ASt.ev, tmPut, ↓reduceIte, reduceIte, Nat.reduceEqDiff, plain1, *]; rfl) | fail))) | fail)) ?_) | (refine Trip.seq ?_) | (refine Trip.ops ?_) | (refine Trip.ret ?_; ((repeat (first | refine blockExit_eq ?_ | refine blockExit_ne (by decide) ?_ | refine blockExit_normal ?_ | refine blockExit_ret ?_ | refine blockExit_goto ?_)); first | (change Trip _ _ _ _ _) | dsimp only | skip)) | (refine OpsL.nil ?_; ((repeat (first | refine blockExit_eq ?_ | refine blockExit_ne (by decide) ?_ | refine blockExit_normal ?_ | refine blockExit_ret ?_ | refine blockExit_goto ?_)); first | (change Trip _ _ _ _ _) | dsimp only | skip)) | fail)
    exact ⟨.inr rfl, _, res_tmp, [], Ext.refl, .inl ⟨0, by simp [tmPut], rfl⟩, .inr ⟨by omega, rfl⟩⟩
  · refine OpsL.p (by subst_vars; decide) (aop_lssF (by (first | (simp only [ASt.ev, tmPut, ↓reduceIte, reduceIte, Nat.reduceEqDiff, plain1, *]; rfl) | fail)) (by (first | (simp only [ASt.ev, tmPut, ↓reduceIte, reduceIte, Nat.reduceEqDiff, plain1, *]; rfl) | fail)) h0) ?_
    repeat (first | (refine OpsL.p (by subst_vars; decide) (by (first | (exact aop_move (by (first | (simp only [ASt.ev, tmPut, ↓reduceIte, reduceIte, Nat.reduceEqDiff, plain1, *]; rfl) | fail))) | (exact aop_nilCheck (by (first | (simp only [ASt.ev, tmPut, ↓reduceIte, reduceIte, Nat.reduceEqDiff, plain1, *]; rfl) | fail))) | (exact aop_fieldAddr (by (first | (simp only [ASt.ev, tmPut, ↓reduceIte, reduceIte, Nat.reduceEqDiff, plain1, *]; rfl) | fail)) (by exact rfl)) | (exact aop_load (by (first | (simp only [ASt.ev, tmPut, ↓reduceIte, reduceIte, Nat.reduceEqDiff, plain1, *]; rfl) | fail)) (by exact rfl) rfl (by assumption)) | (exact aop_len (by (first | (simp only [ASt.ev, tmPut, ↓reduceIte, reduceIte, Nat.reduceEqDiff, plain1, *]; rfl) | fail)) (by exact rfl)) | fail)) ?_) | (refine OpsL.unguard (by exact rfl) (by (first | (simp only [ASt.ev, tmPut, ↓reduceIte, reduceIte, Nat.reduceEqDiff, decide_true, decide_false, not_true_eq_false, not_false_eq_true, Bool.not_true, Bool.not_false, *]; done) | fail)) ?_) | fail)
    by_cases h1 : (R.length : Int) ≤ x
    · refine OpsL.p (by subst_vars; decide) (aop_geqT (by (first | (simp only [ASt.ev, tmPut, ↓reduceIte, reduceIte, Nat.reduceEqDiff, plain1, *]; rfl) | fail)) (by (first | (simp only [ASt.ev, tmPut, ↓reduceIte, reduceIte, Nat.reduceEqDiff, plain1, *]; rfl) | fail)) (by omega)) ?_
      repeat (first | (refine OpsL.p (by subst_vars; decide) (by (first | (exact aop_pickF (by (first | (simp only [ASt.ev, tmPut, ↓reduceIte, reduceIte, Nat.reduceEqDiff, decide_true, decide_false, not_true_eq_false, not_false_eq_true, Bool.not_true, Bool.not_false, *]; done) | fail)) (by (first | (simp only [ASt.ev, tmPut, ↓reduceIte, reduceIte, Nat.reduceEqDiff, plain1, *]; rfl) | fail))) | fail)) ?_) | (refine OpsL.nil ?_; ((repeat (first | refine blockExit_eq ?_ | refine blockExit_ne (by decide) ?_ | refine blockExit_normal ?_ | refine blockExit_ret ?_ | refine blockExit_goto ?_)); first | (change Trip _ _ _ _ _) | dsimp only | skip)) | fail)
      refine Trip.iteB (b := true) (by (first | (simp only [ASt.ev, tmPut, ↓reduceIte, reduceIte, Nat.reduceEqDiff, decide_true, decide_false, not_true_eq_false, not_false_eq_true, Bool.not_true, Bool.not_false, *]; done) | fail)) (fun _ => ?_) (fun h => absurd h (by decide))
      repeat (first | (refine OpsL.p (by subst_vars; decide) (by (first | (exact aop_assign (by (first | (simp only [ASt.ev, tmPut, ↓reduceIte, reduceIte, Nat.reduceEqDiff, plain1, *]; rfl) | fail))) | fail)) ?_) | (refine Trip.seq ?_) | (refine Trip.ops ?_) | (refine Trip.ret ?_; ((repeat (first | refine blockExit_eq ?_ | refine blockExit_ne (by decide) ?_ | refine blockExit_normal ?_ | refine blockExit_ret ?_ | refine blockExit_goto ?_)); first | (change Trip _ _ _ _ _) | dsimp only | skip)) | (refine OpsL.nil ?_; ((repeat (first | refine blockExit_eq ?_ | refine blockExit_ne (by decide) ?_ | refine blockExit_normal ?_ | refine blockExit_ret ?_ | refine blockExit_goto ?_)); first | (change Trip _ _ _ _ _) | dsimp only | skip)) | fail)
      exact ⟨.inr rfl, _, res_tmp, [], Ext.refl, .inl ⟨0, by simp [tmPut], rfl⟩, .inr ⟨by omega, rfl⟩⟩
    · refine OpsL.p (by subst_vars; decide) (aop_geqF (by (first | (simp only [ASt.ev, tmPut, ↓reduceIte, reduceIte, Nat.reduceEqDiff, plain1, *]; rfl) | fail)) (by (first | (simp only [ASt.ev, tmPut, ↓reduceIte, reduceIte, Nat.reduceEqDiff, plain1, *]; rfl) | fail)) (by omega)) ?_
      repeat (first | (refine OpsL.p (by subst_vars; decide) (by (first | (exact aop_pickF (by (first | (simp only [ASt.ev, tmPut, ↓reduceIte, reduceIte, Nat.reduceEqDiff, decide_true, decide_false, not_true_eq_false, not_false_eq_true, Bool.not_true, Bool.not_false, *]; done) | fail)) (by (first | (simp only [ASt.ev, tmPut, ↓reduceIte, reduceIte, Nat.reduceEqDiff, plain1, *]; rfl) | fail))) | fail)) ?_) | (refine OpsL.nil ?_; ((repeat (first | refine blockExit_eq ?_ | refine blockExit_ne (by decide) ?_ | refine blockExit_normal ?_ | refine blockExit_ret ?_ | refine blockExit_goto ?_)); first | (change Trip _ _ _ _ _) | dsimp only | skip)) | fail)
      refine Trip.iteB (b := false) (by (first | (simp only [ASt.ev, tmPut, ↓reduceIte, reduceIte, Nat.reduceEqDiff, decide_true, decide_false, not_true_eq_false, not_false_eq_true, Bool.not_true, Bool.not_false, *]; done) | fail)) (fun h => absurd h (by decide)) (fun _ => ?_)
      obtain ⟨i, rfl⟩ : ∃ i : Nat, x = i := ⟨x.toNat, by omega⟩
      have hi : i < vs.length := by omega
      obtain ⟨p, rfl, g0⟩ := rows_at hrw hi
      have hrow := h.row i hi (by omega)
      have hbx : b < nx := hok _ _ h.obj
      replace g0 : getc H ⟨p.block, p.off + (i : Int).toNat * 1, p.spot⟩ 1 = some [.slice vs[i].1 vs[i].2.1 vs[i].2.2] := g0
      have hRl := hR R[i] (List.getElem_mem _)
      obtain ⟨wa, wc, hw⟩ := hrow.slice
      rw [hw] at g0 hrow
      repeat (first | (refine Trip.seq ?_) | (refine Trip.ops ?_) | (refine Trip.skip ?_; ((repeat (first | refine blockExit_eq ?_ | refine blockExit_ne (by decide) ?_ | refine blockExit_normal ?_ | refine blockExit_ret ?_ | refine blockExit_goto ?_)); first | (change Trip _ _ _ _ _) | dsimp only | skip)) | fail)
      refine OpsL.new (by subst_vars; decide) (aop_buildSlice (l := []) (r := (.slice (some ⟨nx, 0, none⟩) 0 0, .new (.cells [] 2 none false (some 27)))) (by simp only [evParts]) (by kernel_rfl)) ?_
      have hx0 : Ext nx H (nx + 1) (H.put nx (.cells [] 2 none false (some 27))) := Ext.newPut
      have hE : RowE encP 2 27 (H.put nx (.cells [] 2 none false (some 27))) none (.slice (some ⟨nx, 0, none⟩) 0 0) ([] : List (Int × Int)) := .inr ⟨rfl, rfl, nx, 2, false, _, rfl, Heap.put_eq⟩
      have c1 : cellAt (H.put nx (.cells [] 2 none false (some 27))) ⟨b, 0 + 0, none⟩ rv := cellAt_own (off := 0) ((hx0.2 b hbx).trans h.obj) (by show 0 < 1; decide)
      rw [hrv] at c1
      have g1 : cellAt (H.put nx (.cells [] 2 none false (some 27))) ⟨p.block, p.off + (i : Int).toNat * 1, p.spot⟩ (.slice wa R[i].length wc) := getc_ext hx0 hok g0
      have hrow1 := hrow.ext hx0 hok
      generalize (H.put nx (.cells [] 2 none false (some 27))) = G at *
      clear c0
      repeat (first | (refine OpsL.p (by subst_vars; decide) (by (first | (exact aop_move (by (first | (simp only [ASt.ev, tmPut, ↓reduceIte, reduceIte, Nat.reduceEqDiff, plain1, *]; rfl) | fail))) | (exact aop_indexAddr (by (first | (simp only [ASt.ev, tmPut, ↓reduceIte, reduceIte, Nat.reduceEqDiff, plain1, *]; rfl) | fail)) (by (first | (simp only [ASt.ev, tmPut, ↓reduceIte, reduceIte, Nat.reduceEqDiff, plain1, *]; rfl) | fail)) (by exact rfl) (by exact rfl) (by omega) (by omega)) | (exact aop_fieldAddr (by (first | (simp only [ASt.ev, tmPut, ↓reduceIte, reduceIte, Nat.reduceEqDiff, plain1, *]; rfl) | fail)) (by exact rfl)) | (exact aop_load (by (first | (simp only [ASt.ev, tmPut, ↓reduceIte, reduceIte, Nat.reduceEqDiff, plain1, *]; rfl) | fail)) (by exact rfl) rfl (by assumption)) | (exact aop_nilCheck (by (first | (simp only [ASt.ev, tmPut, ↓reduceIte, reduceIte, Nat.reduceEqDiff, plain1, *]; rfl) | fail))) | fail)) ?_) | fail)
      refine OpsL.appendE (bytes := 16) (z := [.int .i64 0, .int .i64 0]) encP_len encP_one (by omega) (by subst_vars; decide) hE hrow1 (by (first | (simp only [ASt.ev, tmPut, ↓reduceIte, reduceIte, Nat.reduceEqDiff, plain1, *]; done) | fail)) (by (first | (simp only [ASt.ev, tmPut, ↓reduceIte, reduceIte, Nat.reduceEqDiff, plain1, *]; done) | fail)) (fun b t h => by cases h) (by exact rfl) (by exact rfl) (by exact rfl) (by exact rfl) (by exact rfl) rfl (by simp; omega) (by omega) ?_
      intro v1 nx1 H1 ob1 hA1
      rw [List.nil_append] at hA1
      have hx1 : Ext (nx + 1) G nx1 H1 := ⟨hA1.le, fun i hi => hA1.same i hi (fun b t h => by cases h)⟩
      repeat (first | (refine OpsL.p (by subst_vars; decide) (by (first | (exact aop_assign (by (first | (simp only [ASt.ev, tmPut, ↓reduceIte, reduceIte, Nat.reduceEqDiff, plain1, *]; rfl) | fail))) | fail)) ?_) | (refine Trip.ret ?_; ((repeat (first | refine blockExit_eq ?_ | refine blockExit_ne (by decide) ?_ | refine blockExit_normal ?_ | refine blockExit_ret ?_ | refine blockExit_goto ?_)); first | (change Trip _ _ _ _ _) | dsimp only | skip)) | (refine OpsL.nil ?_; ((repeat (first | refine blockExit_eq ?_ | refine blockExit_ne (by decide) ?_ | refine blockExit_normal ?_ | refine blockExit_ret ?_ | refine blockExit_goto ?_)); first | (change Trip _ _ _ _ _) | dsimp only | skip)) | fail)
      exact ⟨.inr rfl, _, res_tmp, R[i], hx0.trans hx1, by simp [tmPut]; exact hA1.own.at encP_len, .inl ⟨by omega, by rw [Int.toNat_natCast, List.getElem?_eq_getElem (by omega)]⟩⟩

set_option maxHeartbeats 4000000 in
theorem rfindC (W0 : World) {nx b : Nat} {H : Heap} {S : Nat → Prop} {R : List (List (Int × Int))} {pv : Value} {p : List (Int × Int)} (hT : RefAt H b S R) (hS : ∀ i, S i → i < nx) (hp : PairsAt H pv p) (hl : p.length ≤ 100) (hRl : R.length ≤ 1000) (hR : ∀ r ∈ R, r.length ≤ 100000) :
    ACalls Try.prog W0 34 [tabV b, pv] nx H fun v nx' H' => Ext nx H nx' H' ∧ ∃ (r : List (Int × Int)) (x : Int) (ok : Bool), v = .tuple #[.int .i64 x, .bool ok] ∧ StrictP r ∧ (∀ z, z ∈ r ↔ z ∈ p) ∧ r.length ≤ p.length ∧ ((ok = true ∧ ∃ k : Nat, x = k ∧ R[k]? = some r) ∨ (ok = false ∧ x = 0 ∧ r ∉ R)) := by
  refine ACalls.by_trip (fn := Try.f34) (c := _) Try.func34 rfl (fun tm n hn0 htm => ?_)
  have e0 : tm 0 = tabV b := htm 0
  have e1 : tm 1 = pv := htm 1
  clear htm
  replace hn0 : n = 29 := hn0
  repeat (first | (refine OpsL.p (by subst_vars; decide) (by (first | (exact aop_move (by (first | (simp only [ASt.ev, tmPut, ↓reduceIte, reduceIte, Nat.reduceEqDiff, plain1, *]; rfl) | fail))) | (exact aop_assign (by (first | (simp only [ASt.ev, tmPut, ↓reduceIte, reduceIte, Nat.reduceEqDiff, plain1, *]; rfl) | fail))) | fail)) ?_) | (refine Trip.seq ?_) | (refine Trip.ops ?_) | (refine OpsL.nil ?_; ((repeat (first | refine blockExit_eq ?_ | refine blockExit_ne (by decide) ?_ | refine blockExit_normal ?_ | refine blockExit_ret ?_ | refine blockExit_goto ?_)); first | (change Trip _ _ _ _ _) | dsimp only | skip)) | fail)
  refine OpsL.call1 (by subst_vars; decide) (by (first | (simp only [ASt.ev, tmPut, ↓reduceIte, reduceIte, Nat.reduceEqDiff, plain1, *]; done) | fail)) entersPairsR (rpairsC W0 hp (by omega)) ?_
  rintro v1 nx1 H1 ⟨ob1, r, h1, h2, h3, h4, hx1, hob1⟩
  obtain ⟨rob, rv, vs, h⟩ := hT.ext hx1 hS
  have hrp := h4.at encP_len
  have hrw := OwnOf.at encS_len h.rows
  have c0 : cellAt H1 ⟨b, 0 + 0, none⟩ rv := cellAt_own (off := 0) h.obj (by show 0 < 1; decide)
  obtain ⟨ra, rc, hrv⟩ := hrw.slice
  rw [hrv] at c0 hrw
  have hlen := h.len
  repeat (first | (refine OpsL.p (by subst_vars; decide) (by (first | (exact aop_assign (by (first | (simp only [ASt.ev, tmPut, ↓reduceIte, reduceIte, Nat.reduceEqDiff, plain1, *]; rfl) | fail))) | fail)) ?_) | (refine Trip.seq ?_) | (refine Trip.ops ?_) | (refine Trip.block ?_) | (refine OpsL.nil ?_; ((repeat (first | refine blockExit_eq ?_ | refine blockExit_ne (by decide) ?_ | refine blockExit_normal ?_ | refine blockExit_ret ?_ | refine blockExit_goto ?_)); first | (change Trip _ _ _ _ _) | dsimp only | skip)) | fail)
  refine Trip.inv (fun (i : Nat) st => ∃ (tm : Nat → Value), st = ⟨tm, n, H1, nx1⟩ ∧ tm 0 = tabV b ∧ tm 6 = v1 ∧ tm 7 = .int .i64 i ∧ i ≤ vs.length ∧ ∀ j (hj : j < R.length), j < i → R[j] ≠ r) (fun i => vs.length - i) 0 ?_ ?_
  · exact ⟨_, rfl, by simp [tmPut, *], by simp [tmPut, *], by simp [tmPut, *], Nat.zero_le _, fun j _ hj => by omega⟩
  · clear e0 e1
    rintro i st ⟨tm, rfl, e0, e6, e7, hi, hne⟩
    by_cases hlt : i < vs.length
    · obtain ⟨q, rfl, g0⟩ := rows_at hrw hlt
      have hrow := h.row i hlt (by omega)
      replace g0 : cellAt H1 ⟨q.block, q.off + (i : Int).toNat * 1, q.spot⟩ (.slice vs[i].1 vs[i].2.1 vs[i].2.2) := g0
      have hRi := hR R[i] (List.getElem_mem _)
      obtain ⟨wa, wc, hw⟩ := hrow.slice
      rw [hw] at g0 hrow
      repeat (first | (refine OpsL.p (by subst_vars; decide) (by (first | (exact aop_move (by (first | (simp only [ASt.ev, tmPut, ↓reduceIte, reduceIte, Nat.reduceEqDiff, plain1, *]; rfl) | fail))) | (exact aop_nilCheck (by (first | (simp only [ASt.ev, tmPut, ↓reduceIte, reduceIte, Nat.reduceEqDiff, plain1, *]; rfl) | fail))) | (exact aop_fieldAddr (by (first | (simp only [ASt.ev, tmPut, ↓reduceIte, reduceIte, Nat.reduceEqDiff, plain1, *]; rfl) | fail)) (by exact rfl)) | (exact aop_load (by (first | (simp only [ASt.ev, tmPut, ↓reduceIte, reduceIte, Nat.reduceEqDiff, plain1, *]; rfl) | fail)) (by exact rfl) rfl (by assumption)) | (exact aop_len (by (first | (simp only [ASt.ev, tmPut, ↓reduceIte, reduceIte, Nat.reduceEqDiff, plain1, *]; rfl) | fail)) (by exact rfl)) | fail)) ?_) | (refine Trip.seq ?_) | (refine Trip.ops ?_) | fail)
      refine OpsL.p (by subst_vars; decide) (aop_lssT (by (first | (simp only [ASt.ev, tmPut, ↓reduceIte, reduceIte, Nat.reduceEqDiff, plain1, *]; rfl) | fail)) (by (first | (simp only [ASt.ev, tmPut, ↓reduceIte, reduceIte, Nat.reduceEqDiff, plain1, *]; rfl) | fail)) (by omega)) ?_
      repeat (first | (refine OpsL.nil ?_; ((repeat (first | refine blockExit_eq ?_ | refine blockExit_ne (by decide) ?_ | refine blockExit_normal ?_ | refine blockExit_ret ?_ | refine blockExit_goto ?_)); first | (change Trip _ _ _ _ _) | dsimp only | skip)) | fail)
      refine Trip.iteB (b := true) (by (first | (simp only [ASt.ev, tmPut, ↓reduceIte, reduceIte, Nat.reduceEqDiff, decide_true, decide_false, not_true_eq_false, not_false_eq_true, Bool.not_true, Bool.not_false, *]; done) | fail)) (fun _ => ?_) (fun h => absurd h (by decide))
      repeat (first | (refine OpsL.p (by subst_vars; decide) (by (first | (exact aop_move (by (first | (simp only [ASt.ev, tmPut, ↓reduceIte, reduceIte, Nat.reduceEqDiff, plain1, *]; rfl) | fail))) | (exact aop_indexAddr (by (first | (simp only [ASt.ev, tmPut, ↓reduceIte, reduceIte, Nat.reduceEqDiff, plain1, *]; rfl) | fail)) (by (first | (simp only [ASt.ev, tmPut, ↓reduceIte, reduceIte, Nat.reduceEqDiff, plain1, *]; rfl) | fail)) (by exact rfl) (by exact rfl) (by omega) (by omega)) | (exact aop_fieldAddr (by (first | (simp only [ASt.ev, tmPut, ↓reduceIte, reduceIte, Nat.reduceEqDiff, plain1, *]; rfl) | fail)) (by exact rfl)) | (exact aop_load (by (first | (simp only [ASt.ev, tmPut, ↓reduceIte, reduceIte, Nat.reduceEqDiff, plain1, *]; rfl) | fail)) (by exact rfl) rfl (by assumption)) | (exact aop_nilCheck (by (first | (simp only [ASt.ev, tmPut, ↓reduceIte, reduceIte, Nat.reduceEqDiff, plain1, *]; rfl) | fail))) | fail)) ?_) | (refine Trip.seq ?_) | (refine Trip.ops ?_) | (refine Trip.block ?_) | (refine Trip.skip ?_; ((repeat (first | refine blockExit_eq ?_ | refine blockExit_ne (by decide) ?_ | refine blockExit_normal ?_ | refine blockExit_ret ?_ | refine blockExit_goto ?_)); first | (change Trip _ _ _ _ _) | dsimp only | skip)) | fail)
      refine OpsL.call2 (by subst_vars; decide) (by (first | (simp only [ASt.ev, tmPut, ↓reduceIte, reduceIte, Nat.reduceEqDiff, plain1, *]; done) | fail)) (by (first | (simp only [ASt.ev, tmPut, ↓reduceIte, reduceIte, Nat.reduceEqDiff, plain1, *]; done) | fail)) entersSameR (sameC W0 hrow hrp (by omega) (by omega)) ?_
      rintro v nx1 H1 ⟨rfl, h1', h2'⟩
      subst h1'; subst h2'
      by_cases he : R[i] = r
      · rw [decide_eq_true he]
        repeat (first | (refine OpsL.nil ?_; ((repeat (first | refine blockExit_eq ?_ | refine blockExit_ne (by decide) ?_ | refine blockExit_normal ?_ | refine blockExit_ret ?_ | refine blockExit_goto ?_)); first | (change Trip _ _ _ _ _) | dsimp only | skip)) | fail)
        refine Trip.iteB (b := true) (by (first | (simp only [ASt.ev, tmPut, ↓reduceIte, reduceIte, Nat.reduceEqDiff, decide_true, decide_false, not_true_eq_false, not_false_eq_true, Bool.not_true, Bool.not_false, *]; done) | fail)) (fun _ => ?_) (fun h => absurd h (by decide))
        repeat (first | (refine OpsL.p (by subst_vars; decide) (by (first | (exact aop_move (by (first | (simp only [ASt.ev, tmPut, ↓reduceIte, reduceIte, Nat.reduceEqDiff, plain1, *]; rfl) | fail))) | (exact aop_assign (by (first | (simp only [ASt.ev, tmPut, ↓reduceIte, reduceIte, Nat.reduceEqDiff, plain1, *]; rfl) | fail))) | fail)) ?_) | (refine Trip.seq ?_) | (refine Trip.ops ?_) | (refine Trip.ret ?_; ((repeat (first | refine blockExit_eq ?_ | refine blockExit_ne (by decide) ?_ | refine blockExit_normal ?_ | refine blockExit_ret ?_ | refine blockExit_goto ?_)); first | (change Trip _ _ _ _ _) | dsimp only | skip)) | (refine OpsL.nil ?_; ((repeat (first | refine blockExit_eq ?_ | refine blockExit_ne (by decide) ?_ | refine blockExit_normal ?_ | refine blockExit_ret ?_ | refine blockExit_goto ?_)); first | (change Trip _ _ _ _ _) | dsimp only | skip)) | fail)
        exact ⟨.inr rfl, _, res_two, hx1, r, (i : Int), true, by simp [tmPut], h1, h2, h3, .inl ⟨rfl, i, rfl, by rw [List.getElem?_eq_getElem (by omega), he]⟩⟩
      · rw [decide_eq_false he]
        repeat (first | (refine OpsL.nil ?_; ((repeat (first | refine blockExit_eq ?_ | refine blockExit_ne (by decide) ?_ | refine blockExit_normal ?_ | refine blockExit_ret ?_ | refine blockExit_goto ?_)); first | (change Trip _ _ _ _ _) | dsimp only | skip)) | fail)
        refine Trip.iteB (b := false) (by (first | (simp only [ASt.ev, tmPut, ↓reduceIte, reduceIte, Nat.reduceEqDiff, decide_true, decide_false, not_true_eq_false, not_false_eq_true, Bool.not_true, Bool.not_false, *]; done) | fail)) (fun h => absurd h (by decide)) (fun _ => ?_)
        repeat (first | (refine OpsL.p (by subst_vars; decide) (by (first | (exact aop_move (by (first | (simp only [ASt.ev, tmPut, ↓reduceIte, reduceIte, Nat.reduceEqDiff, plain1, *]; rfl) | fail))) | (exact aop_assign (by (first | (simp only [ASt.ev, tmPut, ↓reduceIte, reduceIte, Nat.reduceEqDiff, plain1, *]; rfl) | fail))) | (exact aop_add (by (first | (simp only [ASt.ev, tmPut, ↓reduceIte, reduceIte, Nat.reduceEqDiff, plain1, *]; rfl) | fail)) (by (first | (simp only [ASt.ev, tmPut, ↓reduceIte, reduceIte, Nat.reduceEqDiff, plain1, *]; rfl) | fail)) (by omega)) | fail)) ?_) | (refine Trip.ops ?_) | (refine Trip.skip ?_; ((repeat (first | refine blockExit_eq ?_ | refine blockExit_ne (by decide) ?_ | refine blockExit_normal ?_ | refine blockExit_ret ?_ | refine blockExit_goto ?_)); first | (change Trip _ _ _ _ _) | dsimp only | skip)) | (refine OpsL.nil ?_; ((repeat (first | refine blockExit_eq ?_ | refine blockExit_ne (by decide) ?_ | refine blockExit_normal ?_ | refine blockExit_ret ?_ | refine blockExit_goto ?_)); first | (change Trip _ _ _ _ _) | dsimp only | skip)) | fail)
        refine ⟨i + 1, ⟨_, rfl, by simp [tmPut, *], by simp [tmPut, *], by simp [tmPut, *], by omega, fun j hj hji => ?_⟩, by omega⟩
        by_cases hjk : j = i
        · subst hjk; exact he
        · exact hne j hj (by omega)
    · repeat (first | (refine OpsL.p (by subst_vars; decide) (by (first | (exact aop_move (by (first | (simp only [ASt.ev, tmPut, ↓reduceIte, reduceIte, Nat.reduceEqDiff, plain1, *]; rfl) | fail))) | (exact aop_nilCheck (by (first | (simp only [ASt.ev, tmPut, ↓reduceIte, reduceIte, Nat.reduceEqDiff, plain1, *]; rfl) | fail))) | (exact aop_fieldAddr (by (first | (simp only [ASt.ev, tmPut, ↓reduceIte, reduceIte, Nat.reduceEqDiff, plain1, *]; rfl) | fail)) (by exact rfl)) | (exact aop_load (by (first | (simp only [ASt.ev, tmPut, ↓reduceIte, reduceIte, Nat.reduceEqDiff, plain1, *]; rfl) | fail)) (by exact rfl) rfl (by assumption)) | (exact aop_len (by (first | (simp only [ASt.ev, tmPut, ↓reduceIte, reduceIte, Nat.reduceEqDiff, plain1, *]; rfl) | fail)) (by exact rfl)) | fail)) ?_) | (refine Trip.seq ?_) | (refine Trip.ops ?_) | fail)
      refine OpsL.p (by subst_vars; decide) (aop_lssF (by (first | (simp only [ASt.ev, tmPut, ↓reduceIte, reduceIte, Nat.reduceEqDiff, plain1, *]; rfl) | fail)) (by (first | (simp only [ASt.ev, tmPut, ↓reduceIte, reduceIte, Nat.reduceEqDiff, plain1, *]; rfl) | fail)) (by omega)) ?_
      repeat (first | (refine OpsL.nil ?_; ((repeat (first | refine blockExit_eq ?_ | refine blockExit_ne (by decide) ?_ | refine blockExit_normal ?_ | refine blockExit_ret ?_ | refine blockExit_goto ?_)); first | (change Trip _ _ _ _ _) | dsimp only | skip)) | fail)
      refine Trip.iteB (b := false) (by (first | (simp only [ASt.ev, tmPut, ↓reduceIte, reduceIte, Nat.reduceEqDiff, decide_true, decide_false, not_true_eq_false, not_false_eq_true, Bool.not_true, Bool.not_false, *]; done) | fail)) (fun h => absurd h (by decide)) (fun _ => ?_)
      repeat (first | (refine OpsL.p (by subst_vars; decide) (by (first | (exact aop_assign (by (first | (simp only [ASt.ev, tmPut, ↓reduceIte, reduceIte, Nat.reduceEqDiff, plain1, *]; rfl) | fail))) | fail)) ?_) | (refine Trip.seq ?_) | (refine Trip.ops ?_) | (refine Trip.exit ?_; ((repeat (first | refine blockExit_eq ?_ | refine blockExit_ne (by decide) ?_ | refine blockExit_normal ?_ | refine blockExit_ret ?_ | refine blockExit_goto ?_)); first | (change Trip _ _ _ _ _) | dsimp only | skip)) | (refine Trip.ret ?_; ((repeat (first | refine blockExit_eq ?_ | refine blockExit_ne (by decide) ?_ | refine blockExit_normal ?_ | refine blockExit_ret ?_ | refine blockExit_goto ?_)); first | (change Trip _ _ _ _ _) | dsimp only | skip)) | (refine OpsL.nil ?_; ((repeat (first | refine blockExit_eq ?_ | refine blockExit_ne (by decide) ?_ | refine blockExit_normal ?_ | refine blockExit_ret ?_ | refine blockExit_goto ?_)); first | (change Trip _ _ _ _ _) | dsimp only | skip)) | fail)
      refine ⟨.inr rfl, _, res_two, hx1, r, 0, false, by simp [tmPut], h1, h2, h3, .inr ⟨rfl, rfl, fun hin => ?_⟩⟩
      obtain ⟨j, hj, he⟩ := List.getElem_of_mem hin
      exact hne j hj (by omega) he

set_option maxHeartbeats 8000000 in
theorem rputC (W0 : World) {nx b : Nat} {H : Heap} {S : Nat → Prop} {R : List (List (Int × Int))} {pv : Value} {p : List (Int × Int)} (hT : RefAt H b S R) (hS : ∀ i, S i → i < nx) (hp : PairsAt H pv p) (hl : p.length ≤ 100) (hRl : R.length ≤ 1000) (hR : ∀ r ∈ R, r.length ≤ 100000) :
    ACalls Try.prog W0 32 [tabV b, pv] nx H fun v nx' H' => nx ≤ nx' ∧ ∃ (r : List (Int × Int)) (x : Int) (nw : Bool) (R' : List (List (Int × Int))) (S' : Nat → Prop), v = .tuple #[.int .i64 x, .bool nw] ∧ StrictP r ∧ (∀ z, z ∈ r ↔ z ∈ p) ∧ r.length ≤ p.length ∧ RefAt H' b S' R' ∧ (∀ i, S' i → S i ∨ (nx ≤ i ∧ i < nx')) ∧ (∀ i, i < nx → ¬ S i → H' i = H i) ∧ ((nw = false ∧ R' = R ∧ ∃ k : Nat, x = k ∧ R[k]? = some r) ∨ (nw = true ∧ r ∉ R ∧ x = R.length ∧ R' = R ++ [r])) := by
  refine ACalls.by_trip (fn := Try.f32) (c := _) Try.func32 rfl (fun tm n hn0 htm => ?_)
  have e0 : tm 0 = tabV b := htm 0
  have e1 : tm 1 = pv := htm 1
  clear htm
  replace hn0 : n = 33 := hn0
  refine Trip.ok fun hok => ?_
  replace hok : ∀ id o, H id = some o → id < nx := hok
  repeat (first | (refine OpsL.p (by subst_vars; decide) (by (first | (exact aop_move (by (first | (simp only [ASt.ev, tmPut, ↓reduceIte, reduceIte, Nat.reduceEqDiff, plain1, *]; rfl) | fail))) | (exact aop_assign (by (first | (simp only [ASt.ev, tmPut, ↓reduceIte, reduceIte, Nat.reduceEqDiff, plain1, *]; rfl) | fail))) | fail)) ?_) | (refine Trip.seq ?_) | (refine Trip.ops ?_) | (refine OpsL.nil ?_; ((repeat (first | refine blockExit_eq ?_ | refine blockExit_ne (by decide) ?_ | refine blockExit_normal ?_ | refine blockExit_ret ?_ | refine blockExit_goto ?_)); first | (change Trip _ _ _ _ _) | dsimp only | skip)) | fail)
  refine OpsL.call2 (by subst_vars; decide) (by (first | (simp only [ASt.ev, tmPut, ↓reduceIte, reduceIte, Nat.reduceEqDiff, plain1, *]; done) | fail)) (by (first | (simp only [ASt.ev, tmPut, ↓reduceIte, reduceIte, Nat.reduceEqDiff, plain1, *]; done) | fail)) entersFindR (rfindC W0 hT hS hp hl hRl hR).ok ?_
  rintro v1 nx1 H1 ⟨⟨hx1, r, x, ok, rfl, h1, h2, h3, hor⟩, hok1⟩
  have hT1 := hT.ext hx1 hS
  cases ok with
  | true =>
    obtain ⟨k, rfl, hk2⟩ : ∃ n : Nat, x = n ∧ R[n]? = some r := by
      rcases hor with ⟨_, h⟩ | ⟨h, _⟩
      · exact h
      · cases h
    clear hor
    repeat (first | (refine OpsL.p (by subst_vars; decide) (by (first | (exact aop_move (by (first | (simp only [ASt.ev, tmPut, ↓reduceIte, reduceIte, Nat.reduceEqDiff, plain1, *]; rfl) | fail))) | (exact aop_assign (by (first | (simp only [ASt.ev, tmPut, ↓reduceIte, reduceIte, Nat.reduceEqDiff, plain1, *]; rfl) | fail))) | (exact aop_extract (by (first | (simp only [ASt.ev, tmPut, ↓reduceIte, reduceIte, Nat.reduceEqDiff, plain1, *]; rfl) | fail)) (by exact rfl)) | fail)) ?_) | (refine Trip.seq ?_) | (refine Trip.ops ?_) | (refine OpsL.nil ?_; ((repeat (first | refine blockExit_eq ?_ | refine blockExit_ne (by decide) ?_ | refine blockExit_normal ?_ | refine blockExit_ret ?_ | refine blockExit_goto ?_)); first | (change Trip _ _ _ _ _) | dsimp only | skip)) | fail)
    refine Trip.iteB (b := true) (by (first | (simp only [ASt.ev, tmPut, ↓reduceIte, reduceIte, Nat.reduceEqDiff, decide_true, decide_false, not_true_eq_false, not_false_eq_true, Bool.not_true, Bool.not_false, *]; rfl) | fail)) (fun _ => ?_) (fun h => absurd h (by decide))
    repeat (first | (refine OpsL.p (by subst_vars; decide) (by (first | (exact aop_move (by (first | (simp only [ASt.ev, tmPut, ↓reduceIte, reduceIte, Nat.reduceEqDiff, plain1, *]; rfl) | fail))) | (exact aop_assign (by (first | (simp only [ASt.ev, tmPut, ↓reduceIte, reduceIte, Nat.reduceEqDiff, plain1, *]; rfl) | fail))) | fail)) ?_) | (refine Trip.seq ?_) | (refine Trip.ops ?_) | (refine Trip.ret ?_; ((repeat (first | refine blockExit_eq ?_ | refine blockExit_ne (by decide) ?_ | refine blockExit_normal ?_ | refine blockExit_ret ?_ | refine blockExit_goto ?_)); first | (change Trip _ _ _ _ _) | dsimp only | skip)) | (refine OpsL.nil ?_; ((repeat (first | refine blockExit_eq ?_ | refine blockExit_ne (by decide) ?_ | refine blockExit_normal ?_ | refine blockExit_ret ?_ | refine blockExit_goto ?_)); first | (change Trip _ _ _ _ _) | dsimp only | skip)) | fail)
    exact ⟨.inr rfl, _, res_two, hx1.1, r, (k : Int), false, R, S, by simp [tmPut], h1, h2, h3, hT1, fun i hi => .inl hi, fun i hi _ => hx1.2 i hi, .inl ⟨rfl, rfl, k, rfl, hk2⟩⟩
  | false =>
    have hnin : r ∉ R := by
      rcases hor with ⟨h, _⟩ | ⟨_, _, h⟩
      · cases h
      · exact h
    clear hor
    obtain ⟨rob, rv, vs, h⟩ := hT1
    have hvl := h.len
    have hrx : ∀ b' t, rob = some (b', t) → b' < nx ∧ b' ≠ b := fun b' t e => ⟨hS b' (h.inr b' t e).1, (h.inr b' t e).2⟩
    have hbx : b < nx := hS b h.inb
    have hn1 := hx1.1
    have hrw1 := h.rows
    have ho1 := h.obj
    have c1 : cellAt H1 ⟨b, 0 + 0, none⟩ rv := cellAt_own (off := 0) ho1 (by show 0 < 1; decide)
    obtain ⟨ra, rc, hrv⟩ := (OwnOf.at encS_len hrw1).slice
    subst hrv
    rw [hvl] at c1
    have hp1 := hp.ext hx1 hok
    repeat (first | (refine OpsL.p (by subst_vars; decide) (by (first | (exact aop_move (by (first | (simp only [ASt.ev, tmPut, ↓reduceIte, reduceIte, Nat.reduceEqDiff, plain1, *]; rfl) | fail))) | (exact aop_assign (by (first | (simp only [ASt.ev, tmPut, ↓reduceIte, reduceIte, Nat.reduceEqDiff, plain1, *]; rfl) | fail))) | (exact aop_extract (by (first | (simp only [ASt.ev, tmPut, ↓reduceIte, reduceIte, Nat.reduceEqDiff, plain1, *]; rfl) | fail)) (by exact rfl)) | fail)) ?_) | (refine Trip.seq ?_) | (refine Trip.ops ?_) | (refine OpsL.nil ?_; ((repeat (first | refine blockExit_eq ?_ | refine blockExit_ne (by decide) ?_ | refine blockExit_normal ?_ | refine blockExit_ret ?_ | refine blockExit_goto ?_)); first | (change Trip _ _ _ _ _) | dsimp only | skip)) | fail)
    refine Trip.iteB (b := false) (by (first | (simp only [ASt.ev, tmPut, ↓reduceIte, reduceIte, Nat.reduceEqDiff, decide_true, decide_false, not_true_eq_false, not_false_eq_true, Bool.not_true, Bool.not_false, *]; rfl) | fail)) (fun h => absurd h (by decide)) (fun _ => ?_)
    repeat (first | (refine Trip.seq ?_) | (refine Trip.skip ?_; ((repeat (first | refine blockExit_eq ?_ | refine blockExit_ne (by decide) ?_ | refine blockExit_normal ?_ | refine blockExit_ret ?_ | refine blockExit_goto ?_)); first | (change Trip _ _ _ _ _) | dsimp only | skip)) | fail)
    refine Trip.mono (Q := fun e st => e = .normal ∧ ∃ (tm' : Nat → Value) (nx4 : Nat) (H4 : Heap) (rob4 : Option (Nat × Nat)) (rv4 : Value) (cv : SV), st = ⟨tm', n, H4, nx4⟩ ∧ nx1 ≤ nx4 ∧ (∀ id o, H4 id = some o → id < nx4) ∧ (∀ i, i < nx1 → i ≠ b → (∀ t, rob ≠ some (i, t)) → H4 i = H1 i) ∧ H4 b = some (.cells [rv4] 0 none false (some 63)) ∧ OwnOf encS 1 24 H4 rob4 rv4 (vs ++ [cv]) ∧ PairsAt H4 (.slice cv.1 cv.2.1 cv.2.2) r ∧ (∀ a, cv.1 = some a → nx1 ≤ a.block ∧ a.block < nx4 ∧ ∀ t, rob4 ≠ some (a.block, t)) ∧ (∀ b' t, rob4 = some (b', t) → b' < nx4 ∧ (nx1 ≤ b' ∨ ∃ t', rob = some (b', t'))) ∧ tm' 0 = tabV b) ?_ ?_
    · refine OpsR.drawn [4, 6, 7, 8, 11] (K := fun _ _ => True) mixedP (by kernel_rfl) (by kernel_rfl) [0, 1, 2, 3, 5, 4, 6, 7, 8, 9, 10, 11] (by kernel_rfl) trivial ?_
      generalize hops : (#[_, _, _, _, _, _, _, _, _, _, _, _] : Array Oper) = ops
      have cont : ∀ (tm : Nat → Value) (nx3 : Nat) (H3 : Heap) (cv : SV) (nb : Nat), Ext nx1 H1 nx3 H3 → (∀ id o, H3 id = some o → id < nx3) → PairsAt H3 (.slice cv.1 cv.2.1 cv.2.2) r → (∀ a, cv.1 = some a → nx1 ≤ a.block ∧ a.block < nx3) → H3 nb = some (.cells [.slice cv.1 cv.2.1 cv.2.2] 1 none false (some 24)) →
          tm 20 = .slice ra R.length rc → tm 23 = .slice (some ⟨nb, 0, none⟩) 1 1 → tm 16 = tabV b → tm 0 = tabV b →
          OpsR Try.prog W0 ops [4, 6, 7, 8, 11] (fun _ _ => True) 4 [8, 9, 10, 11] ⟨tm, n, H3, nx3⟩ (fun st => AExit.normal = .normal ∧ ∃ (tm' : Nat → Value) (nx4 : Nat) (H4 : Heap) (rob4 : Option (Nat × Nat)) (rv4 : Value) (cv : SV), st = ⟨tm', n, H4, nx4⟩ ∧ nx1 ≤ nx4 ∧ (∀ id o, H4 id = some o → id < nx4) ∧ (∀ i, i < nx1 → i ≠ b → (∀ t, rob ≠ some (i, t)) → H4 i = H1 i) ∧ H4 b = some (.cells [rv4] 0 none false (some 63)) ∧ OwnOf encS 1 24 H4 rob4 rv4 (vs ++ [cv]) ∧ PairsAt H4 (.slice cv.1 cv.2.1 cv.2.2) r ∧ (∀ a, cv.1 = some a → nx1 ≤ a.block ∧ a.block < nx4 ∧ ∀ t, rob4 ≠ some (a.block, t)) ∧ (∀ b' t, rob4 = some (b', t) → b' < nx4 ∧ (nx1 ≤ b' ∨ ∃ t', rob = some (b', t'))) ∧ tm' 0 = tabV b) := by
        subst hops
        intro tm nx3 H3 cv nb hx3 hok3 hcv hca hnb e20 e23 e16 e0
        have hrw3 := hrw1.ext hx3 (fun b' t e => by have := (hrx b' t e).1; omega)
        rw [hvl] at hrw3
        have hone : RowsAt encS 1 H3 (.slice (some ⟨nb, 0, none⟩) 1 1) [cv] := by
          refine .inr ⟨⟨nb, 0, none⟩, 1, rfl, fun j hj => ?_⟩
          have : j = 0 := by simpa using hj
          subst this
          have := cellAt_own (off := 0) hnb (by show 0 < 1; decide)
          exact this
        refine OpsR.act (by kernel_rfl) (ActStep.ofL rfl rfl ?_)
        refine OpsL.appendO (bytes := 24) (z := [.slice none 0 0]) encS_len encS_one (by omega) (by subst_vars; decide) hrw3 hone (by (first | (simp only [ASt.ev, tmPut, ↓reduceIte, reduceIte, Nat.reduceEqDiff, plain1, *]; done) | fail)) (by (first | (simp only [ASt.ev, tmPut, ↓reduceIte, reduceIte, Nat.reduceEqDiff, plain1, *]; done) | fail)) (fun b' t e => by have := (hrx b' t e).1; have := hx3.1; omega) (by exact rfl) (by exact rfl) (by exact rfl) (by exact rfl) (by exact rfl) rfl (by simp; omega) (by omega) ?_
        intro v4 nx4 H4 rob4 hA
        obtain ⟨a4, c4, hv4⟩ := (OwnOf.at encS_len hA.own).slice
        have hAo := hA.own
        rw [hv4] at hAo
        have hsame : ∀ i, i < nx1 → (∀ t, rob ≠ some (i, t)) → H4 i = H1 i := fun i hi hne => by rw [hA.same i (by have := hx3.1; omega) (fun b' t e he => hne t (by rw [he]; exact e)), hx3.2 i hi]
        have hbr : ∀ t, rob ≠ some (b, t) := fun t e => (hrx b t e).2 rfl
        have hb4 : H4 b = some (.cells [.slice ra vs.length rc] 0 none false (some 63)) := (hsame b (by omega) hbr).trans ho1
        have hok4 := hA.ok (fun b' t e => by have := (hrx b' t e).1; have := hx3.1; omega) hok3
        have hblk : ∀ b' t, rob4 = some (b', t) → b' < nx4 ∧ b' ≠ b ∧ (b' = nx3 ∨ ∃ t', rob = some (b', t')) := fun b' t e => by
          obtain ⟨i1, i2⟩ := hA.blk b' t e
          refine ⟨i1, ?_, i2⟩
          rcases i2 with rfl | ⟨t', h'⟩
          · have := hx3.1; omega
          · exact (hrx b' t' h').2
        refine OpsL.nil ⟨trivial, ?_⟩
        rw [hv4]
        refine OpsR.one rfl rfl rfl (by kernel_rfl) ?_
        repeat (first | (refine OpsL.p (by subst_vars; decide) (by (first | (exact aop_nilCheck (by (first | (simp only [ASt.ev, tmPut, ↓reduceIte, reduceIte, Nat.reduceEqDiff, plain1, *]; rfl) | fail))) | fail)) ?_) | (refine OpsL.nil ?_; ((repeat (first | refine blockExit_eq ?_ | refine blockExit_ne (by decide) ?_ | refine blockExit_normal ?_ | refine blockExit_ret ?_ | refine blockExit_goto ?_)); first | (change Trip _ _ _ _ _) | dsimp only | skip)) | fail)
        refine OpsR.one rfl rfl rfl (by kernel_rfl) ?_
        repeat (first | (refine OpsL.p (by subst_vars; decide) (by (first | (exact aop_fieldAddr (by (first | (simp only [ASt.ev, tmPut, ↓reduceIte, reduceIte, Nat.reduceEqDiff, plain1, *]; rfl) | fail)) (by exact rfl)) | fail)) ?_) | (refine OpsL.nil ?_; ((repeat (first | refine blockExit_eq ?_ | refine blockExit_ne (by decide) ?_ | refine blockExit_normal ?_ | refine blockExit_ret ?_ | refine blockExit_goto ?_)); first | (change Trip _ _ _ _ _) | dsimp only | skip)) | fail)
        refine OpsR.act (by kernel_rfl) (ActStep.ofL rfl rfl ?_)
        refine OpsL.storeAt (cs := [.slice ra vs.length rc]) (cs' := [.slice a4 (vs ++ [cv]).length c4]) (e := 0) (q := some 63) 0 (by (first | (simp only [ASt.ev, tmPut, ↓reduceIte, reduceIte, Nat.reduceEqDiff, plain1, *]; rfl) | fail)) (by (first | (simp only [ASt.ev, tmPut, ↓reduceIte, reduceIte, Nat.reduceEqDiff, plain1, *]; done) | fail)) (by exact rfl) rfl rfl (by exact hb4) rfl (by show 0 < 1; decide) rfl ?_
        refine OpsL.nil ⟨trivial, ?_⟩
        refine OpsR.nil ?_
        refine ⟨rfl, _, nx4, _, rob4, .slice a4 (vs ++ [cv]).length c4, cv, rfl, by have := hx3.1; have := hA.le; omega, fun id o ho => ?_, fun i hi hne hr => ?_, Heap.put_eq, OwnRow.put_ne hAo (fun b' t e => (hblk b' t e).2.1), hcv.same fun a n c e => ?_, fun a e => ?_, fun b' t e => ?_, by simp [tmPut, *]⟩
        · by_cases hib : id = b
          · have := hx3.1; have := hA.le; omega
          · replace ho : Heap.put H4 b _ id = some o := ho
            rw [Heap.put_ne hib] at ho
            exact hok4 id o ho
        · show Heap.put H4 b _ i = _
          rw [Heap.put_ne hne, hsame i hi hr]
        · have := hca a (Value.slice.inj e).1
          show Heap.put H4 b _ a.block = _
          rw [Heap.put_ne (by omega), hA.same a.block this.2 (fun b' t e' => by have := (hrx b' t e').1; omega)]
        · have := hca a e
          refine ⟨this.1, by have := hA.le; omega, fun t e' => ?_⟩
          obtain ⟨_, _, i3⟩ := hblk _ _ e'
          rcases i3 with i3 | ⟨t', i3⟩
          · omega
          · have := (hrx _ _ i3).1; omega
        · obtain ⟨i1, _, i3⟩ := hblk b' t e
          refine ⟨i1, ?_⟩
          rcases i3 with i3 | i3
          · left; have := hx3.1; omega
          · exact .inr i3
      have hl100 : p.length ≤ 100000 := by omega
      subst hops
      refine OpsR.one rfl rfl rfl (by kernel_rfl) ?_
      repeat (first | (refine OpsL.p (by subst_vars; decide) (by (first | (exact aop_move (by (first | (simp only [ASt.ev, tmPut, ↓reduceIte, reduceIte, Nat.reduceEqDiff, plain1, *]; rfl) | fail))) | fail)) ?_) | (refine OpsL.nil ?_; ((repeat (first | refine blockExit_eq ?_ | refine blockExit_ne (by decide) ?_ | refine blockExit_normal ?_ | refine blockExit_ret ?_ | refine blockExit_goto ?_)); first | (change Trip _ _ _ _ _) | dsimp only | skip)) | fail)
      refine OpsR.one rfl rfl rfl (by kernel_rfl) ?_
      repeat (first | (refine OpsL.p (by subst_vars; decide) (by (first | (exact aop_move (by (first | (simp only [ASt.ev, tmPut, ↓reduceIte, reduceIte, Nat.reduceEqDiff, plain1, *]; rfl) | fail))) | fail)) ?_) | (refine OpsL.nil ?_; ((repeat (first | refine blockExit_eq ?_ | refine blockExit_ne (by decide) ?_ | refine blockExit_normal ?_ | refine blockExit_ret ?_ | refine blockExit_goto ?_)); first | (change Trip _ _ _ _ _) | dsimp only | skip)) | fail)
      refine OpsR.one rfl rfl rfl (by kernel_rfl) ?_
      repeat (first | (refine OpsL.p (by subst_vars; decide) (by (first | (exact aop_nilCheck (by (first | (simp only [ASt.ev, tmPut, ↓reduceIte, reduceIte, Nat.reduceEqDiff, plain1, *]; rfl) | fail))) | fail)) ?_) | (refine OpsL.nil ?_; ((repeat (first | refine blockExit_eq ?_ | refine blockExit_ne (by decide) ?_ | refine blockExit_normal ?_ | refine blockExit_ret ?_ | refine blockExit_goto ?_)); first | (change Trip _ _ _ _ _) | dsimp only | skip)) | fail)
      refine OpsR.one rfl rfl rfl (by kernel_rfl) ?_
      repeat (first | (refine OpsL.p (by subst_vars; decide) (by (first | (exact aop_fieldAddr (by (first | (simp only [ASt.ev, tmPut, ↓reduceIte, reduceIte, Nat.reduceEqDiff, plain1, *]; rfl) | fail)) (by exact rfl)) | fail)) ?_) | (refine OpsL.nil ?_; ((repeat (first | refine blockExit_eq ?_ | refine blockExit_ne (by decide) ?_ | refine blockExit_normal ?_ | refine blockExit_ret ?_ | refine blockExit_goto ?_)); first | (change Trip _ _ _ _ _) | dsimp only | skip)) | fail)
      refine OpsR.one rfl rfl rfl (by kernel_rfl) ?_
      repeat (first | (refine OpsL.p (by subst_vars; decide) (by (first | (exact aop_move (by (first | (simp only [ASt.ev, tmPut, ↓reduceIte, reduceIte, Nat.reduceEqDiff, plain1, *]; rfl) | fail))) | fail)) ?_) | (refine OpsL.nil ?_; ((repeat (first | refine blockExit_eq ?_ | refine blockExit_ne (by decide) ?_ | refine blockExit_normal ?_ | refine blockExit_ret ?_ | refine blockExit_goto ?_)); first | (change Trip _ _ _ _ _) | dsimp only | skip)) | fail)
      refine OpsR.act2 (by kernel_rfl) (ActStep.ofL rfl rfl ?_) (ActStep.ofL rfl rfl ?_)
      · refine OpsL.p (by subst_vars; decide) (aop_load (by (first | (simp only [ASt.ev, tmPut, ↓reduceIte, reduceIte, Nat.reduceEqDiff, plain1, *]; rfl) | fail)) (by exact rfl) rfl c1) ?_
        refine OpsL.nil ⟨trivial, ?_⟩
        refine OpsR.act (by kernel_rfl) (ActStep.ofL rfl rfl ?_)
        refine OpsL.call1 (by subst_vars; decide) (by (first | (simp only [ASt.ev, tmPut, ↓reduceIte, reduceIte, Nat.reduceEqDiff, plain1, *]; done) | fail)) entersPairsR (rpairsC W0 hp1 hl100).ok ?_
        rintro v2 nx2 H2 ⟨⟨ob2, r2, s2, m2, l2, w2, hx2, hob2⟩, hok2⟩
        obtain rfl : r = r2 := (strict_ext _ _ s2 h1 fun z => by rw [m2, h2]).symm
        have hp2 := w2.at encP_len
        have hb2 : ∀ a n c, v2 = .slice (some a) n c → nx1 ≤ a.block ∧ a.block < nx2 := own_blk (Q := fun i => nx1 ≤ i ∧ i < nx2) w2 hob2
        obtain ⟨ca, cc, rfl⟩ := hp2.slice
        clear w2 hob2 m2 l2 s2
        refine OpsL.nil ⟨trivial, ?_⟩
        refine OpsR.act (by kernel_rfl) (ActStep.ofL rfl rfl ?_)
        refine OpsL.new (by subst_vars; decide) (aop_buildSlice (l := [(0, .slice ca r.length cc)]) (r := (.slice (some ⟨nx2, 0, none⟩) 1 1, .new (.cells [.slice ca r.length cc] 1 none false (some 24)))) (by simp only [evParts, ASt.ev, tmPut, ↓reduceIte, reduceIte, Option.some.injEq, Nat.reduceEqDiff, *]) (by kernel_rfl)) ?_
        refine OpsL.nil ⟨trivial, ?_⟩
        exact cont _ (nx2 + 1) _ (ca, r.length, cc) nx2 (hx2.trans Ext.newPut) (ok_new hok2) (hp2.ext Ext.newPut hok2) (fun a e => by have e' : ca = some a := e; have := hb2 a _ cc (by rw [e']); omega) Heap.put_eq (by simp [tmPut, *]) (by simp [tmPut, *]) (by simp [tmPut, *]) (by simp [tmPut, *])
      · refine OpsL.call1 (by subst_vars; decide) (by (first | (simp only [ASt.ev, tmPut, ↓reduceIte, reduceIte, Nat.reduceEqDiff, plain1, *]; done) | fail)) entersPairsR (rpairsC W0 hp1 hl100).ok ?_
        rintro v2 nx2 H2 ⟨⟨ob2, r2, s2, m2, l2, w2, hx2, hob2⟩, hok2⟩
        obtain rfl : r = r2 := (strict_ext _ _ s2 h1 fun z => by rw [m2, h2]).symm
        have hp2 := w2.at encP_len
        have hb2 : ∀ a n c, v2 = .slice (some a) n c → nx1 ≤ a.block ∧ a.block < nx2 := own_blk (Q := fun i => nx1 ≤ i ∧ i < nx2) w2 hob2
        obtain ⟨ca, cc, rfl⟩ := hp2.slice
        clear w2 hob2 m2 l2 s2
        have hbH2 : H2 b = H1 b := hx2.2 b (by omega)
        have c2 : cellAt H2 ⟨b, 0 + 0, none⟩ (.slice ra R.length rc) := by rw [← hvl]; exact cellAt_own (off := 0) (hbH2.trans ho1) (by show 0 < 1; decide)
        refine OpsL.nil ⟨trivial, ?_⟩
        refine OpsR.act2 (by kernel_rfl) (ActStep.ofL rfl rfl ?_) (ActStep.ofL rfl rfl ?_)
        · refine OpsL.p (by subst_vars; decide) (aop_load (by (first | (simp only [ASt.ev, tmPut, ↓reduceIte, reduceIte, Nat.reduceEqDiff, plain1, *]; rfl) | fail)) (by exact rfl) rfl c2) ?_
          refine OpsL.nil ⟨trivial, ?_⟩
          refine OpsR.act (by kernel_rfl) (ActStep.ofL rfl rfl ?_)
          refine OpsL.new (by subst_vars; decide) (aop_buildSlice (l := [(0, .slice ca r.length cc)]) (r := (.slice (some ⟨nx2, 0, none⟩) 1 1, .new (.cells [.slice ca r.length cc] 1 none false (some 24)))) (by simp only [evParts, ASt.ev, tmPut, ↓reduceIte, reduceIte, Option.some.injEq, Nat.reduceEqDiff, *]) (by kernel_rfl)) ?_
          refine OpsL.nil ⟨trivial, ?_⟩
          exact cont _ (nx2 + 1) _ (ca, r.length, cc) nx2 (hx2.trans Ext.newPut) (ok_new hok2) (hp2.ext Ext.newPut hok2) (fun a e => by have e' : ca = some a := e; have := hb2 a _ cc (by rw [e']); omega) Heap.put_eq (by simp [tmPut, *]) (by simp [tmPut, *]) (by simp [tmPut, *]) (by simp [tmPut, *])
        · refine OpsL.new (by subst_vars; decide) (aop_buildSlice (l := [(0, .slice ca r.length cc)]) (r := (.slice (some ⟨nx2, 0, none⟩) 1 1, .new (.cells [.slice ca r.length cc] 1 none false (some 24)))) (by simp only [evParts, ASt.ev, tmPut, ↓reduceIte, reduceIte, Option.some.injEq, Nat.reduceEqDiff, *]) (by kernel_rfl)) ?_
          have c3 : cellAt (H2.put nx2 (.cells [.slice ca r.length cc] 1 none false (some 24))) ⟨b, 0 + 0, none⟩ (.slice ra R.length rc) := by
            unfold cellAt
            rw [getc_put (by show b ≠ nx2; have := hx2.1; omega)]
            exact c2
          refine OpsL.nil ⟨trivial, ?_⟩
          refine OpsR.act (by kernel_rfl) (ActStep.ofL rfl rfl ?_)
          refine OpsL.p (by subst_vars; decide) (aop_load (by (first | (simp only [ASt.ev, tmPut, ↓reduceIte, reduceIte, Nat.reduceEqDiff, plain1, *]; rfl) | fail)) (by exact rfl) rfl c3) ?_
          refine OpsL.nil ⟨trivial, ?_⟩
          exact cont _ (nx2 + 1) _ (ca, r.length, cc) nx2 (hx2.trans Ext.newPut) (ok_new hok2) (hp2.ext Ext.newPut hok2) (fun a e => by have e' : ca = some a := e; have := hb2 a _ cc (by rw [e']); omega) Heap.put_eq (by simp [tmPut, *]) (by simp [tmPut, *]) (by simp [tmPut, *]) (by simp [tmPut, *])
    · clear e0 e1
      rintro e st ⟨rfl, tm, nx4, H4, rob4, rv4, cv, rfl, hn4, hok4, hf4, ho4, hrw4, hcv, hca, hr4, e0⟩
      ((repeat (first | refine blockExit_eq ?_ | refine blockExit_ne (by decide) ?_ | refine blockExit_normal ?_ | refine blockExit_ret ?_ | refine blockExit_goto ?_)); first | (change Trip _ _ _ _ _) | dsimp only | skip)
      have c4 : cellAt H4 ⟨b, 0 + 0, none⟩ rv4 := cellAt_own (off := 0) ho4 (by show 0 < 1; decide)
      obtain ⟨ra4, rc4, hrv4⟩ := (OwnOf.at encS_len hrw4).slice
      have hlen4 : (vs ++ [cv]).length = R.length + 1 := by rw [List.length_append, List.length_singleton, hvl]
      rw [hrv4, hlen4] at c4
      repeat (first | (refine OpsL.p (by subst_vars; decide) (by (first | (exact aop_move (by (first | (simp only [ASt.ev, tmPut, ↓reduceIte, reduceIte, Nat.reduceEqDiff, plain1, *]; rfl) | fail))) | (exact aop_assign (by (first | (simp only [ASt.ev, tmPut, ↓reduceIte, reduceIte, Nat.reduceEqDiff, plain1, *]; rfl) | fail))) | (exact aop_sub (by (first | (simp only [ASt.ev, tmPut, ↓reduceIte, reduceIte, Nat.reduceEqDiff, plain1, *]; rfl) | fail)) (by (first | (simp only [ASt.ev, tmPut, ↓reduceIte, reduceIte, Nat.reduceEqDiff, plain1, *]; rfl) | fail)) (by omega)) | (exact aop_len (by (first | (simp only [ASt.ev, tmPut, ↓reduceIte, reduceIte, Nat.reduceEqDiff, plain1, *]; rfl) | fail)) (by exact rfl)) | (exact aop_fieldAddr (by (first | (simp only [ASt.ev, tmPut, ↓reduceIte, reduceIte, Nat.reduceEqDiff, plain1, *]; rfl) | fail)) (by exact rfl)) | (exact aop_load (by (first | (simp only [ASt.ev, tmPut, ↓reduceIte, reduceIte, Nat.reduceEqDiff, plain1, *]; rfl) | fail)) (by exact rfl) rfl (by assumption)) | (exact aop_nilCheck (by (first | (simp only [ASt.ev, tmPut, ↓reduceIte, reduceIte, Nat.reduceEqDiff, plain1, *]; rfl) | fail))) | fail)) ?_) | (refine Trip.seq ?_) | (refine Trip.ops ?_) | (refine Trip.ret ?_; ((repeat (first | refine blockExit_eq ?_ | refine blockExit_ne (by decide) ?_ | refine blockExit_normal ?_ | refine blockExit_ret ?_ | refine blockExit_goto ?_)); first | (change Trip _ _ _ _ _) | dsimp only | skip)) | (refine OpsL.nil ?_; ((repeat (first | refine blockExit_eq ?_ | refine blockExit_ne (by decide) ?_ | refine blockExit_normal ?_ | refine blockExit_ret ?_ | refine blockExit_goto ?_)); first | (change Trip _ _ _ _ _) | dsimp only | skip)) | fail)
      refine ⟨.inr rfl, _, res_two, by omega, r, (R.length : Int), true, R ++ [r], (fun i => S i ∨ (nx ≤ i ∧ i < nx4)), by simp [tmPut], h1, h2, h3, ⟨rob4, rv4, vs ++ [cv], ho4, hrw4, by rw [hlen4, List.length_append, List.length_singleton], fun i g1 g2 => ?_, .inl h.inb, fun b' t e => ⟨?_, ?_⟩, fun i g1 a e => ?_⟩, fun i hi => hi, fun i hi hne => by rw [hf4 i (by omega) (fun e => hne (by rw [e]; exact h.inb)) (fun t e => hne (h.inr _ _ e).1), hx1.2 i hi], .inr ⟨rfl, hnin, rfl, rfl⟩⟩
      · rw [List.length_append, List.length_singleton] at g1
        by_cases hi : i < vs.length
        · have e1 : (vs ++ [cv])[i]'(by rw [List.length_append, List.length_singleton]; omega) = vs[i] := List.getElem_append_left hi
          have e2 : (R ++ [r])[i]'g2 = R[i]'(by omega) := List.getElem_append_left (by omega)
          rw [e1, e2]
          refine (h.row i hi (by omega)).same fun a n c e => ?_
          obtain ⟨j1, j2, j3⟩ := h.inv i hi a (Value.slice.inj e).1
          exact hf4 _ (by have := hS _ j1; omega) j2 j3
        · have hi2 : i = vs.length := by omega
          subst hi2
          have e1 : (vs ++ [cv])[vs.length]'(by rw [List.length_append, List.length_singleton]; omega) = cv := by simp
          have e2 : (R ++ [r])[vs.length]'g2 = r := by simp [hvl]
          rw [e1, e2]
          exact hcv
      · rcases (hr4 b' t e).2 with hh | ⟨t', hh⟩
        · exact .inr ⟨by omega, (hr4 b' t e).1⟩
        · exact .inl (h.inr _ _ hh).1
      · rcases (hr4 b' t e).2 with hh | ⟨t', hh⟩
        · omega
        · exact (h.inr _ _ hh).2
      · rw [List.length_append, List.length_singleton] at g1
        by_cases hi : i < vs.length
        · have e1 : (vs ++ [cv])[i]'(by rw [List.length_append, List.length_singleton]; omega) = vs[i] := List.getElem_append_left hi
          rw [e1] at e
          obtain ⟨j1, j2, j3⟩ := h.inv i hi a e
          refine ⟨.inl j1, j2, fun t e' => ?_⟩
          rcases (hr4 _ t e').2 with hh | ⟨t', hh⟩
          · have := hS _ j1; omega
          · exact j3 t' hh
        · have hi2 : i = vs.length := by omega
          subst hi2
          have e1 : (vs ++ [cv])[vs.length]'(by rw [List.length_append, List.length_singleton]; omega) = cv := by simp
          rw [e1] at e
          obtain ⟨j1, j2, j3⟩ := hca a e
          exact ⟨.inr ⟨by omega, by omega⟩, by omega, j3⟩

end Go.Proofs.Ytigincejpjajpaa
