/-
  A table over trees: add.
-/
import Derived.Test.YtigincejpjajpaaPut2
namespace Go.Proofs.Ytigincejpjajpaa
set_option linter.unusedSimpArgs false
set_option linter.unusedVariables false
set_option maxRecDepth 20000
open Go.RowKit Go.Am
attribute [local irreducible] aop OpsL Trip blockExit OpsD OpsK OpsR

set_option maxHeartbeats 8000000 in
theorem addC (W0 : World) {nx b : Nat} {H : Heap} {S : Nat → Prop} {R : List (List (Int × Int))} {ob : Option (Nat × Nat)} {v : Value} {l : List (Int × Int)} (hT : TabAt H b S R) (hS : ∀ i, S i → i < nx) (hrow : SufOf H ob v l l) (hob : ∀ b' t, ob = some (b', t) → b' < nx ∧ ¬ S b') (hl : l.length ≤ 100) (hRl : R.length ≤ 1000) (hnew : l ∉ R) :
    ACalls Try.prog W0 45 [tabV b, v] nx H fun v nx' H' => v = .int .i64 R.length ∧ nx ≤ nx' ∧ TabAt H' b (fun i => S i ∨ (nx ≤ i ∧ i < nx')) (R ++ [l]) ∧ ∀ i, i < nx → ¬ S i → H' i = H i := by
  obtain ⟨M, rob, rv, lv, vs, h⟩ := hT
  refine ACalls.by_trip (fn := Try.f45) (c := _) Try.func45 rfl (fun tm n hn0 htm => ?_)
  have e0 : tm 0 = tabV b := htm 0
  have e1 : tm 1 = v := htm 1
  clear htm
  replace hn0 : n = 51 := hn0
  refine Trip.ok fun hok => ?_
  replace hok : ∀ id o, H id = some o → id < nx := hok
  have hbx : b < nx := hS b h.inb
  have c0 : cellAt H ⟨b, 0 + 1, none⟩ lv := cellAt_own (off := 1) h.obj (by show 1 < 2; decide)
  have hsm := h.small
  have hvl := h.len
  have hrx : ∀ b' t, rob = some (b', t) → b' < nx ∧ b' ≠ b := fun b' t e => ⟨hS b' (h.inr b' t e).1, (h.inr b' t e).2⟩
  refine Trip.seq ?_
  refine Trip.ops ?_
  refine OpsL.p (by subst_vars; decide) (aop_assign (by (first | (simp only [ASt.ev, tmPut, ↓reduceIte, reduceIte, Nat.reduceEqDiff, plain1, *]; rfl) | fail))) ?_
  refine OpsL.nil ?_
  dsimp only
  -- a map, if there is none
  refine Trip.seq (Trip.mono (Q := fun e s => e = .normal ∧ ∃ (tm' : Nat → Value) (nx1 : Nat) (H1 : Heap) (m : Nat), s = ⟨tm', n, H1, nx1⟩ ∧ nx ≤ nx1 ∧ (∀ id o, H1 id = some o → id < nx1) ∧ (∀ i, i < nx → i ≠ b → H1 i = H i) ∧ H1 b = some (.cells [rv, .map (some m)] 0 none false (some 61)) ∧ LinksAt H1 (.map (some m)) M ∧ m < nx1 ∧ m ≠ b ∧ (∀ t, rob ≠ some (m, t)) ∧ (S m ∨ nx ≤ m) ∧ (∀ i (hi : i < vs.length) a, vs[i].1 = some a → a.block ≠ m) ∧ tm' 0 = tabV b ∧ tm' 1 = v) ?_ ?_)
  · rcases h.links.2 with ⟨rfl, rfl⟩ | ⟨m, bs, clk, rfl, hm⟩
    · repeat (first | (refine OpsL.p (by subst_vars; decide) (by (first | (exact aop_move (by (first | (simp only [ASt.ev, tmPut, ↓reduceIte, reduceIte, Nat.reduceEqDiff, plain1, *]; rfl) | fail))) | (exact aop_fieldAddr (by (first | (simp only [ASt.ev, tmPut, ↓reduceIte, reduceIte, Nat.reduceEqDiff, plain1, *]; rfl) | fail)) (by exact rfl)) | (exact aop_load (by (first | (simp only [ASt.ev, tmPut, ↓reduceIte, reduceIte, Nat.reduceEqDiff, plain1, *]; rfl) | fail)) (by exact rfl) rfl (by assumption)) | (exact aop_nilCheck (by (first | (simp only [ASt.ev, tmPut, ↓reduceIte, reduceIte, Nat.reduceEqDiff, plain1, *]; rfl) | fail))) | fail)) ?_) | (refine Trip.seq ?_) | (refine Trip.ops ?_) | fail)
      refine OpsL.p (by subst_vars; decide) (aop_eqlM (r := true) (by (first | (simp only [ASt.ev, tmPut, ↓reduceIte, reduceIte, Nat.reduceEqDiff, plain1, *]; rfl) | fail)) (by (first | (simp only [ASt.ev, tmPut, ↓reduceIte, reduceIte, Nat.reduceEqDiff, plain1, *]; rfl) | fail)) (by kernel_rfl)) ?_
      repeat (first | (refine OpsL.nil ?_; ((repeat (first | refine blockExit_eq ?_ | refine blockExit_ne (by decide) ?_ | refine blockExit_normal ?_ | refine blockExit_ret ?_ | refine blockExit_goto ?_)); first | (change Trip _ _ _ _ _) | dsimp only | skip)) | fail)
      refine Trip.iteB (b := true) (by (first | (simp only [ASt.ev, tmPut, ↓reduceIte, reduceIte, Nat.reduceEqDiff, decide_true, decide_false, not_true_eq_false, not_false_eq_true, Bool.not_true, Bool.not_false, *]; done) | fail)) (fun _ => ?_) (fun h => absurd h (by decide))
      repeat (first | (refine OpsL.p (by subst_vars; decide) (by (first | (exact aop_move (by (first | (simp only [ASt.ev, tmPut, ↓reduceIte, reduceIte, Nat.reduceEqDiff, plain1, *]; rfl) | fail))) | fail)) ?_) | (refine Trip.ops ?_) | fail)
      refine OpsL.new (by subst_vars; decide) aop_makeMap ?_
      repeat (first | (refine OpsL.p (by subst_vars; decide) (by (first | (exact aop_fieldAddr (by (first | (simp only [ASt.ev, tmPut, ↓reduceIte, reduceIte, Nat.reduceEqDiff, plain1, *]; rfl) | fail)) (by exact rfl)) | (exact aop_nilCheck (by (first | (simp only [ASt.ev, tmPut, ↓reduceIte, reduceIte, Nat.reduceEqDiff, plain1, *]; rfl) | fail))) | fail)) ?_) | fail)
      refine OpsL.storeAt (cs := [rv, .map none]) (cs' := [rv, .map (some nx)]) (e := 0) (q := some 61) 1 (by (first | (simp only [ASt.ev, tmPut, ↓reduceIte, reduceIte, Nat.reduceEqDiff, plain1, *]; rfl) | fail)) (by (first | (simp only [ASt.ev, tmPut, ↓reduceIte, reduceIte, Nat.reduceEqDiff, plain1, *]; done) | fail)) (by exact rfl) rfl rfl (by show Heap.put H nx _ b = _; rw [Heap.put_ne (by omega)]; exact h.obj) rfl (by show 1 < 2; decide) rfl ?_
      refine OpsL.nil ?_
      refine ⟨rfl, _, nx + 1, _, nx, rfl, Nat.le_succ _, fun id o ho => ?_, fun i hi hne => ?_, Heap.put_eq, ⟨h.links.1, .inr ⟨nx, [], 0, rfl, ?_⟩⟩, Nat.lt_succ_self _, by omega, fun t e => by have := (hrx _ _ e).1; omega, .inr (Nat.le_refl _), fun i hi a e => by have := hS _ (h.inv i hi a e).1; omega, by simp [tmPut, *], by simp [tmPut, *]⟩
      · by_cases hib : id = b
        · omega
        · replace ho : Heap.put (Heap.put H nx (.map [] [] 0)) b _ id = some o := ho
          rw [Heap.put_ne hib] at ho
          exact ok_new hok id o ho
      · show Heap.put (Heap.put H nx (.map [] [] 0)) b _ i = _
        rw [Heap.put_ne hne, Heap.put_ne (by omega)]
      · show Heap.put (Heap.put H nx (.map [] [] 0)) b _ nx = _
        rw [Heap.put_ne (by omega), Heap.put_eq]
        rfl
    · repeat (first | (refine OpsL.p (by subst_vars; decide) (by (first | (exact aop_move (by (first | (simp only [ASt.ev, tmPut, ↓reduceIte, reduceIte, Nat.reduceEqDiff, plain1, *]; rfl) | fail))) | (exact aop_fieldAddr (by (first | (simp only [ASt.ev, tmPut, ↓reduceIte, reduceIte, Nat.reduceEqDiff, plain1, *]; rfl) | fail)) (by exact rfl)) | (exact aop_load (by (first | (simp only [ASt.ev, tmPut, ↓reduceIte, reduceIte, Nat.reduceEqDiff, plain1, *]; rfl) | fail)) (by exact rfl) rfl (by assumption)) | (exact aop_nilCheck (by (first | (simp only [ASt.ev, tmPut, ↓reduceIte, reduceIte, Nat.reduceEqDiff, plain1, *]; rfl) | fail))) | fail)) ?_) | (refine Trip.seq ?_) | (refine Trip.ops ?_) | fail)
      refine OpsL.p (by subst_vars; decide) (aop_eqlM (r := false) (by (first | (simp only [ASt.ev, tmPut, ↓reduceIte, reduceIte, Nat.reduceEqDiff, plain1, *]; rfl) | fail)) (by (first | (simp only [ASt.ev, tmPut, ↓reduceIte, reduceIte, Nat.reduceEqDiff, plain1, *]; rfl) | fail)) (by kernel_rfl)) ?_
      repeat (first | (refine OpsL.nil ?_; ((repeat (first | refine blockExit_eq ?_ | refine blockExit_ne (by decide) ?_ | refine blockExit_normal ?_ | refine blockExit_ret ?_ | refine blockExit_goto ?_)); first | (change Trip _ _ _ _ _) | dsimp only | skip)) | fail)
      refine Trip.iteB (b := false) (by (first | (simp only [ASt.ev, tmPut, ↓reduceIte, reduceIte, Nat.reduceEqDiff, decide_true, decide_false, not_true_eq_false, not_false_eq_true, Bool.not_true, Bool.not_false, *]; done) | fail)) (fun h => absurd h (by decide)) (fun _ => ?_)
      refine Trip.skip ?_
      have hml := h.inl m rfl
      exact ⟨rfl, _, nx, H, m, rfl, Nat.le_refl _, hok, fun _ _ _ => rfl, h.obj, h.links, hS m hml.1, hml.2.1, hml.2.2, .inl hml.1, fun i hi a e he => (h.inv i hi a e).2.2.2 (by rw [he]), by simp [tmPut, *], by simp [tmPut, *]⟩
  · clear e0 e1
    rintro e s ⟨rfl, tm, nx1, H1, m, rfl, hn1, hok1, hf1, ho1, hl1, hm1, hmb, hmr, hmS, hmv, e0, e1⟩
    dsimp only
    have hrw1 : OwnOf encS 1 24 H1 rob rv vs := OwnRow.same h.rows fun b' t e => hf1 b' (hrx b' t e).1 (hrx b' t e).2
    have hrow1 : SufOf H1 ob v l l := hrow.same fun b' t e => hf1 b' (hob b' t e).1 (fun he => (hob b' t e).2 (by rw [he]; exact h.inb))
    have hat1 : PairsAt H1 v l := hrow1.at
    have c1 : cellAt H1 ⟨b, 0 + 0, none⟩ rv := cellAt_own (off := 0) ho1 (by show 0 < 2; decide)
    obtain ⟨ra, rc, hrv⟩ := (OwnOf.at encS_len hrw1).slice
    subst hrv
    rw [hvl] at c1
    repeat (first | (refine OpsL.p (by subst_vars; decide) (by (first | (exact aop_move (by (first | (simp only [ASt.ev, tmPut, ↓reduceIte, reduceIte, Nat.reduceEqDiff, plain1, *]; rfl) | fail))) | (exact aop_assign (by (first | (simp only [ASt.ev, tmPut, ↓reduceIte, reduceIte, Nat.reduceEqDiff, plain1, *]; rfl) | fail))) | (exact aop_len (by (first | (simp only [ASt.ev, tmPut, ↓reduceIte, reduceIte, Nat.reduceEqDiff, plain1, *]; rfl) | fail)) (by exact rfl)) | (exact aop_fieldAddr (by (first | (simp only [ASt.ev, tmPut, ↓reduceIte, reduceIte, Nat.reduceEqDiff, plain1, *]; rfl) | fail)) (by exact rfl)) | (exact aop_load (by (first | (simp only [ASt.ev, tmPut, ↓reduceIte, reduceIte, Nat.reduceEqDiff, plain1, *]; rfl) | fail)) (by exact rfl) rfl (by assumption)) | (exact aop_nilCheck (by (first | (simp only [ASt.ev, tmPut, ↓reduceIte, reduceIte, Nat.reduceEqDiff, plain1, *]; rfl) | fail))) | fail)) ?_) | (refine Trip.seq ?_) | (refine Trip.ops ?_) | (refine OpsL.nil ?_; ((repeat (first | refine blockExit_eq ?_ | refine blockExit_ne (by decide) ?_ | refine blockExit_normal ?_ | refine blockExit_ret ?_ | refine blockExit_goto ?_)); first | (change Trip _ _ _ _ _) | dsimp only | skip)) | fail)
    -- the row laid behind the others
    refine Trip.mono (Q := fun e st => e = .normal ∧ ∃ (tm' : Nat → Value) (nx4 : Nat) (H4 : Heap) (rob4 : Option (Nat × Nat)) (rv4 : Value) (cv : SV), st = ⟨tm', n, H4, nx4⟩ ∧ nx1 ≤ nx4 ∧ (∀ id o, H4 id = some o → id < nx4) ∧ (∀ i, i < nx1 → i ≠ b → (∀ t, rob ≠ some (i, t)) → H4 i = H1 i) ∧ H4 b = some (.cells [rv4, .map (some m)] 0 none false (some 61)) ∧ OwnOf encS 1 24 H4 rob4 rv4 (vs ++ [cv]) ∧ PairsAt H4 (.slice cv.1 cv.2.1 cv.2.2) l ∧ (∀ a, cv.1 = some a → nx1 ≤ a.block ∧ a.block < nx4 ∧ ∀ t, rob4 ≠ some (a.block, t)) ∧ (∀ b' t, rob4 = some (b', t) → b' < nx4 ∧ (nx1 ≤ b' ∨ ∃ t', rob = some (b', t'))) ∧ tm' 0 = tabV b ∧ tm' 1 = v ∧ tm' 5 = .int .i64 R.length) ?_ ?_
    · refine OpsR.drawn [4, 6, 7, 8, 11] (K := fun _ _ => True) mixedP (by kernel_rfl) (by kernel_rfl) [0, 1, 2, 3, 5, 4, 6, 7, 8, 9, 10, 11] (by kernel_rfl) trivial ?_
      generalize hops : (#[_, _, _, _, _, _, _, _, _, _, _, _] : Array Oper) = ops
      have cont : ∀ (tm : Nat → Value) (nx3 : Nat) (H3 : Heap) (cv : SV) (nb : Nat), Ext nx1 H1 nx3 H3 → (∀ id o, H3 id = some o → id < nx3) → PairsAt H3 (.slice cv.1 cv.2.1 cv.2.2) l → (∀ a, cv.1 = some a → nx1 ≤ a.block ∧ a.block < nx3) → H3 nb = some (.cells [.slice cv.1 cv.2.1 cv.2.2] 1 none false (some 24)) →
          tm 25 = .slice ra R.length rc → tm 28 = .slice (some ⟨nb, 0, none⟩) 1 1 → tm 21 = tabV b → tm 0 = tabV b → tm 1 = v → tm 5 = .int .i64 R.length →
          OpsR Try.prog W0 ops [4, 6, 7, 8, 11] (fun _ _ => True) 4 [8, 9, 10, 11] ⟨tm, n, H3, nx3⟩ (fun st => AExit.normal = .normal ∧ ∃ (tm' : Nat → Value) (nx4 : Nat) (H4 : Heap) (rob4 : Option (Nat × Nat)) (rv4 : Value) (cv : SV), st = ⟨tm', n, H4, nx4⟩ ∧ nx1 ≤ nx4 ∧ (∀ id o, H4 id = some o → id < nx4) ∧ (∀ i, i < nx1 → i ≠ b → (∀ t, rob ≠ some (i, t)) → H4 i = H1 i) ∧ H4 b = some (.cells [rv4, .map (some m)] 0 none false (some 61)) ∧ OwnOf encS 1 24 H4 rob4 rv4 (vs ++ [cv]) ∧ PairsAt H4 (.slice cv.1 cv.2.1 cv.2.2) l ∧ (∀ a, cv.1 = some a → nx1 ≤ a.block ∧ a.block < nx4 ∧ ∀ t, rob4 ≠ some (a.block, t)) ∧ (∀ b' t, rob4 = some (b', t) → b' < nx4 ∧ (nx1 ≤ b' ∨ ∃ t', rob = some (b', t'))) ∧ tm' 0 = tabV b ∧ tm' 1 = v ∧ tm' 5 = .int .i64 R.length) := by
        subst hops
        intro tm nx3 H3 cv nb hx3 hok3 hcv hca hnb e25 e28 e21 e0 e1 e5
        have hrw3 := hrw1.ext hx3 (fun b' t e => by have := (hrx b' t e).1; omega)
        rw [hvl] at hrw3
        have hone : RowsAt encS 1 H3 (.slice (some ⟨nb, 0, none⟩) 1 1) [cv] := by
          refine .inr ⟨⟨nb, 0, none⟩, 1, rfl, fun j hj => ?_⟩
          have : j = 0 := by simpa using hj
          subst this
          have := cellAt_own (off := 0) hnb (by show 0 < 1; decide)
          exact this
        refine OpsR.act (by kernel_rfl) (ActStep.ofL rfl rfl ?_)
        refine OpsL.appendO (bytes := 24) (z := [.slice none 0 0]) encS_len encS_one (by omega) (by subst_vars; decide) hrw3 hone (by (first | (simp only [ASt.ev, tmPut, ↓reduceIte, reduceIte, Nat.reduceEqDiff, plain1, *]; done) | fail)) (by (first | (simp only [ASt.ev, tmPut, ↓reduceIte, reduceIte, Nat.reduceEqDiff, plain1, *]; done) | fail)) (fun b' t e => by have := (hrx b' t e).1; have := hx3.1; omega) (by exact rfl) (by exact rfl) (by exact rfl) (by exact rfl) (by exact rfl) rfl (by simp; omega) (by omega) ?_
        intro v4 nx4 H4 rob4 hA
        obtain ⟨a4, c4, hv4⟩ := (OwnOf.at encS_len hA.own).slice
        have hAo := hA.own
        rw [hv4] at hAo
        have hsame : ∀ i, i < nx1 → (∀ t, rob ≠ some (i, t)) → H4 i = H1 i := fun i hi hne => by rw [hA.same i (by have := hx3.1; omega) (fun b' t e he => hne t (by rw [he]; exact e)), hx3.2 i hi]
        have hbr : ∀ t, rob ≠ some (b, t) := fun t e => (hrx b t e).2 rfl
        have hb4 : H4 b = some (.cells [.slice ra vs.length rc, .map (some m)] 0 none false (some 61)) := (hsame b (by omega) hbr).trans ho1
        have hok4 := hA.ok (fun b' t e => by have := (hrx b' t e).1; have := hx3.1; omega) hok3
        have hblk : ∀ b' t, rob4 = some (b', t) → b' < nx4 ∧ b' ≠ b ∧ (b' = nx3 ∨ ∃ t', rob = some (b', t')) := fun b' t e => by
          obtain ⟨i1, i2⟩ := hA.blk b' t e
          refine ⟨i1, ?_, i2⟩
          rcases i2 with rfl | ⟨t', h'⟩
          · have := hx3.1; omega
          · exact (hrx b' t' h').2
        refine OpsL.nil ⟨trivial, ?_⟩
        rw [hv4]
        refine OpsR.one rfl rfl rfl (by kernel_rfl) ?_
        repeat (first | (refine OpsL.p (by subst_vars; decide) (by (first | (exact aop_nilCheck (by (first | (simp only [ASt.ev, tmPut, ↓reduceIte, reduceIte, Nat.reduceEqDiff, plain1, *]; rfl) | fail))) | fail)) ?_) | (refine OpsL.nil ?_; ((repeat (first | refine blockExit_eq ?_ | refine blockExit_ne (by decide) ?_ | refine blockExit_normal ?_ | refine blockExit_ret ?_ | refine blockExit_goto ?_)); first | (change Trip _ _ _ _ _) | dsimp only | skip)) | fail)
        refine OpsR.one rfl rfl rfl (by kernel_rfl) ?_
        repeat (first | (refine OpsL.p (by subst_vars; decide) (by (first | (exact aop_fieldAddr (by (first | (simp only [ASt.ev, tmPut, ↓reduceIte, reduceIte, Nat.reduceEqDiff, plain1, *]; rfl) | fail)) (by exact rfl)) | fail)) ?_) | (refine OpsL.nil ?_; ((repeat (first | refine blockExit_eq ?_ | refine blockExit_ne (by decide) ?_ | refine blockExit_normal ?_ | refine blockExit_ret ?_ | refine blockExit_goto ?_)); first | (change Trip _ _ _ _ _) | dsimp only | skip)) | fail)
        refine OpsR.act (by kernel_rfl) (ActStep.ofL rfl rfl ?_)
        refine OpsL.storeAt (cs := [.slice ra vs.length rc, .map (some m)]) (cs' := [.slice a4 (vs ++ [cv]).length c4, .map (some m)]) (e := 0) (q := some 61) 0 (by (first | (simp only [ASt.ev, tmPut, ↓reduceIte, reduceIte, Nat.reduceEqDiff, plain1, *]; rfl) | fail)) (by (first | (simp only [ASt.ev, tmPut, ↓reduceIte, reduceIte, Nat.reduceEqDiff, plain1, *]; done) | fail)) (by exact rfl) rfl rfl (by exact hb4) rfl (by show 0 < 2; decide) rfl ?_
        refine OpsL.nil ⟨trivial, ?_⟩
        refine OpsR.nil ?_
        refine ⟨rfl, _, nx4, _, rob4, .slice a4 (vs ++ [cv]).length c4, cv, rfl, by have := hx3.1; have := hA.le; omega, fun id o ho => ?_, fun i hi hne hr => ?_, Heap.put_eq, OwnRow.put_ne hAo (fun b' t e => (hblk b' t e).2.1), hcv.same fun a n c e => ?_, fun a e => ?_, fun b' t e => ?_, by simp [tmPut, *], by simp [tmPut, *], by simp [tmPut, *]⟩
        · by_cases hib : id = b
          · have := hx3.1; have := hA.le; omega
          · replace ho : Heap.put H4 b _ id = some o := ho
            rw [Heap.put_ne hib] at ho
            exact hok4 id o ho
        · show Heap.put H4 b _ i = _
          rw [Heap.put_ne hne, hsame i hi hr]
        · have := hca a (Value.slice.inj e).1
          show Heap.put H4 b _ a.block = _
          rw [Heap.put_ne (by omega), hA.same a.block this.2 (fun b' t e' => by have := (hrx b' t e').1; omega)]
        · have := hca a e
          refine ⟨this.1, by have := hA.le; omega, fun t e' => ?_⟩
          obtain ⟨_, _, i3⟩ := hblk _ _ e'
          rcases i3 with i3 | ⟨t', i3⟩
          · omega
          · have := (hrx _ _ i3).1; omega
        · obtain ⟨i1, _, i3⟩ := hblk b' t e
          refine ⟨i1, ?_⟩
          rcases i3 with i3 | i3
          · left; have := hx3.1; omega
          · exact .inr i3
      have hl100 : l.length ≤ 100000 := by omega
      subst hops
      refine OpsR.one rfl rfl rfl (by kernel_rfl) ?_
      repeat (first | (refine OpsL.p (by subst_vars; decide) (by (first | (exact aop_move (by (first | (simp only [ASt.ev, tmPut, ↓reduceIte, reduceIte, Nat.reduceEqDiff, plain1, *]; rfl) | fail))) | fail)) ?_) | (refine OpsL.nil ?_; ((repeat (first | refine blockExit_eq ?_ | refine blockExit_ne (by decide) ?_ | refine blockExit_normal ?_ | refine blockExit_ret ?_ | refine blockExit_goto ?_)); first | (change Trip _ _ _ _ _) | dsimp only | skip)) | fail)
      refine OpsR.one rfl rfl rfl (by kernel_rfl) ?_
      repeat (first | (refine OpsL.p (by subst_vars; decide) (by (first | (exact aop_move (by (first | (simp only [ASt.ev, tmPut, ↓reduceIte, reduceIte, Nat.reduceEqDiff, plain1, *]; rfl) | fail))) | fail)) ?_) | (refine OpsL.nil ?_; ((repeat (first | refine blockExit_eq ?_ | refine blockExit_ne (by decide) ?_ | refine blockExit_normal ?_ | refine blockExit_ret ?_ | refine blockExit_goto ?_)); first | (change Trip _ _ _ _ _) | dsimp only | skip)) | fail)
      refine OpsR.one rfl rfl rfl (by kernel_rfl) ?_
      repeat (first | (refine OpsL.p (by subst_vars; decide) (by (first | (exact aop_nilCheck (by (first | (simp only [ASt.ev, tmPut, ↓reduceIte, reduceIte, Nat.reduceEqDiff, plain1, *]; rfl) | fail))) | fail)) ?_) | (refine OpsL.nil ?_; ((repeat (first | refine blockExit_eq ?_ | refine blockExit_ne (by decide) ?_ | refine blockExit_normal ?_ | refine blockExit_ret ?_ | refine blockExit_goto ?_)); first | (change Trip _ _ _ _ _) | dsimp only | skip)) | fail)
      refine OpsR.one rfl rfl rfl (by kernel_rfl) ?_
      repeat (first | (refine OpsL.p (by subst_vars; decide) (by (first | (exact aop_fieldAddr (by (first | (simp only [ASt.ev, tmPut, ↓reduceIte, reduceIte, Nat.reduceEqDiff, plain1, *]; rfl) | fail)) (by exact rfl)) | fail)) ?_) | (refine OpsL.nil ?_; ((repeat (first | refine blockExit_eq ?_ | refine blockExit_ne (by decide) ?_ | refine blockExit_normal ?_ | refine blockExit_ret ?_ | refine blockExit_goto ?_)); first | (change Trip _ _ _ _ _) | dsimp only | skip)) | fail)
      refine OpsR.one rfl rfl rfl (by kernel_rfl) ?_
      repeat (first | (refine OpsL.p (by subst_vars; decide) (by (first | (exact aop_move (by (first | (simp only [ASt.ev, tmPut, ↓reduceIte, reduceIte, Nat.reduceEqDiff, plain1, *]; rfl) | fail))) | fail)) ?_) | (refine OpsL.nil ?_; ((repeat (first | refine blockExit_eq ?_ | refine blockExit_ne (by decide) ?_ | refine blockExit_normal ?_ | refine blockExit_ret ?_ | refine blockExit_goto ?_)); first | (change Trip _ _ _ _ _) | dsimp only | skip)) | fail)
      refine OpsR.act2 (by kernel_rfl) (ActStep.ofL rfl rfl ?_) (ActStep.ofL rfl rfl ?_)
      · refine OpsL.p (by subst_vars; decide) (aop_load (by (first | (simp only [ASt.ev, tmPut, ↓reduceIte, reduceIte, Nat.reduceEqDiff, plain1, *]; rfl) | fail)) (by exact rfl) rfl c1) ?_
        refine OpsL.nil ⟨trivial, ?_⟩
        refine OpsR.act (by kernel_rfl) (ActStep.ofL rfl rfl ?_)
        refine OpsL.call1 (by subst_vars; decide) (by (first | (simp only [ASt.ev, tmPut, ↓reduceIte, reduceIte, Nat.reduceEqDiff, plain1, *]; done) | fail)) entersClone (cloneC W0 hat1 hl100).ok ?_
        rintro v2 nx2 H2 ⟨⟨hx2, hp2, hb2⟩, hok2⟩
        obtain ⟨ca, cc, rfl⟩ := hp2.slice
        refine OpsL.nil ⟨trivial, ?_⟩
        refine OpsR.act (by kernel_rfl) (ActStep.ofL rfl rfl ?_)
        refine OpsL.new (by subst_vars; decide) (aop_buildSlice (l := [(0, .slice ca l.length cc)]) (r := (.slice (some ⟨nx2, 0, none⟩) 1 1, .new (.cells [.slice ca l.length cc] 1 none false (some 24)))) (by simp only [evParts, ASt.ev, tmPut, ↓reduceIte, reduceIte, Option.some.injEq, Nat.reduceEqDiff, *]) (by kernel_rfl)) ?_
        refine OpsL.nil ⟨trivial, ?_⟩
        exact cont _ (nx2 + 1) _ (ca, l.length, cc) nx2 (hx2.trans Ext.newPut) (ok_new hok2) (hp2.ext Ext.newPut hok2) (fun a e => by have e' : ca = some a := e; have := hb2 a l.length cc (by rw [e']); omega) Heap.put_eq (by simp [tmPut, *]) (by simp [tmPut, *]) (by simp [tmPut, *]) (by simp [tmPut, *]) (by simp [tmPut, *]) (by simp [tmPut, *])
      · refine OpsL.call1 (by subst_vars; decide) (by (first | (simp only [ASt.ev, tmPut, ↓reduceIte, reduceIte, Nat.reduceEqDiff, plain1, *]; done) | fail)) entersClone (cloneC W0 hat1 hl100).ok ?_
        rintro v2 nx2 H2 ⟨⟨hx2, hp2, hb2⟩, hok2⟩
        obtain ⟨ca, cc, rfl⟩ := hp2.slice
        have hbH2 : H2 b = H1 b := hx2.2 b (by omega)
        have c2 : cellAt H2 ⟨b, 0 + 0, none⟩ (.slice ra R.length rc) := by rw [← hvl]; exact cellAt_own (off := 0) (hbH2.trans ho1) (by show 0 < 2; decide)
        refine OpsL.nil ⟨trivial, ?_⟩
        refine OpsR.act2 (by kernel_rfl) (ActStep.ofL rfl rfl ?_) (ActStep.ofL rfl rfl ?_)
        · refine OpsL.p (by subst_vars; decide) (aop_load (by (first | (simp only [ASt.ev, tmPut, ↓reduceIte, reduceIte, Nat.reduceEqDiff, plain1, *]; rfl) | fail)) (by exact rfl) rfl c2) ?_
          refine OpsL.nil ⟨trivial, ?_⟩
          refine OpsR.act (by kernel_rfl) (ActStep.ofL rfl rfl ?_)
          refine OpsL.new (by subst_vars; decide) (aop_buildSlice (l := [(0, .slice ca l.length cc)]) (r := (.slice (some ⟨nx2, 0, none⟩) 1 1, .new (.cells [.slice ca l.length cc] 1 none false (some 24)))) (by simp only [evParts, ASt.ev, tmPut, ↓reduceIte, reduceIte, Option.some.injEq, Nat.reduceEqDiff, *]) (by kernel_rfl)) ?_
          refine OpsL.nil ⟨trivial, ?_⟩
          exact cont _ (nx2 + 1) _ (ca, l.length, cc) nx2 (hx2.trans Ext.newPut) (ok_new hok2) (hp2.ext Ext.newPut hok2) (fun a e => by have e' : ca = some a := e; have := hb2 a l.length cc (by rw [e']); omega) Heap.put_eq (by simp [tmPut, *]) (by simp [tmPut, *]) (by simp [tmPut, *]) (by simp [tmPut, *]) (by simp [tmPut, *]) (by simp [tmPut, *])
        · refine OpsL.new (by subst_vars; decide) (aop_buildSlice (l := [(0, .slice ca l.length cc)]) (r := (.slice (some ⟨nx2, 0, none⟩) 1 1, .new (.cells [.slice ca l.length cc] 1 none false (some 24)))) (by simp only [evParts, ASt.ev, tmPut, ↓reduceIte, reduceIte, Option.some.injEq, Nat.reduceEqDiff, *]) (by kernel_rfl)) ?_
          have c3 : cellAt (H2.put nx2 (.cells [.slice ca l.length cc] 1 none false (some 24))) ⟨b, 0 + 0, none⟩ (.slice ra R.length rc) := by
            unfold cellAt
            rw [getc_put (by show b ≠ nx2; have := hx2.1; omega)]
            exact c2
          refine OpsL.nil ⟨trivial, ?_⟩
          refine OpsR.act (by kernel_rfl) (ActStep.ofL rfl rfl ?_)
          refine OpsL.p (by subst_vars; decide) (aop_load (by (first | (simp only [ASt.ev, tmPut, ↓reduceIte, reduceIte, Nat.reduceEqDiff, plain1, *]; rfl) | fail)) (by exact rfl) rfl c3) ?_
          refine OpsL.nil ⟨trivial, ?_⟩
          exact cont _ (nx2 + 1) _ (ca, l.length, cc) nx2 (hx2.trans Ext.newPut) (ok_new hok2) (hp2.ext Ext.newPut hok2) (fun a e => by have e' : ca = some a := e; have := hb2 a l.length cc (by rw [e']); omega) Heap.put_eq (by simp [tmPut, *]) (by simp [tmPut, *]) (by simp [tmPut, *]) (by simp [tmPut, *]) (by simp [tmPut, *]) (by simp [tmPut, *])
    · clear e0 e1
      rintro e st ⟨rfl, tm, nx4, H4, rob4, rv4, cv, rfl, hn4, hok4, hf4, ho4, hrw4, hcv, hca, hr4, e0, e1, e5⟩
      ((repeat (first | refine blockExit_eq ?_ | refine blockExit_ne (by decide) ?_ | refine blockExit_normal ?_ | refine blockExit_ret ?_ | refine blockExit_goto ?_)); first | (change Trip _ _ _ _ _) | dsimp only | skip)
      have hl4 : LinksAt H4 (.map (some m)) M := hl1.same fun m' e => by cases e; exact hf4 m hm1 hmb hmr
      have hobx : ∀ b' t, ob = some (b', t) → b' ≠ b ∧ b' ≠ m ∧ b' < nx1 ∧ (∀ t, rob ≠ some (b', t)) := fun b' t e => by
        obtain ⟨i1, i2⟩ := hob b' t e
        refine ⟨fun he => i2 (by rw [he]; exact h.inb), fun he => ?_, by omega, fun t' e' => i2 (h.inr b' t' e').1⟩
        rcases hmS with hh | hh
        · exact i2 (by rw [he]; exact hh)
        · omega
      have hrow4 : SufOf H4 ob v l l := hrow1.same fun b' t e => by
        obtain ⟨i1, i2, i3, i4⟩ := hobx b' t e
        exact hf4 b' i3 i1 i4
      repeat (first | (refine OpsL.p (by subst_vars; decide) (by (first | (exact aop_assign (by (first | (simp only [ASt.ev, tmPut, ↓reduceIte, reduceIte, Nat.reduceEqDiff, plain1, *]; rfl) | fail))) | fail)) ?_) | (refine Trip.seq ?_) | (refine Trip.ops ?_) | (refine Trip.block ?_) | (refine OpsL.nil ?_; ((repeat (first | refine blockExit_eq ?_ | refine blockExit_ne (by decide) ?_ | refine blockExit_normal ?_ | refine blockExit_ret ?_ | refine blockExit_goto ?_)); first | (change Trip _ _ _ _ _) | dsimp only | skip)) | fail)
      refine Trip.inv (fun (d : List (Int × Int)) st => ∃ (tm : Nat → Value) (nx' : Nat) (H' : Heap) (v : Value) (a : Int) (pre : List (Int × Int)) (M2 : Links), st = ⟨tm, n, H', nx'⟩ ∧ nx4 ≤ nx' ∧ (∀ id o, H' id = some o → id < nx') ∧ (∀ i, i < nx4 → i ≠ m → H' i = H4 i) ∧ SufOf H' ob v l d ∧ Reach M2 a pre ∧ pre ++ d = l ∧ LinksAt H' (.map (some m)) M2 ∧ Trie M2 R ∧ M2.length + d.length ≤ M.length + l.length ∧ tm 0 = tabV b ∧ tm 1 = v ∧ tm 5 = .int .i64 R.length ∧ tm 6 = .int .i64 a) (fun d => d.length) l ?_ ?_
      · exact ⟨_, _, _, _, 0, [], M, rfl, Nat.le_refl _, hok4, fun _ _ _ => rfl, hrow4, .zero, rfl, hl4, h.trie, Nat.le_refl _, by simp [tmPut, *], by simp [tmPut, *], by simp [tmPut, *], by simp [tmPut, *]⟩
      · clear e0 e1 e5 hrow4
        rintro d st ⟨tm, nx', H', v', a, pre, M2, rfl, hn', hok', hf', hs, hr, hpre, hlk, htr, hsz, e0, e1, e5, e6⟩
        obtain ⟨va, rfl⟩ := hs.slice
        have hoH : H' b = some (.cells [rv4, .map (some m)] 0 none false (some 61)) := (hf' b (by omega) (Ne.symm hmb)).trans ho4
        have hvb : ∀ p, va = some p → p.block ≠ m ∧ p.block < nx' := fun p hp => by
          subst hp
          obtain ⟨t, ht⟩ := SufOf.blk (H := H') (ob := ob) (l := l) (d := d) hs
          obtain ⟨i1, i2, i3, i4⟩ := hobx _ _ ht
          exact ⟨i2, by omega⟩
        by_cases h7 : 7 ≤ d.length
        · repeat (first | (refine OpsL.p (by subst_vars; decide) (by (first | (exact aop_move (by (first | (simp only [ASt.ev, tmPut, ↓reduceIte, reduceIte, Nat.reduceEqDiff, plain1, *]; rfl) | fail))) | (exact aop_len (by (first | (simp only [ASt.ev, tmPut, ↓reduceIte, reduceIte, Nat.reduceEqDiff, plain1, *]; rfl) | fail)) (by exact rfl)) | fail)) ?_) | (refine Trip.seq ?_) | (refine Trip.ops ?_) | fail)
          refine OpsL.p (by subst_vars; decide) (aop_geqT (by (first | (simp only [ASt.ev, tmPut, ↓reduceIte, reduceIte, Nat.reduceEqDiff, plain1, *]; rfl) | fail)) (by (first | (simp only [ASt.ev, tmPut, ↓reduceIte, reduceIte, Nat.reduceEqDiff, plain1, *]; rfl) | fail)) (by omega)) ?_
          repeat (first | (refine OpsL.nil ?_; ((repeat (first | refine blockExit_eq ?_ | refine blockExit_ne (by decide) ?_ | refine blockExit_normal ?_ | refine blockExit_ret ?_ | refine blockExit_goto ?_)); first | (change Trip _ _ _ _ _) | dsimp only | skip)) | fail)
          refine Trip.iteB (b := true) (by (first | (simp only [ASt.ev, tmPut, ↓reduceIte, reduceIte, Nat.reduceEqDiff, decide_true, decide_false, not_true_eq_false, not_false_eq_true, Bool.not_true, Bool.not_false, *]; done) | fail)) (fun _ => ?_) (fun h => absurd h (by decide))
          repeat (first | (refine Trip.block ?_) | (refine Trip.skip ?_; ((repeat (first | refine blockExit_eq ?_ | refine blockExit_ne (by decide) ?_ | refine blockExit_normal ?_ | refine blockExit_ret ?_ | refine blockExit_goto ?_)); first | (change Trip _ _ _ _ _) | dsimp only | skip)) | fail)
          obtain ⟨w1, hw1, ht1⟩ := hs.take (m := 7) (by omega) h7
          obtain ⟨w2, hw2, ht2⟩ := hs.drop (m := 7) (by omega) h7
          have hlen7 : (d.take 7).length = 7 := by rw [List.length_take]; omega
          refine Trip.mono (Q := fun e st => e = .normal ∧ ∃ (tm' : Nat → Value) (nx3 : Nat) (H3 : Heap) (x : Int) (M3 : Links), st = ⟨tm', n, H3, nx3⟩ ∧ nx' ≤ nx3 ∧ (∀ id o, H3 id = some o → id < nx3) ∧ (∀ i, i < nx' → i ≠ m → H3 i = H' i) ∧ LinksAt H3 (.map (some m)) M3 ∧ ((look M2 (linkF a (d.take 7)) = some x ∧ M3 = M2) ∨ (look M2 (linkF a (d.take 7)) = none ∧ x = (M2.length : Int) + 1 ∧ M3 = M2 ++ [(linkF a (d.take 7), (M2.length : Int) + 1)])) ∧ tm' 0 = tabV b ∧ tm' 1 = w2 ∧ tm' 5 = .int .i64 R.length ∧ tm' 6 = .int .i64 x) ?_ ?_
          · obtain ⟨x, M3, H3, hf3, hl3, hor, hok3, hlead⟩ := leadD W0 (a := a) hok' hoH (Ne.symm hmb) (by omega) hlk ht1 hlen7 (by omega)
            refine OpsK.drawn (K := fun _ H2 => ∀ p, va = some p → H2 p.block = H' p.block) mixedP (by kernel_rfl) (by kernel_rfl) (fun _ _ => rfl) ?_
            refine OpsK.one rfl (by kernel_rfl) ?_
            repeat (first | (refine OpsL.p (by subst_vars; decide) (by (first | (exact aop_move (by (first | (simp only [ASt.ev, tmPut, ↓reduceIte, reduceIte, Nat.reduceEqDiff, plain1, *]; rfl) | fail))) | fail)) ?_) | (refine OpsL.nil ?_; ((repeat (first | refine blockExit_eq ?_ | refine blockExit_ne (by decide) ?_ | refine blockExit_normal ?_ | refine blockExit_ret ?_ | refine blockExit_goto ?_)); first | (change Trip _ _ _ _ _) | dsimp only | skip)) | fail)
            refine OpsK.one rfl (by kernel_rfl) ?_
            repeat (first | (refine OpsL.p (by subst_vars; decide) (by (first | (exact aop_move (by (first | (simp only [ASt.ev, tmPut, ↓reduceIte, reduceIte, Nat.reduceEqDiff, plain1, *]; rfl) | fail))) | fail)) ?_) | (refine OpsL.nil ?_; ((repeat (first | refine blockExit_eq ?_ | refine blockExit_ne (by decide) ?_ | refine blockExit_normal ?_ | refine blockExit_ret ?_ | refine blockExit_goto ?_)); first | (change Trip _ _ _ _ _) | dsimp only | skip)) | fail)
            refine OpsK.one rfl (by kernel_rfl) ?_
            repeat (first | (refine OpsL.p (by subst_vars; decide) (by (first | (exact aop_move (by (first | (simp only [ASt.ev, tmPut, ↓reduceIte, reduceIte, Nat.reduceEqDiff, plain1, *]; rfl) | fail))) | fail)) ?_) | (refine OpsL.nil ?_; ((repeat (first | refine blockExit_eq ?_ | refine blockExit_ne (by decide) ?_ | refine blockExit_normal ?_ | refine blockExit_ret ?_ | refine blockExit_goto ?_)); first | (change Trip _ _ _ _ _) | dsimp only | skip)) | fail)
            refine OpsK.one rfl (by kernel_rfl) ?_
            refine OpsL.p (by subst_vars; decide) (aop_slice (r := w1) (a := none) (b := some (.int .i64 7)) (c := none) (by (first | (simp only [ASt.ev, tmPut, ↓reduceIte, reduceIte, Nat.reduceEqDiff, plain1, *]; done) | fail)) rfl (by simp only [evOpt, ASt.ev, Option.map_some]; rfl) rfl hw1) ?_
            repeat (first | (refine OpsL.nil ?_; ((repeat (first | refine blockExit_eq ?_ | refine blockExit_ne (by decide) ?_ | refine blockExit_normal ?_ | refine blockExit_ret ?_ | refine blockExit_goto ?_)); first | (change Trip _ _ _ _ _) | dsimp only | skip)) | fail)
            refine OpsK.call3 (by subst_vars; decide) (by exact rfl) (by (first | (simp only [ASt.ev, tmPut, ↓reduceIte, reduceIte, Nat.reduceEqDiff, plain1, *]; done) | fail)) (by (first | (simp only [ASt.ev, tmPut, ↓reduceIte, reduceIte, Nat.reduceEqDiff, plain1, *]; done) | fail)) (by (first | (simp only [ASt.ev, tmPut, ↓reduceIte, reduceIte, Nat.reduceEqDiff, plain1, *]; done) | fail)) entersLead hlead (fun p hp => hf3 _ (hvb p hp).2 (hvb p hp).1) ?_
            refine OpsK.one rfl (by kernel_rfl) ?_
            repeat (first | (refine OpsL.p (by subst_vars; decide) (by (first | (exact aop_move (by (first | (simp only [ASt.ev, tmPut, ↓reduceIte, reduceIte, Nat.reduceEqDiff, plain1, *]; rfl) | fail))) | fail)) ?_) | (refine OpsL.nil ?_; ((repeat (first | refine blockExit_eq ?_ | refine blockExit_ne (by decide) ?_ | refine blockExit_normal ?_ | refine blockExit_ret ?_ | refine blockExit_goto ?_)); first | (change Trip _ _ _ _ _) | dsimp only | skip)) | fail)
            refine OpsK.sp (v := w2) (by subst_vars; decide) rfl (fun H2 nx2 hK => aop_slice (r := w2) (a := some (.int .i64 7)) (b := none) (c := none) (by (first | (simp only [ASt.ev, tmPut, ↓reduceIte, reduceIte, Nat.reduceEqDiff, plain1, *]; rfl) | fail)) (by simp only [evOpt, ASt.ev, Option.map_some]; rfl) rfl rfl (by rw [aSlice_blk hK]; exact hw2)) ?_
            refine OpsK.one rfl (by kernel_rfl) ?_
            repeat (first | (refine OpsL.p (by subst_vars; decide) (by (first | (exact aop_assign (by (first | (simp only [ASt.ev, tmPut, ↓reduceIte, reduceIte, Nat.reduceEqDiff, plain1, *]; rfl) | fail))) | fail)) ?_) | (refine OpsL.nil ?_; ((repeat (first | refine blockExit_eq ?_ | refine blockExit_ne (by decide) ?_ | refine blockExit_normal ?_ | refine blockExit_ret ?_ | refine blockExit_goto ?_)); first | (change Trip _ _ _ _ _) | dsimp only | skip)) | fail)
            refine OpsK.one rfl (by kernel_rfl) ?_
            repeat (first | (refine OpsL.p (by subst_vars; decide) (by (first | (exact aop_assign (by (first | (simp only [ASt.ev, tmPut, ↓reduceIte, reduceIte, Nat.reduceEqDiff, plain1, *]; rfl) | fail))) | fail)) ?_) | (refine OpsL.nil ?_; ((repeat (first | refine blockExit_eq ?_ | refine blockExit_ne (by decide) ?_ | refine blockExit_normal ?_ | refine blockExit_ret ?_ | refine blockExit_goto ?_)); first | (change Trip _ _ _ _ _) | dsimp only | skip)) | fail)
            refine OpsK.nil ?_
            exact ⟨rfl, _, nx' + 3, H3, x, M3, rfl, by omega, hok3, hf3, hl3, hor, by simp [tmPut, *], by simp [tmPut, *], by simp [tmPut, *], by simp [tmPut, *]⟩
          · clear e0 e1 e5 e6
            rintro e st ⟨rfl, tm', nx3, H3, x, M3, rfl, hn3, hok3, hf3, hl3, hor, e0, e1, e5, e6⟩
            ((repeat (first | refine blockExit_eq ?_ | refine blockExit_ne (by decide) ?_ | refine blockExit_normal ?_ | refine blockExit_ret ?_ | refine blockExit_goto ?_)); first | (change Trip _ _ _ _ _) | dsimp only | skip)
            have ht3 : SufOf H3 ob w2 l (d.drop 7) := ht2.same fun b' t e => by
              obtain ⟨i1, i2, i3, i4⟩ := hobx b' t e
              exact hf3 b' (by omega) i2
            obtain ⟨k1, k2, k3⟩ : Reach M3 x (pre ++ d.take 7) ∧ Trie M3 R ∧ M3.length ≤ M2.length + 1 := by
              rcases hor with ⟨h1, rfl⟩ | ⟨h1, rfl, rfl⟩
              · exact ⟨.step hr hlen7 h1, htr, by omega⟩
              · obtain ⟨q1, q2⟩ := htr.lead hr hlen7 h1
                exact ⟨q2, q1, by rw [List.length_append, List.length_singleton]; omega⟩
            repeat fail
            exact ⟨d.drop 7, ⟨_, nx3, H3, w2, x, pre ++ d.take 7, M3, rfl, by omega, hok3, fun i hi hne => by rw [hf3 i (by omega) hne, hf' i hi hne], ht3, k1, by rw [List.append_assoc, List.take_append_drop, hpre], hl3, k2, by rw [List.length_drop]; omega, by simp [tmPut, *], by simp [tmPut, *], by simp [tmPut, *], by simp [tmPut, *]⟩, by rw [List.length_drop]; omega⟩
        · have hd7 : d.length < 7 := by omega
          repeat (first | (refine OpsL.p (by subst_vars; decide) (by (first | (exact aop_move (by (first | (simp only [ASt.ev, tmPut, ↓reduceIte, reduceIte, Nat.reduceEqDiff, plain1, *]; rfl) | fail))) | (exact aop_len (by (first | (simp only [ASt.ev, tmPut, ↓reduceIte, reduceIte, Nat.reduceEqDiff, plain1, *]; rfl) | fail)) (by exact rfl)) | fail)) ?_) | (refine Trip.seq ?_) | (refine Trip.ops ?_) | fail)
          refine OpsL.p (by subst_vars; decide) (aop_geqF (by (first | (simp only [ASt.ev, tmPut, ↓reduceIte, reduceIte, Nat.reduceEqDiff, plain1, *]; rfl) | fail)) (by (first | (simp only [ASt.ev, tmPut, ↓reduceIte, reduceIte, Nat.reduceEqDiff, plain1, *]; rfl) | fail)) (by omega)) ?_
          repeat (first | (refine OpsL.nil ?_; ((repeat (first | refine blockExit_eq ?_ | refine blockExit_ne (by decide) ?_ | refine blockExit_normal ?_ | refine blockExit_ret ?_ | refine blockExit_goto ?_)); first | (change Trip _ _ _ _ _) | dsimp only | skip)) | fail)
          refine Trip.iteB (b := false) (by (first | (simp only [ASt.ev, tmPut, ↓reduceIte, reduceIte, Nat.reduceEqDiff, decide_true, decide_false, not_true_eq_false, not_false_eq_true, Bool.not_true, Bool.not_false, *]; done) | fail)) (fun h => absurd h (by decide)) (fun _ => ?_)
          repeat (first | (refine Trip.seq ?_) | (refine Trip.exit ?_; ((repeat (first | refine blockExit_eq ?_ | refine blockExit_ne (by decide) ?_ | refine blockExit_normal ?_ | refine blockExit_ret ?_ | refine blockExit_goto ?_)); first | (change Trip _ _ _ _ _) | dsimp only | skip)) | fail)
          have hat := hs.at
          have hl8 := linkF_len (a := a) (p := d) (by omega)
          have hnone : look M2 (linkF a d) = none := by
            cases hlq : look M2 (linkF a d) with
            | none => rfl
            | some y =>
              exfalso
              have hw : walkF M2 (d.length + 1) a d = some y := by simp only [walkF]; rw [if_neg h7]; exact hlq
              obtain ⟨k, _, hk⟩ := htr.found (d.length + 1) hr hw
              rw [hpre] at hk
              exact hnew (List.mem_of_getElem? hk)
          have c5 : cellAt H' ⟨b, 0 + 1, none⟩ (.map (some m)) := cellAt_own (off := 1) hoH (by show 1 < 2; decide)
          refine Trip.mono (Q := fun e st => e = .normal ∧ ∃ (tm' : Nat → Value) (nx6 : Nat) (H6 : Heap) (bs : List Nat) (clk : Nat), st = ⟨tm', n, H6, nx6⟩ ∧ nx' ≤ nx6 ∧ (∀ i, i < nx' → i ≠ m → H6 i = H' i) ∧ H6 m = some (.map ((M2 ++ [(linkF a d, (R.length : Int))]).map encE) bs clk) ∧ tm' 5 = .int .i64 R.length) ?_ ?_
          · refine OpsR.drawn [6, 8] (K := fun _ H2 => cellAt H2 ⟨b, 0 + 1, none⟩ (.map (some m))) mixedP (by kernel_rfl) (by kernel_rfl) [0, 1, 2, 3, 4, 5, 7, 6, 8] (by kernel_rfl) c5 ?_
            refine OpsR.one rfl rfl rfl (by kernel_rfl) ?_
            repeat (first | (refine OpsL.p (by subst_vars; decide) (by (first | (exact aop_move (by (first | (simp only [ASt.ev, tmPut, ↓reduceIte, reduceIte, Nat.reduceEqDiff, plain1, *]; rfl) | fail))) | fail)) ?_) | (refine OpsL.nil ?_; ((repeat (first | refine blockExit_eq ?_ | refine blockExit_ne (by decide) ?_ | refine blockExit_normal ?_ | refine blockExit_ret ?_ | refine blockExit_goto ?_)); first | (change Trip _ _ _ _ _) | dsimp only | skip)) | fail)
            refine OpsR.one rfl rfl rfl (by kernel_rfl) ?_
            repeat (first | (refine OpsL.p (by subst_vars; decide) (by (first | (exact aop_nilCheck (by (first | (simp only [ASt.ev, tmPut, ↓reduceIte, reduceIte, Nat.reduceEqDiff, plain1, *]; rfl) | fail))) | fail)) ?_) | (refine OpsL.nil ?_; ((repeat (first | refine blockExit_eq ?_ | refine blockExit_ne (by decide) ?_ | refine blockExit_normal ?_ | refine blockExit_ret ?_ | refine blockExit_goto ?_)); first | (change Trip _ _ _ _ _) | dsimp only | skip)) | fail)
            refine OpsR.one rfl rfl rfl (by kernel_rfl) ?_
            repeat (first | (refine OpsL.p (by subst_vars; decide) (by (first | (exact aop_fieldAddr (by (first | (simp only [ASt.ev, tmPut, ↓reduceIte, reduceIte, Nat.reduceEqDiff, plain1, *]; rfl) | fail)) (by exact rfl)) | fail)) ?_) | (refine OpsL.nil ?_; ((repeat (first | refine blockExit_eq ?_ | refine blockExit_ne (by decide) ?_ | refine blockExit_normal ?_ | refine blockExit_ret ?_ | refine blockExit_goto ?_)); first | (change Trip _ _ _ _ _) | dsimp only | skip)) | fail)
            refine OpsR.sp (v := .map (some m)) rfl (by kernel_rfl) (by subst_vars; decide) c5 (fun H2 nx2 hK => aop_load (by (first | (simp only [ASt.ev, tmPut, ↓reduceIte, reduceIte, Nat.reduceEqDiff, plain1, *]; rfl) | fail)) (by exact rfl) rfl hK) ?_
            refine OpsR.one rfl rfl rfl (by kernel_rfl) ?_
            repeat (first | (refine OpsL.p (by subst_vars; decide) (by (first | (exact aop_move (by (first | (simp only [ASt.ev, tmPut, ↓reduceIte, reduceIte, Nat.reduceEqDiff, plain1, *]; rfl) | fail))) | fail)) ?_) | (refine OpsL.nil ?_; ((repeat (first | refine blockExit_eq ?_ | refine blockExit_ne (by decide) ?_ | refine blockExit_normal ?_ | refine blockExit_ret ?_ | refine blockExit_goto ?_)); first | (change Trip _ _ _ _ _) | dsimp only | skip)) | fail)
            refine OpsR.one rfl rfl rfl (by kernel_rfl) ?_
            repeat (first | (refine OpsL.p (by subst_vars; decide) (by (first | (exact aop_move (by (first | (simp only [ASt.ev, tmPut, ↓reduceIte, reduceIte, Nat.reduceEqDiff, plain1, *]; rfl) | fail))) | fail)) ?_) | (refine OpsL.nil ?_; ((repeat (first | refine blockExit_eq ?_ | refine blockExit_ne (by decide) ?_ | refine blockExit_normal ?_ | refine blockExit_ret ?_ | refine blockExit_goto ?_)); first | (change Trip _ _ _ _ _) | dsimp only | skip)) | fail)
            refine OpsR.one rfl rfl rfl (by kernel_rfl) ?_
            repeat (first | (refine OpsL.p (by subst_vars; decide) (by (first | (exact aop_move (by (first | (simp only [ASt.ev, tmPut, ↓reduceIte, reduceIte, Nat.reduceEqDiff, plain1, *]; rfl) | fail))) | fail)) ?_) | (refine OpsL.nil ?_; ((repeat (first | refine blockExit_eq ?_ | refine blockExit_ne (by decide) ?_ | refine blockExit_normal ?_ | refine blockExit_ret ?_ | refine blockExit_goto ?_)); first | (change Trip _ _ _ _ _) | dsimp only | skip)) | fail)
            refine OpsR.act (by kernel_rfl) (ActStep.call2 rfl rfl (by subst_vars; decide) (by exact rfl) (by (first | (simp only [ASt.ev, tmPut, ↓reduceIte, reduceIte, Nat.reduceEqDiff, plain1, *]; rfl) | fail)) (by (first | (simp only [ASt.ev, tmPut, ↓reduceIte, reduceIte, Nat.reduceEqDiff, plain1, *]; done) | fail)) entersLink (linkC W0 hat (by omega)) ?_)
            rintro v3 nx3 H3 ⟨rfl, hx3⟩
            have hl3 : LinksAt H3 (.map (some m)) M2 := hlk.same fun m' e => by cases e; exact hx3.2 m (by omega)
            have ho3 : H3 b = some (.cells [rv4, .map (some m)] 0 none false (some 61)) := (hx3.2 b (by omega)).trans hoH
            obtain ⟨g8, hor⟩ := hl3
            obtain ⟨bs, clk, hm3⟩ : ∃ bs clk, H3 m = some (.map (M2.map encE) bs clk) := by
              rcases hor with ⟨h, _⟩ | ⟨m', bs, clk, h, hm⟩
              · cases h
              · cases h; exact ⟨bs, clk, hm⟩
            have hkk : ∀ o, cellAt (H3.put m o) ⟨b, 0 + 1, none⟩ (.map (some m)) := fun o => cellAt_own (off := 1) ((Heap.put_ne (Ne.symm hmb)).trans ho3) (by show 1 < 2; decide)
            refine ⟨cellAt_own (off := 1) ho3 (by show 1 < 2; decide), ?_⟩
            refine OpsR.act (by kernel_rfl) (ActStep.ofL rfl rfl ?_)
            refine OpsL.upd (aop_mapUpdate (by (first | (simp only [ASt.ev, tmPut, ↓reduceIte, reduceIte, Nat.reduceEqDiff, plain1, *]; done) | fail)) (by (first | (simp only [ASt.ev, tmPut, ↓reduceIte, reduceIte, Nat.reduceEqDiff, plain1, *]; done) | fail)) (by (first | (simp only [ASt.ev, tmPut, ↓reduceIte, reduceIte, Nat.reduceEqDiff, plain1, *]; done) | fail)) (LinksAt.put (v := (R.length : Int)) g8 hm3 hl8 hnone)) ?_
            refine OpsL.nil ⟨hkk _, ?_⟩
            refine OpsR.nil ?_
            exact ⟨rfl, _, nx3, _, _, _, rfl, hx3.1, fun i hi hne => by show Heap.put H3 m _ i = _; rw [Heap.put_ne hne]; exact hx3.2 i hi, Heap.put_eq, by simp [tmPut, *]⟩
          · clear e0 e1 e5 e6
            rintro e st ⟨rfl, tm', nx6, H6, bs, clk, rfl, hn6, hf6, hm6, e5⟩
            ((repeat (first | refine blockExit_eq ?_ | refine blockExit_ne (by decide) ?_ | refine blockExit_normal ?_ | refine blockExit_ret ?_ | refine blockExit_goto ?_)); first | (change Trip _ _ _ _ _) | dsimp only | skip)
            have hF : ∀ i, i < nx4 → i ≠ m → H6 i = H4 i := fun i hi hne => by rw [hf6 i (by omega) hne, hf' i hi hne]
            have hF1 : ∀ i, i < nx1 → i ≠ m → i ≠ b → (∀ t, rob ≠ some (i, t)) → H6 i = H1 i := fun i hi h1 h2 h3 => by rw [hF i (by omega) h1, hf4 i hi h2 h3]
            have hF0 : ∀ i, i < nx → i ≠ m → i ≠ b → (∀ t, rob ≠ some (i, t)) → H6 i = H i := fun i hi h1 h2 h3 => by rw [hF1 i (by omega) h1 h2 h3, hf1 i hi h2]
            have hm8 := hlk.1
            repeat (first | (refine OpsL.p (by subst_vars; decide) (by (first | (exact aop_move (by (first | (simp only [ASt.ev, tmPut, ↓reduceIte, reduceIte, Nat.reduceEqDiff, plain1, *]; rfl) | fail))) | (exact aop_assign (by (first | (simp only [ASt.ev, tmPut, ↓reduceIte, reduceIte, Nat.reduceEqDiff, plain1, *]; rfl) | fail))) | fail)) ?_) | (refine Trip.seq ?_) | (refine Trip.ops ?_) | (refine Trip.ret ?_; ((repeat (first | refine blockExit_eq ?_ | refine blockExit_ne (by decide) ?_ | refine blockExit_normal ?_ | refine blockExit_ret ?_ | refine blockExit_goto ?_)); first | (change Trip _ _ _ _ _) | dsimp only | skip)) | (refine OpsL.nil ?_; ((repeat (first | refine blockExit_eq ?_ | refine blockExit_ne (by decide) ?_ | refine blockExit_normal ?_ | refine blockExit_ret ?_ | refine blockExit_goto ?_)); first | (change Trip _ _ _ _ _) | dsimp only | skip)) | fail)
            refine ⟨.inr rfl, _, res_tmp, by simp [tmPut, *], by omega, ⟨M2 ++ [(linkF a d, (R.length : Int))], rob4, rv4, .map (some m), vs ++ [cv], ?_⟩, fun i hi hne => hF0 i hi (fun e => ?_) (fun e => hne (by rw [e]; exact h.inb)) (fun t e => hne (h.inr _ _ e).1)⟩
            · refine ⟨(hF b (by omega) (Ne.symm hmb)).trans ho4, OwnRow.same hrw4 fun b' t e => hF b' (hr4 b' t e).1 (fun he => ?_), by rw [List.length_append, List.length_append, hvl]; rfl, fun i h1 h2 => ?_, ⟨fun e he => ?_, .inr ⟨m, bs, clk, rfl, hm6⟩⟩, ?_, ?_, .inl h.inb, fun b' t e => ⟨?_, ?_⟩, fun m' e => ?_, fun i h1 a e => ?_⟩
              · rcases (hr4 b' t e).2 with hh | ⟨t', hh⟩
                · omega
                · exact hmr t' (by rw [← he]; exact hh)
              · rw [List.length_append, List.length_singleton] at h1
                by_cases hi : i < vs.length
                · have e1 : (vs ++ [cv])[i]'(by rw [List.length_append, List.length_singleton]; omega) = vs[i] := List.getElem_append_left hi
                  have e2 : (R ++ [l])[i]'h2 = R[i]'(by omega) := List.getElem_append_left (by omega)
                  rw [e1, e2]
                  refine (h.row i hi (by omega)).same fun a n c e => ?_
                  have e' := (Value.slice.inj e).1
                  obtain ⟨j1, j2, j3, j4⟩ := h.inv i hi a e'
                  exact hF0 _ (hS _ j1) (hmv i hi a e') j2 j3
                · have hi2 : i = vs.length := by omega
                  subst hi2
                  have e1 : (vs ++ [cv])[vs.length]'(by rw [List.length_append, List.length_singleton]; omega) = cv := by simp
                  have e2 : (R ++ [l])[vs.length]'h2 = l := by simp [hvl]
                  rw [e1, e2]
                  refine hcv.same fun a n c e => ?_
                  have := hca a (Value.slice.inj e).1
                  exact hF _ this.2.1 (by omega)
              · rcases List.mem_append.1 he with he | he
                · exact hm8 e he
                · rw [List.mem_singleton] at he
                  subst he
                  exact hl8
              · have := htr.add hr hd7 hnone
                rwa [hpre] at this
              · rw [List.length_append, List.length_append, List.length_singleton, List.length_singleton]; omega
              · rcases (hr4 b' t e).2 with hh | ⟨t', hh⟩
                · exact .inr ⟨by omega, by have := (hr4 b' t e).1; omega⟩
                · exact .inl (h.inr _ _ hh).1
              · rcases (hr4 b' t e).2 with hh | ⟨t', hh⟩
                · omega
                · exact (h.inr _ _ hh).2
              · cases e
                refine ⟨?_, hmb, fun t e => ?_⟩
                · rcases hmS with hh | hh
                  · exact .inl hh
                  · exact .inr ⟨hh, by omega⟩
                · rcases (hr4 _ t e).2 with hh | ⟨t', hh⟩
                  · omega
                  · exact hmr t' hh
              · rw [List.length_append, List.length_singleton] at h1
                by_cases hi : i < vs.length
                · have e1 : (vs ++ [cv])[i]'(by rw [List.length_append, List.length_singleton]; omega) = vs[i] := List.getElem_append_left hi
                  rw [e1] at e
                  obtain ⟨j1, j2, j3, j4⟩ := h.inv i hi a e
                  refine ⟨.inl j1, j2, fun t e' => ?_, fun e' => hmv i hi a e (Option.some.inj (Value.map.inj e')).symm⟩
                  rcases (hr4 _ t e').2 with hh | ⟨t', hh⟩
                  · have := hS _ j1; omega
                  · exact j3 t' hh
                · have hi2 : i = vs.length := by omega
                  subst hi2
                  have e1 : (vs ++ [cv])[vs.length]'(by rw [List.length_append, List.length_singleton]; omega) = cv := by simp
                  rw [e1] at e
                  obtain ⟨j1, j2, j3⟩ := hca a e
                  exact ⟨.inr ⟨by omega, by omega⟩, by omega, j3, fun e' => by have := Option.some.inj (Value.map.inj e'); omega⟩
            · subst e
              rcases hmS with hh | hh
              · exact hne hh
              · omega

end Go.Proofs.Ytigincejpjajpaa
