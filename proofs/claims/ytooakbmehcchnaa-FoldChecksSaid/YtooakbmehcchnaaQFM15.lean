import Derived.Test.YtooakbmehcchnaaQFM14
set_option linter.unusedSimpArgs false
set_option linter.unusedVariables false
set_option maxRecDepth 100000
set_option maxHeartbeats 16000000
namespace Go.Am
open Go.RowKit
end Go.Am
namespace Go.Proofs.Ytooakbmehcchnaa
open Go.Am Go.RowKit
attribute [local irreducible] aop OpsL Trip blockExit OpsD OpsK OpsR
theorem entersRRow : Am.Enters Try.prog 55 := ⟨Try.f55, Try.func55, by kernel_rfl, by kernel_rfl⟩
theorem rrowC (W0 : World) {nx : Nat} {H : Heap} {m : Mo} {V : MoV} (hm : MoIn H m V) (hn : MoLen m) {lv : Value} {l : List Int} (hl : IntsAt H lv l) (hll : l.length ≤ 100000) (w k : Int) : ACalls Try.prog W0 55 [.agg (moV m V).toArray, lv, .int .i64 w, .int .i64 k] nx H fun v nx' H' => v = .bool (decide ((l.length : Int) = w) && areF m l k) ∧ Ext nx H nx' H' := by
  refine ACalls.by_trip (fn := Try.f55) (c := _) Try.func55 rfl (fun tm n hn0 htm => ?_)
  have e0 : tm 0 = .agg (moV m V).toArray := htm 0
  have e1 : tm 1 = lv := htm 1
  have e2 : tm 2 = .int .i64 w := htm 2
  have e3 : tm 3 = .int .i64 k := htm 3
  clear htm
  replace hn0 : n = 46 := hn0
  refine Trip.ok fun hok => ?_
  replace hok : ∀ id o, H id = some o → id < nx := hok
  refine Trip.seq ?_
  refine Trip.ops ?_
  refine OpsL.boxM hm hok ?_ (by (first | (simp only [ASt.ev, tmPut, ↓reduceIte, Nat.reduceEqDiff, *]; done))) (by subst_vars; decide)
  intro G x0 okG hb hG
  clear e0
  obtain ⟨oa, oc, ov⟩ := hG.of.slice
  have oh := hG.of
  have g2 := hb.c2
  rw [ov] at oh g2
  obtain ⟨la, lc, rfl⟩ := hl.slice
  have hlG := hl.ext x0 hok
  have q0 := hn.of
  repeat (first | (refine OpsL.q (by first | exact omv | exact oasg | exact olen) ?_) | (refine Trip.seq ?_) | (refine Trip.ops ?_) | (refine OpsL.nil ?_; (change Trip _ _ _ _ _)))
  by_cases hw : ¬ (l.length : Int) = w
  · refine OpsL.neqT ?_ (c := hw)
    rw [decide_eq_false hw]
    clear hw
    repeat (first | (refine OpsL.nil ?_; (change Trip _ _ _ _ _)))
    refine Trip.ifT ?_
    repeat (first | (refine OpsL.q (by exact oasg) ?_) | (refine Trip.seq ?_) | (refine Trip.ops ?_) | (refine Trip.ret ?_; (dsimp only)) | (refine OpsL.nil ?_; (change Trip _ _ _ _ _)))
    exact ⟨.inr rfl, _, res_tmp, rfl, x0⟩
  replace hw := Decidable.not_not.1 hw
  refine OpsL.neqF ?_ (c := hw)
  rw [decide_eq_true hw, Bool.true_and]
  subst hw
  repeat (first | (refine OpsL.nil ?_; (change Trip _ _ _ _ _)))
  refine Trip.ifF ?_
  repeat (first | (refine OpsL.q (by exact oasg) ?_) | (refine Trip.seq ?_) | (refine Trip.ops ?_) | (refine Trip.block ?_) | (refine Trip.skip ?_; (change Trip _ _ _ _ _)) | (refine OpsL.nil ?_; (change Trip _ _ _ _ _)))
  refine Trip.inv (fun (i : Nat) s => ∃ (tm : Nat → Value), s = ⟨tm, n, G, nx + 1⟩ ∧ tm 1 = .slice la l.length lc ∧ tm 2 = .int .i64 l.length ∧ tm 3 = .int .i64 k ∧ tm 4 = .pointer (some ⟨nx, 0, none⟩) ∧ tm 9 = .int .i64 i ∧ i ≤ l.length ∧ allN i (fun i => inF m (l.getD i 0) k) = true) (fun i => l.length - i) 0 ?_ ?_
  · exact ⟨_, rfl, by simp [tmPut, *], by simp [tmPut, *], by simp [tmPut, *], by simp [tmPut, *], by simp [tmPut, *], by omega, allN_zero⟩
  clear e1 e2 e3
  rintro i s ⟨tm, rfl, e1, e2, e3, e4, e9, hi, hall⟩
  repeat (first | (refine OpsL.q (by first | exact omv | exact olss) ?_) | (refine Trip.seq ?_) | (refine Trip.ops ?_) | (refine Trip.block ?_) | (refine Trip.itA (fun _ => ?_) (fun _ => ?_)) | (refine Trip.skip ?_; (change Trip _ _ _ _ _)) | (refine OpsL.nil ?_; (change Trip _ _ _ _ _)))
  · have hlt : i < l.length := by omega
    obtain ⟨q, rfl, hc⟩ := IntsAt.atI hlG (show (0 : Int) ≤ i by omega) (show (i : Int) < l.length by omega)
    rw [Int.toNat_natCast] at hc
    repeat fail
    refine Trip.mono (Q := fun e st => e = .normal ∧ ∃ tm' : Nat → Value, st = ⟨tm', n, G, nx + 1⟩ ∧ tm' 1 = .slice (some q) l.length lc ∧ tm' 2 = .int .i64 l.length ∧ tm' 3 = .int .i64 k ∧ tm' 4 = .pointer (some ⟨nx, 0, none⟩) ∧ tm' 9 = .int .i64 i ∧ tm' 45 = .bool (!inF m (l.getD i 0) k)) ?_ ?_
    · obtain ⟨x, hx⟩ : ∃ x, l.getD i 0 = x := ⟨_, rfl⟩
      rw [hx] at hc ⊢
      refine OpsR.drawnW [] (K := fun _ _ => True) mixed13 (by kernel_rfl) (by kernel_rfl) [0, 1, 2, 3, 4, 5, 6, 7, 8, 9, 10, 11, 12, 13, 14, 15, 16, 17, 18, 19, 20, 21, 22, 23, 24, 25, 26] (by kernel_rfl) trivial ?_
      refine OpsR.one rfl rfl rfl (by kernel_rfl) ?_
      repeat (first | (refine OpsL.q (by exact omv) ?_) | (refine OpsL.nil ?_; (skip)))
      refine OpsR.one rfl rfl rfl (by kernel_rfl) ?_
      repeat (first | (refine OpsL.q (by exact omv) ?_) | (refine OpsL.nil ?_; (skip)))
      refine OpsR.one rfl rfl rfl (by kernel_rfl) ?_
      repeat (first | (refine OpsL.q (by exact oixa) ?_) | (refine OpsL.nil ?_; (dsimp only)))
      refine OpsR.one rfl rfl rfl (by kernel_rfl) ?_
      repeat (first | (refine OpsL.q (by exact old) ?_) | (refine OpsL.nil ?_; (skip)))
      refine OpsR.one rfl rfl rfl (by kernel_rfl) ?_
      by_cases h0 : x < 0
      · refine OpsL.lssT ?_ (c := h0)
        have hF : inF m x k = false := decide_eq_false fun q => by omega
        refine OpsL.nil ?_
        refine OpsR.one rfl rfl rfl (by kernel_rfl) ?_
        repeat (first | (refine OpsL.q (by exact omv) ?_) | (refine OpsL.nil ?_; (skip)))
        refine OpsR.one rfl rfl rfl (by kernel_rfl) ?_
        repeat (first | (refine OpsL.nil ?_; (skip)) | (refine OpsL.skp ?_))
        refine OpsR.one rfl rfl rfl (by kernel_rfl) ?_
        repeat (first | (refine OpsL.nil ?_; (skip)) | (refine OpsL.skp ?_))
        refine OpsR.one rfl rfl rfl (by kernel_rfl) ?_
        repeat (first | (refine OpsL.nil ?_; (skip)) | (refine OpsL.skp ?_))
        refine OpsR.one rfl rfl rfl (by kernel_rfl) ?_
        repeat (first | (refine OpsL.nil ?_; (skip)) | (refine OpsL.skp ?_))
        refine OpsR.one rfl rfl rfl (by kernel_rfl) ?_
        repeat (first | (refine OpsL.nil ?_; (skip)) | (refine OpsL.skp ?_))
        refine OpsR.one rfl rfl rfl (by kernel_rfl) ?_
        repeat (first | (refine OpsL.nil ?_; (skip)) | (refine OpsL.skp ?_))
        refine OpsR.one rfl rfl rfl (by kernel_rfl) ?_
        repeat (first | (refine OpsL.nil ?_; (skip)) | (refine OpsL.skp ?_))
        refine OpsR.one rfl rfl rfl (by kernel_rfl) ?_
        repeat (first | (refine OpsL.nil ?_; (skip)) | (refine OpsL.skp ?_))
        refine OpsR.one rfl rfl rfl (by kernel_rfl) ?_
        repeat (first | (refine OpsL.q (by exact opkT) ?_) | (refine OpsL.nil ?_; (skip)))
        refine OpsR.one rfl rfl rfl (by kernel_rfl) ?_
        repeat (first | (refine OpsL.q (by exact omv) ?_) | (refine OpsL.nil ?_; (skip)))
        refine OpsR.one rfl rfl rfl (by kernel_rfl) ?_
        repeat (first | (refine OpsL.nil ?_; (skip)) | (refine OpsL.skp ?_))
        refine OpsR.one rfl rfl rfl (by kernel_rfl) ?_
        repeat (first | (refine OpsL.nil ?_; (skip)) | (refine OpsL.skp ?_))
        refine OpsR.one rfl rfl rfl (by kernel_rfl) ?_
        repeat (first | (refine OpsL.nil ?_; (skip)) | (refine OpsL.skp ?_))
        refine OpsR.one rfl rfl rfl (by kernel_rfl) ?_
        repeat (first | (refine OpsL.nil ?_; (skip)) | (refine OpsL.skp ?_))
        refine OpsR.one rfl rfl rfl (by kernel_rfl) ?_
        repeat (first | (refine OpsL.nil ?_; (skip)) | (refine OpsL.skp ?_))
        refine OpsR.one rfl rfl rfl (by kernel_rfl) ?_
        repeat (first | (refine OpsL.nil ?_; (skip)) | (refine OpsL.skp ?_))
        refine OpsR.one rfl rfl rfl (by kernel_rfl) ?_
        repeat (first | (refine OpsL.nil ?_; (skip)) | (refine OpsL.skp ?_))
        refine OpsR.one rfl rfl rfl (by kernel_rfl) ?_
        repeat (first | (refine OpsL.nil ?_; (skip)) | (refine OpsL.skp ?_))
        refine OpsR.one rfl rfl rfl (by kernel_rfl) ?_
        repeat (first | (refine OpsL.nil ?_; (skip)) | (refine OpsL.skp ?_))
        refine OpsR.one rfl rfl rfl (by kernel_rfl) ?_
        repeat (first | (refine OpsL.nil ?_; (skip)) | (refine OpsL.skp ?_))
        refine OpsR.one rfl rfl rfl (by kernel_rfl) ?_
        repeat (first | (refine OpsL.q (by exact opkT) ?_) | (refine OpsL.nil ?_; (skip)))
        refine OpsR.nil ?_
        exact ⟨rfl, _, rfl, by simp [tmPut, *], by simp [tmPut, *], by simp [tmPut, *], by simp [tmPut, *], by simp [tmPut, *], by simp [tmPut, *]⟩
      refine OpsL.lssF ?_ (c := h0)
      refine OpsL.nil ?_
      refine OpsR.one rfl rfl rfl (by kernel_rfl) ?_
      repeat (first | (refine OpsL.q (by exact omv) ?_) | (refine OpsL.nil ?_; (skip)))
      refine OpsR.one rfl rfl rfl (by kernel_rfl) ?_
      repeat (first | (refine OpsL.q (by exact omv) ?_) | (refine OpsL.nil ?_; (skip)) | (refine OpsL.ung ?_))
      refine OpsR.one rfl rfl rfl (by kernel_rfl) ?_
      repeat (first | (refine OpsL.q (by exact omv) ?_) | (refine OpsL.nil ?_; (skip)) | (refine OpsL.ung ?_))
      refine OpsR.one rfl rfl rfl (by kernel_rfl) ?_
      repeat (first | (refine OpsL.q (by exact oixa) ?_) | (refine OpsL.nil ?_; (dsimp only)) | (refine OpsL.ung ?_))
      refine OpsR.one rfl rfl rfl (by kernel_rfl) ?_
      repeat (first | (refine OpsL.q (by exact old) ?_) | (refine OpsL.nil ?_; (skip)) | (refine OpsL.ung ?_))
      refine OpsR.one rfl rfl rfl (by kernel_rfl) ?_
      repeat (first | (refine OpsL.q (by exact ofa) ?_) | (refine OpsL.nil ?_; (dsimp only)) | (refine OpsL.ung ?_))
      refine OpsR.one rfl rfl rfl (by kernel_rfl) ?_
      repeat (first | (refine OpsL.q (by exact old) ?_) | (refine OpsL.nil ?_; (skip)) | (refine OpsL.ung ?_))
      refine OpsR.one rfl rfl rfl (by kernel_rfl) ?_
      repeat (first | (refine OpsL.q (by exact olen) ?_) | (refine OpsL.nil ?_; (skip)) | (refine OpsL.ung ?_))
      refine OpsR.one rfl rfl rfl (by kernel_rfl) ?_
      refine OpsL.ung ?_
      by_cases h1 : (m.of.length : Int) ≤ x
      · refine OpsL.geqT ?_ (c := h1)
        have hF : inF m x k = false := decide_eq_false fun q => by omega
        refine OpsL.nil ?_
        refine OpsR.one rfl rfl rfl (by kernel_rfl) ?_
        repeat (first | (refine OpsL.q (by exact opkF) ?_) | (refine OpsL.nil ?_; (skip)))
        refine OpsR.one rfl rfl rfl (by kernel_rfl) ?_
        repeat (first | (refine OpsL.q (by exact omv) ?_) | (refine OpsL.nil ?_; (skip)))
        refine OpsR.one rfl rfl rfl (by kernel_rfl) ?_
        repeat (first | (refine OpsL.nil ?_; (skip)) | (refine OpsL.skp ?_))
        refine OpsR.one rfl rfl rfl (by kernel_rfl) ?_
        repeat (first | (refine OpsL.nil ?_; (skip)) | (refine OpsL.skp ?_))
        refine OpsR.one rfl rfl rfl (by kernel_rfl) ?_
        repeat (first | (refine OpsL.nil ?_; (skip)) | (refine OpsL.skp ?_))
        refine OpsR.one rfl rfl rfl (by kernel_rfl) ?_
        repeat (first | (refine OpsL.nil ?_; (skip)) | (refine OpsL.skp ?_))
        refine OpsR.one rfl rfl rfl (by kernel_rfl) ?_
        repeat (first | (refine OpsL.nil ?_; (skip)) | (refine OpsL.skp ?_))
        refine OpsR.one rfl rfl rfl (by kernel_rfl) ?_
        repeat (first | (refine OpsL.nil ?_; (skip)) | (refine OpsL.skp ?_))
        refine OpsR.one rfl rfl rfl (by kernel_rfl) ?_
        repeat (first | (refine OpsL.nil ?_; (skip)) | (refine OpsL.skp ?_))
        refine OpsR.one rfl rfl rfl (by kernel_rfl) ?_
        repeat (first | (refine OpsL.nil ?_; (skip)) | (refine OpsL.skp ?_))
        refine OpsR.one rfl rfl rfl (by kernel_rfl) ?_
        repeat (first | (refine OpsL.nil ?_; (skip)) | (refine OpsL.skp ?_))
        refine OpsR.one rfl rfl rfl (by kernel_rfl) ?_
        repeat (first | (refine OpsL.nil ?_; (skip)) | (refine OpsL.skp ?_))
        refine OpsR.one rfl rfl rfl (by kernel_rfl) ?_
        repeat (first | (refine OpsL.q (by exact opkT) ?_) | (refine OpsL.nil ?_; (skip)))
        refine OpsR.nil ?_
        exact ⟨rfl, _, rfl, by simp [tmPut, *], by simp [tmPut, *], by simp [tmPut, *], by simp [tmPut, *], by simp [tmPut, *], by simp [tmPut, *]⟩
      refine OpsL.geqF ?_ (c := h1)
      refine OpsL.nil ?_
      obtain ⟨q5, rfl, hc5⟩ := IntsAt.atI oh (show 0 ≤ x by omega) (show x < m.of.length by omega)
      refine OpsR.one rfl rfl rfl (by kernel_rfl) ?_
      repeat (first | (refine OpsL.q (by exact opkF) ?_) | (refine OpsL.nil ?_; (skip)))
      refine OpsR.one rfl rfl rfl (by kernel_rfl) ?_
      repeat (first | (refine OpsL.q (by exact omv) ?_) | (refine OpsL.nil ?_; (skip)))
      refine OpsR.one rfl rfl rfl (by kernel_rfl) ?_
      repeat (first | (refine OpsL.q (by exact ofa) ?_) | (refine OpsL.nil ?_; (dsimp only)) | (refine OpsL.ung ?_))
      refine OpsR.one rfl rfl rfl (by kernel_rfl) ?_
      repeat (first | (refine OpsL.q (by exact old) ?_) | (refine OpsL.nil ?_; (skip)) | (refine OpsL.ung ?_))
      refine OpsR.one rfl rfl rfl (by kernel_rfl) ?_
      repeat (first | (refine OpsL.q (by exact omv) ?_) | (refine OpsL.nil ?_; (skip)) | (refine OpsL.ung ?_))
      refine OpsR.one rfl rfl rfl (by kernel_rfl) ?_
      repeat (first | (refine OpsL.q (by exact omv) ?_) | (refine OpsL.nil ?_; (skip)) | (refine OpsL.ung ?_))
      refine OpsR.one rfl rfl rfl (by kernel_rfl) ?_
      repeat (first | (refine OpsL.q (by exact oixa) ?_) | (refine OpsL.nil ?_; (dsimp only)) | (refine OpsL.ung ?_))
      refine OpsR.one rfl rfl rfl (by kernel_rfl) ?_
      repeat (first | (refine OpsL.q (by exact old) ?_) | (refine OpsL.nil ?_; (skip)) | (refine OpsL.ung ?_))
      refine OpsR.one rfl rfl rfl (by kernel_rfl) ?_
      repeat (first | (refine OpsL.q (by exact oixa) ?_) | (refine OpsL.nil ?_; (dsimp only)) | (refine OpsL.ung ?_))
      refine OpsR.one rfl rfl rfl (by kernel_rfl) ?_
      repeat (first | (refine OpsL.q (by exact old) ?_) | (refine OpsL.nil ?_; (skip)) | (refine OpsL.ung ?_))
      refine OpsR.one rfl rfl rfl (by kernel_rfl) ?_
      repeat (first | (refine OpsL.q (by exact omv) ?_) | (refine OpsL.nil ?_; (skip)) | (refine OpsL.ung ?_))
      refine OpsR.one rfl rfl rfl (by kernel_rfl) ?_
      refine OpsL.ung ?_
      by_cases h2 : m.of.getD x.toNat 0 = k
      · refine OpsL.neqF ?_ (c := h2)
        have hF : inF m x k = true := decide_eq_true ⟨⟨by omega, by omega⟩, h2⟩
        clear h2
        refine OpsL.nil ?_
        refine OpsR.one rfl rfl rfl (by kernel_rfl) ?_
        repeat (first | (refine OpsL.q (by exact opkF) ?_) | (refine OpsL.nil ?_; (skip)))
        refine OpsR.nil ?_
        exact ⟨rfl, _, rfl, by simp [tmPut, *], by simp [tmPut, *], by simp [tmPut, *], by simp [tmPut, *], by simp [tmPut, *], by simp [tmPut, *]⟩
      · refine OpsL.neqT ?_ (c := h2)
        have hF : inF m x k = false := decide_eq_false fun q => h2 q.2
        clear h2
        refine OpsL.nil ?_
        refine OpsR.one rfl rfl rfl (by kernel_rfl) ?_
        repeat (first | (refine OpsL.q (by exact opkF) ?_) | (refine OpsL.nil ?_; (skip)))
        refine OpsR.nil ?_
        exact ⟨rfl, _, rfl, by simp [tmPut, *], by simp [tmPut, *], by simp [tmPut, *], by simp [tmPut, *], by simp [tmPut, *], by simp [tmPut, *]⟩
    clear e1 e2 e3 e4 e9
    rintro e st ⟨rfl, tm, rfl, e1, e2, e3, e4, e9, e45⟩
    (change Trip _ _ _ _ _)
    cases hs : inF m (l.getD i 0) k
    · rw [hs] at e45
      replace e45 : tm 45 = .bool true := e45
      repeat fail
      refine Trip.ifT ?_
      repeat (first | (refine OpsL.q (by exact oasg) ?_) | (refine Trip.seq ?_) | (refine Trip.ops ?_) | (refine Trip.ret ?_; ((repeat (refine blockExit_ret ?_)); dsimp only)) | (refine OpsL.nil ?_; (change Trip _ _ _ _ _)))
      exact ⟨.inr rfl, _, res_tmp, by rw [show areF m l k = false from allN_no hlt hs]; rfl, x0⟩
    · rw [hs] at e45
      replace e45 : tm 45 = .bool false := e45
      repeat fail
      refine Trip.ifF ?_
      repeat (first | (refine OpsL.q (by first | exact omv | exact oasg | exact oadd) ?_) | (refine Trip.ops ?_) | (refine Trip.skip ?_; ((repeat (refine blockExit_normal ?_)); change Trip _ _ _ _ _)) | (refine OpsL.nil ?_; (dsimp only)))
      exact ⟨i + 1, ⟨_, rfl, by simp [tmPut, *], by simp [tmPut, *], by simp [tmPut, *], by simp [tmPut, *], by simp [tmPut, *], by omega, allN_put hall hs⟩, by omega⟩
  · repeat (first | (refine OpsL.q (by exact oasg) ?_) | (refine Trip.seq ?_) | (refine Trip.ops ?_) | (refine Trip.exit ?_; ((repeat (refine blockExit_eq ?_)); change Trip _ _ _ _ _)) | (refine Trip.ret ?_; (dsimp only)) | (refine OpsL.nil ?_; (change Trip _ _ _ _ _)))
    have hi2 : i = l.length := by omega
    subst hi2
    exact ⟨.inr rfl, _, res_tmp, by rw [show areF m l k = true from hall]; rfl, x0⟩
end Go.Proofs.Ytooakbmehcchnaa
namespace Go.Proofs.Ytooakbmehcchnaa
open Go.Am Go.RowKit
attribute [local irreducible] aop OpsL Trip blockExit OpsD OpsK OpsR
theorem entersRState : Am.Enters Try.prog 37 := ⟨Try.f37, Try.func37, by kernel_rfl, by kernel_rfl⟩
theorem rstateC (W0 : World) {nx : Nat} {H : Heap} {m : Mo} {V : MoV} (hm : MoIn H m V) (hn : MoLen m) {p : Nat} (hp : p < m.of.length) (hp1 : p < m.inn.length) (hp2 : p < m.low.length) (hp3 : p < m.ret.length) : ACalls Try.prog W0 37 [.agg (moV m V).toArray, .int .i64 p] nx H fun v nx' H' => v = .bool (stateF m p) ∧ Ext nx H nx' H' := by
  refine ACalls.by_trip (fn := Try.f37) (c := _) Try.func37 rfl (fun tm n hn0 htm => ?_)
  have e0 : tm 0 = .agg (moV m V).toArray := htm 0
  have e1 : tm 1 = .int .i64 p := htm 1
  clear htm
  replace hn0 : n = 124 := hn0
  refine Trip.ok fun hok => ?_
  replace hok : ∀ id o, H id = some o → id < nx := hok
  refine Trip.seq ?_
  refine Trip.ops ?_
  refine OpsL.boxM hm hok ?_ (by (first | (simp only [ASt.ev, tmPut, ↓reduceIte, Nat.reduceEqDiff, *]; done))) (by subst_vars; decide)
  intro G x0 okG hb hG
  clear e0
  obtain ⟨oa, oc, ov⟩ := hG.of.slice
  have oh := hG.of
  have g2 := hb.c2
  rw [ov] at oh g2
  obtain ⟨ia, ic, iv⟩ := hG.inn.slice
  have ih := hG.inn
  have g5 := hb.c5
  rw [iv] at ih g5
  obtain ⟨la, lc, lv⟩ := hG.low.slice
  have lh := hG.low
  have g6 := hb.c6
  rw [lv] at lh g6
  obtain ⟨ra, rc, rv⟩ := hG.ret.slice
  have rh := hG.ret
  have g7 := hb.c7
  rw [rv] at rh g7
  have g0 := hb.c0
  have g1 := hb.c1
  obtain ⟨q, rfl, hc⟩ := IntsAt.atI oh (show (0 : Int) ≤ p by omega) (show (p : Int) < m.of.length by omega)
  obtain ⟨qi, ib, ik, rfl, hci, hirow⟩ := L2At.atI ih (show (0 : Int) ≤ p by omega) (show (p : Int) < m.inn.length by omega)
  obtain ⟨ql, lb, lk, rfl, hcl, hlrow⟩ := L2At.atI lh (show (0 : Int) ≤ p by omega) (show (p : Int) < m.low.length by omega)
  obtain ⟨qr, rb, rk, rfl, hcr, hrrow⟩ := L3At.atI rh (show (0 : Int) ≤ p by omega) (show (p : Int) < m.ret.length by omega)
  simp only [Int.toNat_natCast] at hc hci hirow hcl hlrow hcr hrrow
  have li := hn.inn1 p
  have ll := hn.low1 p
  have lr := hn.ret1 p
  have lr2 := hn.ret2 p
  have q0 := hn.of
  repeat (first | (refine OpsL.q (by exact oasg) ?_) | (refine Trip.seq ?_) | (refine OpsL.nil ?_; (change Trip _ _ _ _ _)))
  refine Trip.mono (Q := fun e st => e = .normal ∧ ∃ (tm' : Nat → Value) (nx' : Nat) (H' : Heap), st = ⟨tm', n, H', nx'⟩ ∧ Ext (nx + 1) G nx' H' ∧ tm' 1 = .int .i64 p ∧ tm' 2 = .pointer (some ⟨nx, 0, none⟩) ∧ tm' 22 = .bool (!plnF m p)) ?_ ?_
  · refine OpsR.drawnW [13] (K := fun _ _ => True) mixed13 (by kernel_rfl) (by kernel_rfl) [0, 1, 2, 3, 4, 5, 6, 7, 8, 9, 10, 11, 12, 13, 14] (by kernel_rfl) trivial ?_
    refine OpsR.one rfl rfl rfl (by kernel_rfl) ?_
    refine OpsL.loadM hb ?_ (by (first | (simp only [ASt.ev, tmPut, ↓reduceIte, Nat.reduceEqDiff, *]; done))) (by subst_vars; decide)
    repeat (first | (refine OpsL.nil ?_; (skip)))
    refine OpsR.one rfl rfl rfl (by kernel_rfl) ?_
    repeat (first | (refine OpsL.q (by exact ofa) ?_) | (refine OpsL.nil ?_; (dsimp only)))
    refine OpsR.one rfl rfl rfl (by kernel_rfl) ?_
    repeat (first | (refine OpsL.q (by exact old) ?_) | (refine OpsL.nil ?_; (skip)))
    refine OpsR.one rfl rfl rfl (by kernel_rfl) ?_
    repeat (first | (refine OpsL.q (by exact omv) ?_) | (refine OpsL.nil ?_; (skip)))
    refine OpsR.one rfl rfl rfl (by kernel_rfl) ?_
    repeat (first | (refine OpsL.q (by exact oixa) ?_) | (refine OpsL.nil ?_; (dsimp only)))
    refine OpsR.one rfl rfl rfl (by kernel_rfl) ?_
    repeat (first | (refine OpsL.q (by exact old) ?_) | (refine OpsL.nil ?_; (skip)))
    refine OpsR.one rfl rfl rfl (by kernel_rfl) ?_
    repeat (first | (refine OpsL.q (by exact ofa) ?_) | (refine OpsL.nil ?_; (dsimp only)))
    refine OpsR.one rfl rfl rfl (by kernel_rfl) ?_
    repeat (first | (refine OpsL.q (by exact old) ?_) | (refine OpsL.nil ?_; (skip)))
    refine OpsR.one rfl rfl rfl (by kernel_rfl) ?_
    repeat (first | (refine OpsL.q (by exact ofa) ?_) | (refine OpsL.nil ?_; (dsimp only)))
    refine OpsR.one rfl rfl rfl (by kernel_rfl) ?_
    repeat (first | (refine OpsL.q (by exact old) ?_) | (refine OpsL.nil ?_; (skip)))
    refine OpsR.one rfl rfl rfl (by kernel_rfl) ?_
    repeat (first | (refine OpsL.q (by exact omv) ?_) | (refine OpsL.nil ?_; (skip)))
    refine OpsR.one rfl rfl rfl (by kernel_rfl) ?_
    repeat (first | (refine OpsL.q (by exact oixa) ?_) | (refine OpsL.nil ?_; (dsimp only)))
    refine OpsR.one rfl rfl rfl (by kernel_rfl) ?_
    repeat (first | (refine OpsL.q (by exact old) ?_) | (refine OpsL.nil ?_; (skip)))
    refine OpsR.act (by kernel_rfl) (ActStep.walk rfl rfl ?_)
    refine OpsL.c4 (hf := entersRRow) (hc := (rrowC W0 hG hn hirow li _ _)) (h := ?_)
    rintro v1 nx1 H1 ⟨rfl, y1⟩
    refine OpsL.nil ⟨trivial, ?_⟩
    refine OpsR.one rfl rfl rfl (by kernel_rfl) ?_
    repeat (first | (refine OpsL.q (by exact onot) ?_) | (refine OpsL.nil ?_; (skip)))
    refine OpsR.nil ?_
    exact ⟨rfl, _, _, _, rfl, y1, by simp [tmPut, *], by simp [tmPut, *], by simp [tmPut, plnF]⟩
  clear e1
  rintro e st ⟨rfl, tm, nx1, H1, rfl, x1, e1, e2, e22⟩
  (change Trip _ _ _ _ _)
  cases hpl : plnF m p
  · rw [hpl] at e22
    replace e22 : tm 22 = .bool true := e22
    repeat fail
    refine Trip.ifT ?_
    repeat (first | (refine OpsL.q (by exact oasg) ?_) | (refine Trip.seq ?_) | (refine Trip.ops ?_) | (refine Trip.ret ?_; (dsimp only)) | (refine OpsL.nil ?_; (change Trip _ _ _ _ _)))
    exact ⟨.inr rfl, _, res_tmp, by simp [tmPut, stateF, hpl], x0.trans x1⟩
  rw [hpl] at e22
  replace e22 : tm 22 = .bool false := e22
  repeat fail
  refine Trip.ifF ?_
  have c2 := cell_ext x1 okG g2
  have c6 := cell_ext x1 okG g6
  have c7 := cell_ext x1 okG g7
  have c1 := cell_ext x1 okG g1
  replace hc := cell_ext x1 okG hc
  replace hcl := cell_ext x1 okG hcl
  replace hcr := cell_ext x1 okG hcr
  refine Trip.ok fun ok1 => ?_
  replace ok1 : ∀ id o, H1 id = some o → id < nx1 := ok1
  repeat (first | (refine OpsL.q (by first | exact omv | exact ofa | exact old | exact oixa) ?_) | (refine Trip.seq ?_) | (refine Trip.ops ?_) | (refine Trip.skip ?_; (change Trip _ _ _ _ _)))
  by_cases h0 : m.of.getD p 0 = 0
  · refine OpsL.eqlT ?_ (c := h0)
    have hst : stateF m p = ((decide (((m.low.getD p []).length : Int) = m.closings) && areF m (m.low.getD p []) 0) && decide (((m.ret.getD p []).length : Int) = 0)) := by
      unfold stateF lowF retF
      rw [hpl, if_pos h0, if_pos h0]
      rfl
    rw [hst]
    replace h0 : decide (m.of.getD p 0 = 0) = true := decide_eq_true h0
    clear hst
    repeat (first | (refine OpsL.nil ?_; (change Trip _ _ _ _ _)))
    refine Trip.ifT ?_
    repeat (first | (refine Trip.seq ?_))
    refine OpsR.drawnW [8] (K := fun _ _ => True) mixed13 (by kernel_rfl) (by kernel_rfl) [0, 1, 2, 3, 4, 5, 6, 7, 8, 9, 10, 11, 12, 13, 14, 15, 16, 17, 18] (by kernel_rfl) trivial ?_
    refine OpsR.one rfl rfl rfl (by kernel_rfl) ?_
    refine OpsL.loadM (hb.ext x1 okG) ?_ (by (first | (simp only [ASt.ev, tmPut, ↓reduceIte, Nat.reduceEqDiff, *]; done))) (by subst_vars; decide)
    repeat (first | (refine OpsL.nil ?_; (dsimp only)))
    refine OpsR.one rfl rfl rfl (by kernel_rfl) ?_
    repeat (first | (refine OpsL.q (by exact ofa) ?_) | (refine OpsL.nil ?_; (dsimp only)))
    refine OpsR.one rfl rfl rfl (by kernel_rfl) ?_
    repeat (first | (refine OpsL.q (by exact old) ?_) | (refine OpsL.nil ?_; (skip)))
    refine OpsR.one rfl rfl rfl (by kernel_rfl) ?_
    repeat (first | (refine OpsL.q (by exact omv) ?_) | (refine OpsL.nil ?_; (skip)))
    refine OpsR.one rfl rfl rfl (by kernel_rfl) ?_
    repeat (first | (refine OpsL.q (by exact oixa) ?_) | (refine OpsL.nil ?_; (dsimp only)))
    refine OpsR.one rfl rfl rfl (by kernel_rfl) ?_
    repeat (first | (refine OpsL.q (by exact old) ?_) | (refine OpsL.nil ?_; (skip)))
    refine OpsR.one rfl rfl rfl (by kernel_rfl) ?_
    repeat (first | (refine OpsL.q (by exact ofa) ?_) | (refine OpsL.nil ?_; (dsimp only)))
    refine OpsR.one rfl rfl rfl (by kernel_rfl) ?_
    repeat (first | (refine OpsL.q (by exact old) ?_) | (refine OpsL.nil ?_; (skip)))
    refine OpsR.act (by kernel_rfl) (ActStep.walk rfl rfl ?_)
    refine OpsL.c4 (hf := entersRRow) (hc := (rrowC W0 (hG.ext x1 okG) hn (hlrow.ext x1 okG) ll _ _)) (h := ?_)
    rintro v2 nx2 H2 ⟨rfl, y2⟩
    refine OpsL.nil ⟨trivial, ?_⟩
    have d7 := cell_ext y2 ok1 c7
    have dcr := cell_ext y2 ok1 hcr
    cases hr : (decide (((m.low.getD p []).length : Int) = m.closings) && areF m (m.low.getD p []) 0)
    · skip
      refine OpsR.one rfl rfl rfl (by kernel_rfl) ?_
      repeat (first | (refine OpsL.q (by exact omv) ?_) | (refine OpsL.nil ?_; (skip)))
      refine OpsR.one rfl rfl rfl (by kernel_rfl) ?_
      repeat (first | (refine OpsL.nil ?_; (skip)) | (refine OpsL.skp ?_))
      refine OpsR.one rfl rfl rfl (by kernel_rfl) ?_
      repeat (first | (refine OpsL.nil ?_; (skip)) | (refine OpsL.skp ?_))
      refine OpsR.one rfl rfl rfl (by kernel_rfl) ?_
      repeat (first | (refine OpsL.nil ?_; (skip)) | (refine OpsL.skp ?_))
      refine OpsR.one rfl rfl rfl (by kernel_rfl) ?_
      repeat (first | (refine OpsL.nil ?_; (skip)) | (refine OpsL.skp ?_))
      refine OpsR.one rfl rfl rfl (by kernel_rfl) ?_
      repeat (first | (refine OpsL.nil ?_; (skip)) | (refine OpsL.skp ?_))
      refine OpsR.one rfl rfl rfl (by kernel_rfl) ?_
      repeat (first | (refine OpsL.nil ?_; (skip)) | (refine OpsL.skp ?_))
      refine OpsR.one rfl rfl rfl (by kernel_rfl) ?_
      repeat (first | (refine OpsL.nil ?_; (skip)) | (refine OpsL.skp ?_))
      refine OpsR.one rfl rfl rfl (by kernel_rfl) ?_
      repeat (first | (refine OpsL.q (by exact opkF) ?_) | (refine OpsL.nil ?_; (skip)))
      refine OpsR.one rfl rfl rfl (by kernel_rfl) ?_
      repeat (first | (refine OpsL.q (by exact oasg) ?_) | (refine OpsL.nil ?_; (skip)))
      refine OpsR.nil ?_
      (change Trip _ _ _ _ _)
      repeat (first | (refine Trip.ret ?_; (dsimp only)))
      exact ⟨.inr rfl, _, res_tmp, by simp [tmPut], (x0.trans x1).trans y2⟩
    · skip
      refine OpsR.one rfl rfl rfl (by kernel_rfl) ?_
      repeat (first | (refine OpsL.q (by exact omv) ?_) | (refine OpsL.nil ?_; (skip)))
      refine OpsR.one rfl rfl rfl (by kernel_rfl) ?_
      repeat (first | (refine OpsL.q (by exact ofa) ?_) | (refine OpsL.nil ?_; (dsimp only)) | (refine OpsL.ung ?_))
      refine OpsR.one rfl rfl rfl (by kernel_rfl) ?_
      repeat (first | (refine OpsL.q (by exact old) ?_) | (refine OpsL.nil ?_; (skip)) | (refine OpsL.ung ?_))
      refine OpsR.one rfl rfl rfl (by kernel_rfl) ?_
      repeat (first | (refine OpsL.q (by exact omv) ?_) | (refine OpsL.nil ?_; (skip)) | (refine OpsL.ung ?_))
      refine OpsR.one rfl rfl rfl (by kernel_rfl) ?_
      repeat (first | (refine OpsL.q (by exact oixa) ?_) | (refine OpsL.nil ?_; (dsimp only)) | (refine OpsL.ung ?_))
      refine OpsR.one rfl rfl rfl (by kernel_rfl) ?_
      repeat (first | (refine OpsL.q (by exact old) ?_) | (refine OpsL.nil ?_; (skip)) | (refine OpsL.ung ?_))
      refine OpsR.one rfl rfl rfl (by kernel_rfl) ?_
      repeat (first | (refine OpsL.q (by exact olen) ?_) | (refine OpsL.nil ?_; (skip)) | (refine OpsL.ung ?_))
      refine OpsR.one rfl rfl rfl (by kernel_rfl) ?_
      repeat (first | (refine OpsL.q (by exact oeql) ?_) | (refine OpsL.nil ?_; (skip)) | (refine OpsL.ung ?_))
      refine OpsR.one rfl rfl rfl (by kernel_rfl) ?_
      repeat (first | (refine OpsL.q (by exact opkT) ?_) | (refine OpsL.nil ?_; (skip)))
      refine OpsR.one rfl rfl rfl (by kernel_rfl) ?_
      repeat (first | (refine OpsL.q (by exact oasg) ?_) | (refine OpsL.nil ?_; (skip)))
      refine OpsR.nil ?_
      (change Trip _ _ _ _ _)
      repeat (first | (refine Trip.ret ?_; (dsimp only)))
      exact ⟨.inr rfl, _, res_tmp, by simp [tmPut], (x0.trans x1).trans y2⟩
  refine OpsL.eqlF ?_ (c := h0)
  have hst : stateF m p = (decide (((m.low.getD p []).length : Int) = 0) && (decide (((m.ret.getD p []).length : Int) = m.closings) && allN (m.ret.getD p []).length fun j => rowF m ((m.ret.getD p []).getD j []))) := by
    unfold stateF lowF retF
    rw [hpl, if_neg h0, if_neg h0]
    rfl
  rw [hst]
  replace h0 : decide (m.of.getD p 0 = 0) = false := decide_eq_false h0
  clear hst
  repeat (first | (refine OpsL.nil ?_; (change Trip _ _ _ _ _)))
  refine Trip.ifF ?_
  repeat (first | (refine Trip.seq ?_) | (refine Trip.skip ?_; (change Trip _ _ _ _ _)))
  obtain ⟨L, hL⟩ : ∃ L, m.ret.getD p [] = L := ⟨_, rfl⟩
  rw [hL] at hcr hrrow lr lr2 ⊢
  refine Trip.mono (Q := fun e st => e = .normal ∧ ∃ (tm' : Nat → Value), st = ⟨tm', n, H1, nx1⟩ ∧ tm' 1 = .int .i64 p ∧ tm' 2 = .pointer (some ⟨nx, 0, none⟩) ∧ tm' 64 = .bool (!(decide (((m.low.getD p []).length : Int) = 0) && decide ((L.length : Int) = m.closings)))) ?_ ?_
  · refine OpsR.drawnW [] (K := fun _ _ => True) mixed13 (by kernel_rfl) (by kernel_rfl) [0, 1, 2, 3, 4, 5, 6, 7, 8, 9, 10, 11, 12, 13, 14, 15, 16, 17] (by kernel_rfl) trivial ?_
    refine OpsR.one rfl rfl rfl (by kernel_rfl) ?_
    repeat (first | (refine OpsL.q (by exact ofa) ?_) | (refine OpsL.nil ?_; (dsimp only)))
    refine OpsR.one rfl rfl rfl (by kernel_rfl) ?_
    repeat (first | (refine OpsL.q (by exact old) ?_) | (refine OpsL.nil ?_; (skip)))
    refine OpsR.one rfl rfl rfl (by kernel_rfl) ?_
    repeat (first | (refine OpsL.q (by exact omv) ?_) | (refine OpsL.nil ?_; (skip)))
    refine OpsR.one rfl rfl rfl (by kernel_rfl) ?_
    repeat (first | (refine OpsL.q (by exact oixa) ?_) | (refine OpsL.nil ?_; (dsimp only)))
    refine OpsR.one rfl rfl rfl (by kernel_rfl) ?_
    repeat (first | (refine OpsL.q (by exact old) ?_) | (refine OpsL.nil ?_; (skip)))
    refine OpsR.one rfl rfl rfl (by kernel_rfl) ?_
    repeat (first | (refine OpsL.q (by exact olen) ?_) | (refine OpsL.nil ?_; (skip)))
    refine OpsR.one rfl rfl rfl (by kernel_rfl) ?_
    cases hd : decide (((m.low.getD p []).length : Int) = 0)
    · refine OpsL.neqT ?_ (c := of_decide_eq_false hd)
      refine OpsL.nil ?_
      refine OpsR.one rfl rfl rfl (by kernel_rfl) ?_
      repeat (first | (refine OpsL.q (by exact omv) ?_) | (refine OpsL.nil ?_; (skip)))
      refine OpsR.one rfl rfl rfl (by kernel_rfl) ?_
      repeat (first | (refine OpsL.nil ?_; (skip)) | (refine OpsL.skp ?_))
      refine OpsR.one rfl rfl rfl (by kernel_rfl) ?_
      repeat (first | (refine OpsL.nil ?_; (skip)) | (refine OpsL.skp ?_))
      refine OpsR.one rfl rfl rfl (by kernel_rfl) ?_
      repeat (first | (refine OpsL.nil ?_; (skip)) | (refine OpsL.skp ?_))
      refine OpsR.one rfl rfl rfl (by kernel_rfl) ?_
      repeat (first | (refine OpsL.nil ?_; (skip)) | (refine OpsL.skp ?_))
      refine OpsR.one rfl rfl rfl (by kernel_rfl) ?_
      repeat (first | (refine OpsL.nil ?_; (skip)) | (refine OpsL.skp ?_))
      refine OpsR.one rfl rfl rfl (by kernel_rfl) ?_
      repeat (first | (refine OpsL.nil ?_; (skip)) | (refine OpsL.skp ?_))
      refine OpsR.one rfl rfl rfl (by kernel_rfl) ?_
      repeat (first | (refine OpsL.nil ?_; (skip)) | (refine OpsL.skp ?_))
      refine OpsR.one rfl rfl rfl (by kernel_rfl) ?_
      repeat (first | (refine OpsL.nil ?_; (skip)) | (refine OpsL.skp ?_))
      refine OpsR.one rfl rfl rfl (by kernel_rfl) ?_
      repeat (first | (refine OpsL.nil ?_; (skip)) | (refine OpsL.skp ?_))
      refine OpsR.one rfl rfl rfl (by kernel_rfl) ?_
      repeat (first | (refine OpsL.q (by exact opkT) ?_) | (refine OpsL.nil ?_; (skip)))
      refine OpsR.nil ?_
      exact ⟨rfl, _, rfl, by simp [tmPut, *], by simp [tmPut, *], by simp [tmPut]⟩
    · refine OpsL.neqF ?_ (c := of_decide_eq_true hd)
      refine OpsL.nil ?_
      refine OpsR.one rfl rfl rfl (by kernel_rfl) ?_
      repeat (first | (refine OpsL.q (by exact omv) ?_) | (refine OpsL.nil ?_; (skip)))
      refine OpsR.one rfl rfl rfl (by kernel_rfl) ?_
      repeat (first | (refine OpsL.q (by exact ofa) ?_) | (refine OpsL.nil ?_; (dsimp only)) | (refine OpsL.ung ?_))
      refine OpsR.one rfl rfl rfl (by kernel_rfl) ?_
      repeat (first | (refine OpsL.q (by exact old) ?_) | (refine OpsL.nil ?_; (skip)) | (refine OpsL.ung ?_))
      refine OpsR.one rfl rfl rfl (by kernel_rfl) ?_
      repeat (first | (refine OpsL.q (by exact omv) ?_) | (refine OpsL.nil ?_; (skip)) | (refine OpsL.ung ?_))
      refine OpsR.one rfl rfl rfl (by kernel_rfl) ?_
      repeat (first | (refine OpsL.q (by exact oixa) ?_) | (refine OpsL.nil ?_; (dsimp only)) | (refine OpsL.ung ?_))
      refine OpsR.one rfl rfl rfl (by kernel_rfl) ?_
      repeat (first | (refine OpsL.q (by exact old) ?_) | (refine OpsL.nil ?_; (skip)) | (refine OpsL.ung ?_))
      refine OpsR.one rfl rfl rfl (by kernel_rfl) ?_
      repeat (first | (refine OpsL.q (by exact olen) ?_) | (refine OpsL.nil ?_; (skip)) | (refine OpsL.ung ?_))
      refine OpsR.one rfl rfl rfl (by kernel_rfl) ?_
      repeat (first | (refine OpsL.q (by exact ofa) ?_) | (refine OpsL.nil ?_; (dsimp only)) | (refine OpsL.ung ?_))
      refine OpsR.one rfl rfl rfl (by kernel_rfl) ?_
      repeat (first | (refine OpsL.q (by exact old) ?_) | (refine OpsL.nil ?_; (skip)) | (refine OpsL.ung ?_))
      refine OpsR.one rfl rfl rfl (by kernel_rfl) ?_
      refine OpsL.ung ?_
      cases hd2 : decide ((L.length : Int) = m.closings)
      · refine OpsL.neqT ?_ (c := of_decide_eq_false hd2)
        refine OpsL.nil ?_
        refine OpsR.one rfl rfl rfl (by kernel_rfl) ?_
        repeat (first | (refine OpsL.q (by exact opkF) ?_) | (refine OpsL.nil ?_; (skip)))
        refine OpsR.nil ?_
        exact ⟨rfl, _, rfl, by simp [tmPut, *], by simp [tmPut, *], by simp [tmPut]⟩
      · refine OpsL.neqF ?_ (c := of_decide_eq_true hd2)
        refine OpsL.nil ?_
        refine OpsR.one rfl rfl rfl (by kernel_rfl) ?_
        repeat (first | (refine OpsL.q (by exact opkF) ?_) | (refine OpsL.nil ?_; (skip)))
        refine OpsR.nil ?_
        exact ⟨rfl, _, rfl, by simp [tmPut, *], by simp [tmPut, *], by simp [tmPut]⟩
  clear e1 e2
  rintro e st ⟨rfl, tm, rfl, e1, e2, e64⟩
  (change Trip _ _ _ _ _)
  rw [← Bool.and_assoc]
  cases hd : (decide (((m.low.getD p []).length : Int) = 0) && decide ((L.length : Int) = m.closings))
  · rw [hd] at e64
    replace e64 : tm 64 = .bool true := e64
    repeat fail
    refine Trip.ifT ?_
    repeat (first | (refine OpsL.q (by exact oasg) ?_) | (refine Trip.seq ?_) | (refine Trip.ops ?_) | (refine Trip.ret ?_; (dsimp only)) | (refine OpsL.nil ?_; (change Trip _ _ _ _ _)))
    exact ⟨.inr rfl, _, res_tmp, rfl, x0.trans x1⟩
  rw [hd] at e64
  replace e64 : tm 64 = .bool false := e64
  repeat fail
  refine Trip.ifF ?_
  rw [Bool.true_and]
  rw [Bool.and_eq_true] at hd
  have hcls : m.closings = (L.length : Int) := (of_decide_eq_true hd.2).symm
  rw [hcls] at c1
  clear hd e64 hcls
  repeat (first | (refine OpsL.q (by exact oasg) ?_) | (refine Trip.seq ?_) | (refine Trip.ops ?_) | (refine Trip.block ?_) | (refine Trip.skip ?_; (change Trip _ _ _ _ _)) | (refine OpsL.nil ?_; (change Trip _ _ _ _ _)))
  refine Trip.inv (fun (i : Nat) s => ∃ (tm : Nat → Value), s = ⟨tm, n, H1, nx1⟩ ∧ tm 1 = .int .i64 p ∧ tm 2 = .pointer (some ⟨nx, 0, none⟩) ∧ tm 5 = .int .i64 i ∧ i ≤ L.length ∧ allN i (fun j => rowF m (L.getD j [])) = true) (fun i => L.length - i) 0 ?_ ?_
  · exact ⟨_, rfl, by simp [tmPut, *], by simp [tmPut, *], by simp [tmPut, *], by omega, allN_zero⟩
  clear e1 e2
  rintro i s ⟨tm, rfl, e1, e2, e5, hi, hall⟩
  repeat (first | (refine OpsL.q (by first | exact omv | exact ofa | exact old | exact olss) ?_) | (refine Trip.seq ?_) | (refine Trip.ops ?_) | (refine Trip.block ?_) | (refine Trip.itA (fun _ => ?_) (fun _ => ?_)) | (refine Trip.skip ?_; (change Trip _ _ _ _ _)) | (refine OpsL.nil ?_; (change Trip _ _ _ _ _)))
  · have hlt : i < L.length := by omega
    obtain ⟨q2, sb, sk, rfl, hc2, hrow2⟩ := L2At.atI (hrrow.ext x1 okG) (show (0 : Int) ≤ i by omega) (show (i : Int) < L.length by omega)
    simp only [Int.toNat_natCast] at hc2 hrow2
    have hl3 := lr2 i
    obtain ⟨R, hR⟩ : ∃ R, L.getD i [] = R := ⟨_, rfl⟩
    rw [hR] at hc2 hrow2 hl3
    repeat fail
    refine Trip.mono (Q := fun e st => e = .normal ∧ ∃ (tm' : Nat → Value), st = ⟨tm', n, H1, nx1⟩ ∧ tm' 1 = .int .i64 p ∧ tm' 2 = .pointer (some ⟨nx, 0, none⟩) ∧ tm' 5 = .int .i64 i ∧ tm' 83 = .bool (!decide ((R.length : Int) = m.of.length))) ?_ ?_
    · refine OpsR.drawnW [] (K := fun _ _ => True) mixed13 (by kernel_rfl) (by kernel_rfl) [0, 1, 2, 3, 4, 5, 6, 7, 8, 9, 10, 11, 12] (by kernel_rfl) trivial ?_
      refine OpsR.one rfl rfl rfl (by kernel_rfl) ?_
      repeat (first | (refine OpsL.q (by exact ofa) ?_) | (refine OpsL.nil ?_; (dsimp only)))
      refine OpsR.one rfl rfl rfl (by kernel_rfl) ?_
      repeat (first | (refine OpsL.q (by exact old) ?_) | (refine OpsL.nil ?_; (skip)))
      refine OpsR.one rfl rfl rfl (by kernel_rfl) ?_
      repeat (first | (refine OpsL.q (by exact omv) ?_) | (refine OpsL.nil ?_; (skip)))
      refine OpsR.one rfl rfl rfl (by kernel_rfl) ?_
      repeat (first | (refine OpsL.q (by exact oixa) ?_) | (refine OpsL.nil ?_; (dsimp only)))
      refine OpsR.one rfl rfl rfl (by kernel_rfl) ?_
      repeat (first | (refine OpsL.q (by exact old) ?_) | (refine OpsL.nil ?_; (skip)))
      refine OpsR.one rfl rfl rfl (by kernel_rfl) ?_
      repeat (first | (refine OpsL.q (by exact omv) ?_) | (refine OpsL.nil ?_; (skip)))
      refine OpsR.one rfl rfl rfl (by kernel_rfl) ?_
      repeat (first | (refine OpsL.q (by exact oixa) ?_) | (refine OpsL.nil ?_; (dsimp only)))
      refine OpsR.one rfl rfl rfl (by kernel_rfl) ?_
      repeat (first | (refine OpsL.q (by exact old) ?_) | (refine OpsL.nil ?_; (skip)))
      refine OpsR.one rfl rfl rfl (by kernel_rfl) ?_
      repeat (first | (refine OpsL.q (by exact olen) ?_) | (refine OpsL.nil ?_; (skip)))
      refine OpsR.one rfl rfl rfl (by kernel_rfl) ?_
      repeat (first | (refine OpsL.q (by exact ofa) ?_) | (refine OpsL.nil ?_; (dsimp only)))
      refine OpsR.one rfl rfl rfl (by kernel_rfl) ?_
      repeat (first | (refine OpsL.q (by exact old) ?_) | (refine OpsL.nil ?_; (skip)))
      refine OpsR.one rfl rfl rfl (by kernel_rfl) ?_
      repeat (first | (refine OpsL.q (by exact olen) ?_) | (refine OpsL.nil ?_; (skip)))
      refine OpsR.one rfl rfl rfl (by kernel_rfl) ?_
      cases hd : decide ((R.length : Int) = m.of.length)
      · refine OpsL.neqT ?_ (c := of_decide_eq_false hd)
        refine OpsL.nil ?_
        refine OpsR.nil ?_
        exact ⟨rfl, _, rfl, by simp [tmPut, *], by simp [tmPut, *], by simp [tmPut, *], by simp [tmPut]⟩
      · refine OpsL.neqF ?_ (c := of_decide_eq_true hd)
        refine OpsL.nil ?_
        refine OpsR.nil ?_
        exact ⟨rfl, _, rfl, by simp [tmPut, *], by simp [tmPut, *], by simp [tmPut, *], by simp [tmPut]⟩
    clear e1 e2 e5
    rintro e st ⟨rfl, tm, rfl, e1, e2, e5, e83⟩
    (change Trip _ _ _ _ _)
    cases hd : decide ((R.length : Int) = m.of.length)
    · rw [hd] at e83
      replace e83 : tm 83 = .bool true := e83
      repeat fail
      refine Trip.ifT ?_
      repeat (first | (refine OpsL.q (by exact oasg) ?_) | (refine Trip.seq ?_) | (refine Trip.ops ?_) | (refine Trip.ret ?_; ((repeat (refine blockExit_ret ?_)); dsimp only)) | (refine OpsL.nil ?_; (change Trip _ _ _ _ _)))
      exact ⟨.inr rfl, _, res_tmp, by rw [allN_no hlt (show rowF m (L.getD i []) = false by unfold rowF; rw [hR, hd]; rfl)]; rfl, x0.trans x1⟩
    rw [hd] at e83
    replace e83 : tm 83 = .bool false := e83
    have hRl : (R.length : Int) = m.of.length := of_decide_eq_true hd
    have hrow3 : rowF m (L.getD i []) = allN R.length fun q => inF m (R.getD q 0) (m.of.getD q 0) := by unfold rowF; rw [hR, hd]; rfl
    repeat fail
    refine Trip.ifF ?_
    repeat (first | (refine OpsL.q (by exact oasg) ?_) | (refine Trip.seq ?_) | (refine Trip.ops ?_) | (refine Trip.block ?_) | (refine Trip.skip ?_; (change Trip _ _ _ _ _)) | (refine OpsL.nil ?_; (change Trip _ _ _ _ _)))
    refine Trip.inv (fun (j : Nat) s => ∃ (tm : Nat → Value), s = ⟨tm, n, H1, nx1⟩ ∧ tm 1 = .int .i64 p ∧ tm 2 = .pointer (some ⟨nx, 0, none⟩) ∧ tm 5 = .int .i64 i ∧ tm 6 = .int .i64 j ∧ j ≤ R.length ∧ allN j (fun q => inF m (R.getD q 0) (m.of.getD q 0)) = true) (fun j => R.length - j) 0 ?_ ?_
    · exact ⟨_, rfl, by simp [tmPut, *], by simp [tmPut, *], by simp [tmPut, *], by simp [tmPut, *], by omega, allN_zero⟩
    clear e1 e2 e5 e83 hd
    rintro j s ⟨tm, rfl, e1, e2, e5, e6, hj, hallj⟩
    repeat (first | (refine OpsL.q (by first | exact omv | exact ofa | exact old | exact olen | exact olss) ?_) | (refine Trip.seq ?_) | (refine Trip.ops ?_) | (refine Trip.block ?_) | (refine Trip.itA (fun _ => ?_) (fun _ => ?_)) | (refine Trip.skip ?_; (change Trip _ _ _ _ _)) | (refine OpsL.nil ?_; (change Trip _ _ _ _ _)))
    · have hltj : j < R.length := by omega
      have hltj2 : j < m.of.length := by omega
      obtain ⟨q3, rfl, hc3⟩ := IntsAt.atI hrow2 (show (0 : Int) ≤ j by omega) (show (j : Int) < R.length by omega)
      obtain ⟨q4, hq4, hc4⟩ := IntsAt.atI (oh.ext x1 okG) (show (0 : Int) ≤ j by omega) (show (j : Int) < m.of.length by omega)
      cases hq4
      simp only [Int.toNat_natCast] at hc3 hc4
      obtain ⟨x, hx⟩ : ∃ x, R.getD j 0 = x := ⟨_, rfl⟩
      obtain ⟨kk, hkk⟩ : ∃ x, m.of.getD j 0 = x := ⟨_, rfl⟩
      rw [hx] at hc3
      rw [hkk] at hc4
      repeat (first | (refine OpsL.q (by first | exact omv | exact old | exact oixa | exact oasg) ?_) | (refine Trip.seq ?_) | (refine OpsL.nil ?_; (change Trip _ _ _ _ _)))
      refine Trip.mono (Q := fun e st => e = .normal ∧ ∃ (tm' : Nat → Value), st = ⟨tm', n, H1, nx1⟩ ∧ tm' 1 = .int .i64 p ∧ tm' 2 = .pointer (some ⟨nx, 0, none⟩) ∧ tm' 5 = .int .i64 i ∧ tm' 6 = .int .i64 j ∧ tm' 123 = .bool (!inF m x kk)) ?_ ?_
      · refine OpsR.drawnW [] (K := fun _ _ => True) mixed13 (by kernel_rfl) (by kernel_rfl) [0, 1, 2, 3, 4, 5, 6, 7, 8, 9, 10, 11, 12, 13, 14, 15, 16, 17, 18, 19, 20, 21] (by kernel_rfl) trivial ?_
        refine OpsR.one rfl rfl rfl (by kernel_rfl) ?_
        repeat (first | (refine OpsL.q (by exact omv) ?_) | (refine OpsL.nil ?_; (dsimp only)))
        refine OpsR.one rfl rfl rfl (by kernel_rfl) ?_
        by_cases h0 : x < 0
        · refine OpsL.lssT ?_ (c := h0)
          have hF : inF m x kk = false := decide_eq_false fun q => by omega
          refine OpsL.nil ?_
          refine OpsR.one rfl rfl rfl (by kernel_rfl) ?_
          repeat (first | (refine OpsL.q (by exact omv) ?_) | (refine OpsL.nil ?_; (skip)))
          refine OpsR.one rfl rfl rfl (by kernel_rfl) ?_
          repeat (first | (refine OpsL.nil ?_; (skip)) | (refine OpsL.skp ?_))
          refine OpsR.one rfl rfl rfl (by kernel_rfl) ?_
          repeat (first | (refine OpsL.nil ?_; (skip)) | (refine OpsL.skp ?_))
          refine OpsR.one rfl rfl rfl (by kernel_rfl) ?_
          repeat (first | (refine OpsL.nil ?_; (skip)) | (refine OpsL.skp ?_))
          refine OpsR.one rfl rfl rfl (by kernel_rfl) ?_
          repeat (first | (refine OpsL.nil ?_; (skip)) | (refine OpsL.skp ?_))
          refine OpsR.one rfl rfl rfl (by kernel_rfl) ?_
          repeat (first | (refine OpsL.nil ?_; (skip)) | (refine OpsL.skp ?_))
          refine OpsR.one rfl rfl rfl (by kernel_rfl) ?_
          repeat (first | (refine OpsL.q (by exact opkT) ?_) | (refine OpsL.nil ?_; (skip)))
          refine OpsR.one rfl rfl rfl (by kernel_rfl) ?_
          repeat (first | (refine OpsL.q (by exact omv) ?_) | (refine OpsL.nil ?_; (skip)))
          refine OpsR.one rfl rfl rfl (by kernel_rfl) ?_
          repeat (first | (refine OpsL.nil ?_; (skip)) | (refine OpsL.skp ?_))
          refine OpsR.one rfl rfl rfl (by kernel_rfl) ?_
          repeat (first | (refine OpsL.nil ?_; (skip)) | (refine OpsL.skp ?_))
          refine OpsR.one rfl rfl rfl (by kernel_rfl) ?_
          repeat (first | (refine OpsL.nil ?_; (skip)) | (refine OpsL.skp ?_))
          refine OpsR.one rfl rfl rfl (by kernel_rfl) ?_
          repeat (first | (refine OpsL.nil ?_; (skip)) | (refine OpsL.skp ?_))
          refine OpsR.one rfl rfl rfl (by kernel_rfl) ?_
          repeat (first | (refine OpsL.nil ?_; (skip)) | (refine OpsL.skp ?_))
          refine OpsR.one rfl rfl rfl (by kernel_rfl) ?_
          repeat (first | (refine OpsL.nil ?_; (skip)) | (refine OpsL.skp ?_))
          refine OpsR.one rfl rfl rfl (by kernel_rfl) ?_
          repeat (first | (refine OpsL.nil ?_; (skip)) | (refine OpsL.skp ?_))
          refine OpsR.one rfl rfl rfl (by kernel_rfl) ?_
          repeat (first | (refine OpsL.nil ?_; (skip)) | (refine OpsL.skp ?_))
          refine OpsR.one rfl rfl rfl (by kernel_rfl) ?_
          repeat (first | (refine OpsL.nil ?_; (skip)) | (refine OpsL.skp ?_))
          refine OpsR.one rfl rfl rfl (by kernel_rfl) ?_
          repeat (first | (refine OpsL.nil ?_; (skip)) | (refine OpsL.skp ?_))
          refine OpsR.one rfl rfl rfl (by kernel_rfl) ?_
          repeat (first | (refine OpsL.nil ?_; (skip)) | (refine OpsL.skp ?_))
          refine OpsR.one rfl rfl rfl (by kernel_rfl) ?_
          repeat (first | (refine OpsL.q (by exact opkT) ?_) | (refine OpsL.nil ?_; (skip)))
          refine OpsR.nil ?_
          exact ⟨rfl, _, rfl, by simp [tmPut, *], by simp [tmPut, *], by simp [tmPut, *], by simp [tmPut, *], by simp [tmPut, *]⟩
        refine OpsL.lssF ?_ (c := h0)
        refine OpsL.nil ?_
        refine OpsR.one rfl rfl rfl (by kernel_rfl) ?_
        repeat (first | (refine OpsL.q (by exact omv) ?_) | (refine OpsL.nil ?_; (skip)))
        refine OpsR.one rfl rfl rfl (by kernel_rfl) ?_
        repeat (first | (refine OpsL.q (by exact omv) ?_) | (refine OpsL.nil ?_; (skip)) | (refine OpsL.ung ?_))
        refine OpsR.one rfl rfl rfl (by kernel_rfl) ?_
        repeat (first | (refine OpsL.q (by exact ofa) ?_) | (refine OpsL.nil ?_; (dsimp only)) | (refine OpsL.ung ?_))
        refine OpsR.one rfl rfl rfl (by kernel_rfl) ?_
        repeat (first | (refine OpsL.q (by exact old) ?_) | (refine OpsL.nil ?_; (skip)) | (refine OpsL.ung ?_))
        refine OpsR.one rfl rfl rfl (by kernel_rfl) ?_
        repeat (first | (refine OpsL.q (by exact olen) ?_) | (refine OpsL.nil ?_; (skip)) | (refine OpsL.ung ?_))
        refine OpsR.one rfl rfl rfl (by kernel_rfl) ?_
        refine OpsL.ung ?_
        by_cases h1 : (m.of.length : Int) ≤ x
        · refine OpsL.geqT ?_ (c := h1)
          have hF : inF m x kk = false := decide_eq_false fun q => by omega
          refine OpsL.nil ?_
          refine OpsR.one rfl rfl rfl (by kernel_rfl) ?_
          repeat (first | (refine OpsL.q (by exact opkF) ?_) | (refine OpsL.nil ?_; (skip)))
          refine OpsR.one rfl rfl rfl (by kernel_rfl) ?_
          repeat (first | (refine OpsL.q (by exact omv) ?_) | (refine OpsL.nil ?_; (skip)))
          refine OpsR.one rfl rfl rfl (by kernel_rfl) ?_
          repeat (first | (refine OpsL.nil ?_; (skip)) | (refine OpsL.skp ?_))
          refine OpsR.one rfl rfl rfl (by kernel_rfl) ?_
          repeat (first | (refine OpsL.nil ?_; (skip)) | (refine OpsL.skp ?_))
          refine OpsR.one rfl rfl rfl (by kernel_rfl) ?_
          repeat (first | (refine OpsL.nil ?_; (skip)) | (refine OpsL.skp ?_))
          refine OpsR.one rfl rfl rfl (by kernel_rfl) ?_
          repeat (first | (refine OpsL.nil ?_; (skip)) | (refine OpsL.skp ?_))
          refine OpsR.one rfl rfl rfl (by kernel_rfl) ?_
          repeat (first | (refine OpsL.nil ?_; (skip)) | (refine OpsL.skp ?_))
          refine OpsR.one rfl rfl rfl (by kernel_rfl) ?_
          repeat (first | (refine OpsL.nil ?_; (skip)) | (refine OpsL.skp ?_))
          refine OpsR.one rfl rfl rfl (by kernel_rfl) ?_
          repeat (first | (refine OpsL.nil ?_; (skip)) | (refine OpsL.skp ?_))
          refine OpsR.one rfl rfl rfl (by kernel_rfl) ?_
          repeat (first | (refine OpsL.nil ?_; (skip)) | (refine OpsL.skp ?_))
          refine OpsR.one rfl rfl rfl (by kernel_rfl) ?_
          repeat (first | (refine OpsL.nil ?_; (skip)) | (refine OpsL.skp ?_))
          refine OpsR.one rfl rfl rfl (by kernel_rfl) ?_
          repeat (first | (refine OpsL.nil ?_; (skip)) | (refine OpsL.skp ?_))
          refine OpsR.one rfl rfl rfl (by kernel_rfl) ?_
          repeat (first | (refine OpsL.nil ?_; (skip)) | (refine OpsL.skp ?_))
          refine OpsR.one rfl rfl rfl (by kernel_rfl) ?_
          repeat (first | (refine OpsL.q (by exact opkT) ?_) | (refine OpsL.nil ?_; (skip)))
          refine OpsR.nil ?_
          exact ⟨rfl, _, rfl, by simp [tmPut, *], by simp [tmPut, *], by simp [tmPut, *], by simp [tmPut, *], by simp [tmPut, *]⟩
        refine OpsL.geqF ?_ (c := h1)
        refine OpsL.nil ?_
        obtain ⟨q5, hq5, hc5⟩ := IntsAt.atI (oh.ext x1 okG) (show 0 ≤ x by omega) (show x < m.of.length by omega)
        cases hq5
        refine OpsR.one rfl rfl rfl (by kernel_rfl) ?_
        repeat (first | (refine OpsL.q (by exact opkF) ?_) | (refine OpsL.nil ?_; (skip)))
        refine OpsR.one rfl rfl rfl (by kernel_rfl) ?_
        repeat (first | (refine OpsL.q (by exact omv) ?_) | (refine OpsL.nil ?_; (skip)))
        refine OpsR.one rfl rfl rfl (by kernel_rfl) ?_
        repeat (first | (refine OpsL.q (by exact ofa) ?_) | (refine OpsL.nil ?_; (dsimp only)) | (refine OpsL.ung ?_))
        refine OpsR.one rfl rfl rfl (by kernel_rfl) ?_
        repeat (first | (refine OpsL.q (by exact old) ?_) | (refine OpsL.nil ?_; (skip)) | (refine OpsL.ung ?_))
        refine OpsR.one rfl rfl rfl (by kernel_rfl) ?_
        repeat (first | (refine OpsL.q (by exact omv) ?_) | (refine OpsL.nil ?_; (skip)) | (refine OpsL.ung ?_))
        refine OpsR.one rfl rfl rfl (by kernel_rfl) ?_
        repeat (first | (refine OpsL.q (by exact oixa) ?_) | (refine OpsL.nil ?_; (dsimp only)) | (refine OpsL.ung ?_))
        refine OpsR.one rfl rfl rfl (by kernel_rfl) ?_
        repeat (first | (refine OpsL.q (by exact old) ?_) | (refine OpsL.nil ?_; (skip)) | (refine OpsL.ung ?_))
        refine OpsR.one rfl rfl rfl (by kernel_rfl) ?_
        repeat (first | (refine OpsL.q (by exact ofa) ?_) | (refine OpsL.nil ?_; (dsimp only)) | (refine OpsL.ung ?_))
        refine OpsR.one rfl rfl rfl (by kernel_rfl) ?_
        repeat (first | (refine OpsL.q (by exact old) ?_) | (refine OpsL.nil ?_; (skip)) | (refine OpsL.ung ?_))
        refine OpsR.one rfl rfl rfl (by kernel_rfl) ?_
        repeat (first | (refine OpsL.q (by exact omv) ?_) | (refine OpsL.nil ?_; (skip)) | (refine OpsL.ung ?_))
        refine OpsR.one rfl rfl rfl (by kernel_rfl) ?_
        repeat (first | (refine OpsL.q (by exact oixa) ?_) | (refine OpsL.nil ?_; (dsimp only)) | (refine OpsL.ung ?_))
        refine OpsR.one rfl rfl rfl (by kernel_rfl) ?_
        repeat (first | (refine OpsL.q (by exact old) ?_) | (refine OpsL.nil ?_; (skip)) | (refine OpsL.ung ?_))
        refine OpsR.one rfl rfl rfl (by kernel_rfl) ?_
        refine OpsL.ung ?_
        by_cases h2 : m.of.getD x.toNat 0 = kk
        · refine OpsL.neqF ?_ (c := h2)
          have hF : inF m x kk = true := decide_eq_true ⟨⟨by omega, by omega⟩, h2⟩
          clear h2
          refine OpsL.nil ?_
          refine OpsR.one rfl rfl rfl (by kernel_rfl) ?_
          repeat (first | (refine OpsL.q (by exact opkF) ?_) | (refine OpsL.nil ?_; (skip)))
          refine OpsR.nil ?_
          exact ⟨rfl, _, rfl, by simp [tmPut, *], by simp [tmPut, *], by simp [tmPut, *], by simp [tmPut, *], by simp [tmPut, *]⟩
        · refine OpsL.neqT ?_ (c := h2)
          have hF : inF m x kk = false := decide_eq_false fun q => h2 q.2
          clear h2
          refine OpsL.nil ?_
          refine OpsR.one rfl rfl rfl (by kernel_rfl) ?_
          repeat (first | (refine OpsL.q (by exact opkF) ?_) | (refine OpsL.nil ?_; (skip)))
          refine OpsR.nil ?_
          exact ⟨rfl, _, rfl, by simp [tmPut, *], by simp [tmPut, *], by simp [tmPut, *], by simp [tmPut, *], by simp [tmPut, *]⟩
      clear e1 e2 e5 e6
      rintro e st ⟨rfl, tm, rfl, e1, e2, e5, e6, e123⟩
      (change Trip _ _ _ _ _)
      cases hs : inF m x kk
      · rw [hs] at e123
        replace e123 : tm 123 = .bool true := e123
        repeat fail
        refine Trip.ifT ?_
        repeat (first | (refine OpsL.q (by exact oasg) ?_) | (refine Trip.seq ?_) | (refine Trip.ops ?_) | (refine Trip.ret ?_; ((repeat (refine blockExit_ret ?_)); dsimp only)) | (refine OpsL.nil ?_; (change Trip _ _ _ _ _)))
        exact ⟨.inr rfl, _, res_tmp, by rw [allN_no hlt (hrow3.trans (allN_no hltj (by rw [hx, hkk]; exact hs)))]; rfl, x0.trans x1⟩
      · rw [hs] at e123
        replace e123 : tm 123 = .bool false := e123
        repeat fail
        refine Trip.ifF ?_
        repeat (first | (refine OpsL.q (by first | exact omv | exact oasg | exact oadd) ?_) | (refine Trip.ops ?_) | (refine Trip.skip ?_; ((repeat (refine blockExit_normal ?_)); change Trip _ _ _ _ _)) | (refine OpsL.nil ?_; (dsimp only)))
        exact ⟨j + 1, ⟨_, rfl, by simp [tmPut, *], by simp [tmPut, *], by simp [tmPut, *], by simp [tmPut, *], by omega, allN_put hallj (by rw [hx, hkk]; exact hs)⟩, by omega⟩
    · repeat (first | (refine OpsL.q (by exact omv) ?_) | (refine Trip.ops ?_) | (refine Trip.exit ?_; ((repeat (first | refine blockExit_eq ?_ | refine blockExit_normal ?_)); change Trip _ _ _ _ _)))
      have hj2 : j = R.length := by omega
      subst hj2
      repeat (first | (refine OpsL.q (by first | exact oasg | exact oadd) ?_) | (refine OpsL.nil ?_; (dsimp only)))
      exact ⟨i + 1, ⟨_, rfl, by simp [tmPut, *], by simp [tmPut, *], by simp [tmPut, *], by omega, allN_put hall (hrow3.trans hallj)⟩, by omega⟩
  · repeat (first | (refine OpsL.q (by exact oasg) ?_) | (refine Trip.seq ?_) | (refine Trip.ops ?_) | (refine Trip.exit ?_; ((repeat (refine blockExit_eq ?_)); change Trip _ _ _ _ _)) | (refine Trip.ret ?_; (dsimp only)) | (refine OpsL.nil ?_; (change Trip _ _ _ _ _)))
    have hi2 : i = L.length := by omega
    subst hi2
    exact ⟨.inr rfl, _, res_tmp, by rw [hall]; rfl, x0.trans x1⟩
end Go.Proofs.Ytooakbmehcchnaa
namespace Go.Am
theorem boolN {P : Prop} [Decidable P] (h : ¬ P) : Value.bool true = Value.bool (!decide P) := by rw [decide_eq_false h]; rfl
theorem boolX {P Q : Prop} [Decidable P] [Decidable Q] (h : Q ↔ ¬ P) : Value.bool (decide Q) = Value.bool (!decide P) := by
  by_cases hp : P
  · rw [decide_eq_false (fun q => h.1 q hp), decide_eq_true hp]; rfl
  · rw [decide_eq_true (h.2 hp), decide_eq_false hp]; rfl
open Go.RowKit in
theorem OpsL.monoX {P : Program} {W0 : World} {ops : Array Oper} {Q R : ASt → Prop} (hq : ∀ s, Q s → R s) : ∀ (l : List Oper) (st : ASt), OpsL P W0 ops l st Q → OpsL P W0 ops l st R := by
  intro l
  induction l with
  | nil => intro st h; exact hq _ h
  | cons o l ih =>
    intro st h
    obtain ⟨hd, h⟩ := h
    refine ⟨hd, ?_⟩
    rcases h with ⟨hw, h⟩ | ⟨hw, ⟨v, e, hop, h⟩ | ⟨f, args, R', hc, hf, hcall, h⟩⟩
    · exact .inl ⟨hw, ih _ h⟩
    · exact .inr ⟨hw, .inl ⟨v, e, hop, ih _ h⟩⟩
    · exact .inr ⟨hw, .inr ⟨f, args, R', hc, hf, hcall, fun v nx' H' hr => ih _ (h v nx' H' hr)⟩⟩
theorem modF_a {m : Mo} (h : sizedF m = false) : (if modF m then (0 : Int) else 11) = 11 := by simp [modF, h]
theorem modF_b {m : Mo} (h : housedF m = false) : (if modF m then (0 : Int) else 11) = 11 := by simp [modF, h]
theorem modF_c {m : Mo} (h : allN m.of.length (stateF m) = false) : (if modF m then (0 : Int) else 11) = 11 := by simp [modF, h]
end Go.Am
namespace Go.Proofs.Ytooakbmehcchnaa
open Go.Am Go.RowKit
attribute [local irreducible] aop OpsL Trip blockExit OpsD OpsK OpsR
theorem entersRCheck : Am.Enters Try.prog 22 := ⟨Try.f22, Try.func22, by kernel_rfl, by kernel_rfl⟩
theorem rcheckC (W0 : World) {nx : Nat} {H : Heap} {m : Mo} {V : MoV} (hm : MoIn H m V) (hn : MoLen m) : ACalls Try.prog W0 22 [.agg (moV m V).toArray] nx H fun v nx' H' => v = .int .i64 (if modF m then 0 else 11) ∧ Ext nx H nx' H' := by
  refine ACalls.by_trip (fn := Try.f22) (c := _) Try.func22 rfl (fun tm n hn0 htm => ?_)
  have e0 : tm 0 = .agg (moV m V).toArray := htm 0
  clear htm
  replace hn0 : n = 136 := hn0
  refine Trip.ok fun hok => ?_
  replace hok : ∀ id o, H id = some o → id < nx := hok
  refine Trip.seq ?_
  refine Trip.ops ?_
  refine OpsL.boxM hm hok ?_ (by (first | (simp only [ASt.ev, tmPut, ↓reduceIte, Nat.reduceEqDiff, *]; done))) (by subst_vars; decide)
  intro G x0 okG hb hG
  clear e0
  obtain ⟨oa, oc, ov⟩ := hG.of.slice
  have oh := hG.of
  have g2 := hb.c2
  rw [ov] at oh g2
  obtain ⟨ea, ec, ev⟩ := hG.entry.slice
  have eh := hG.entry
  have g3 := hb.c3
  rw [ev] at eh g3
  obtain ⟨fa, fc, fv⟩ := hG.final.slice
  have fh := hG.final
  have g4 := hb.c4
  rw [fv] at fh g4
  obtain ⟨ia, ic, iv⟩ := hG.inn.slice
  have ih := hG.inn
  have g5 := hb.c5
  rw [iv] at ih g5
  obtain ⟨la, lc, lv⟩ := hG.low.slice
  have lh := hG.low
  have g6 := hb.c6
  rw [lv] at lh g6
  obtain ⟨ra, rc, rv⟩ := hG.ret.slice
  have rh := hG.ret
  have g7 := hb.c7
  rw [rv] at rh g7
  have g0 := hb.c0
  have g1 := hb.c1
  have q0 := hn.of
  have q1 := hn.entry
  repeat (first | (refine OpsL.q (by exact oasg) ?_) | (refine Trip.seq ?_) | (refine OpsL.nil ?_; (change Trip _ _ _ _ _)))
  refine Trip.mono (Q := fun e st => e = .normal ∧ ∃ (tm' : Nat → Value), st = ⟨tm', n, G, nx + 1⟩ ∧ tm' 1 = .pointer (some ⟨nx, 0, none⟩) ∧ tm' 3 = .int .i64 m.of.length ∧ tm' 4 = .int .i64 m.entry.length) ?_ ?_
  · refine OpsR.drawnW [] (K := fun _ _ => True) mixed13 (by kernel_rfl) (by kernel_rfl) [0, 1, 2, 3, 4, 5, 6, 7] (by kernel_rfl) trivial ?_
    refine OpsR.one rfl rfl rfl (by kernel_rfl) ?_
    repeat (first | (refine OpsL.q (by exact ofa) ?_) | (refine OpsL.nil ?_; (dsimp only)))
    refine OpsR.one rfl rfl rfl (by kernel_rfl) ?_
    repeat (first | (refine OpsL.q (by exact old) ?_) | (refine OpsL.nil ?_; (skip)))
    refine OpsR.one rfl rfl rfl (by kernel_rfl) ?_
    repeat (first | (refine OpsL.q (by exact olen) ?_) | (refine OpsL.nil ?_; (skip)))
    refine OpsR.one rfl rfl rfl (by kernel_rfl) ?_
    repeat (first | (refine OpsL.q (by exact ofa) ?_) | (refine OpsL.nil ?_; (dsimp only)))
    refine OpsR.one rfl rfl rfl (by kernel_rfl) ?_
    repeat (first | (refine OpsL.q (by exact old) ?_) | (refine OpsL.nil ?_; (skip)))
    refine OpsR.one rfl rfl rfl (by kernel_rfl) ?_
    repeat (first | (refine OpsL.q (by exact olen) ?_) | (refine OpsL.nil ?_; (skip)))
    refine OpsR.one rfl rfl rfl (by kernel_rfl) ?_
    repeat (first | (refine OpsL.q (by exact oasg) ?_) | (refine OpsL.nil ?_; (skip)))
    refine OpsR.one rfl rfl rfl (by kernel_rfl) ?_
    repeat (first | (refine OpsL.q (by exact oasg) ?_) | (refine OpsL.nil ?_; (skip)))
    refine OpsR.nil ?_
    exact ⟨rfl, _, rfl, by simp [tmPut, *], by simp [tmPut, *], by simp [tmPut, *]⟩
  rintro e st ⟨rfl, tm, rfl, e1, e3, e4⟩
  (change Trip _ _ _ _ _)
  refine Trip.seq (Trip.seq ?_)
  refine Trip.mono (Q := fun e st => e = .normal ∧ ∃ (tm' : Nat → Value), st = ⟨tm', n, G, nx + 1⟩ ∧ tm' 1 = .pointer (some ⟨nx, 0, none⟩) ∧ tm' 3 = .int .i64 m.of.length ∧ tm' 4 = .int .i64 m.entry.length ∧ tm' 47 = .bool (!decide ((0 ≤ m.plains ∧ m.plains ≤ 20) ∧ (0 ≤ m.closings ∧ m.closings ≤ 20) ∧ (1 ≤ (m.of.length : Int) ∧ (m.of.length : Int) ≤ 60) ∧ (1 ≤ (m.entry.length : Int) ∧ (m.entry.length : Int) ≤ 21)))) ?_ ?_
  · repeat' (first | (refine OpsL.q (by first | exact omv | exact olss | exact ogtr | exact ofa | exact old | exact opkT | exact opkF) ?_) | (refine Trip.ops ?_) | (refine OpsL.nil ?_; (dsimp only)) | (refine OpsL.ung ?_) | (refine OpsL.skp ?_) | (refine OpsL.gF (fun _ => ?_) (fun _ => ?_)))
    all_goals first | exact ⟨rfl, _, rfl, by simp only [tmPut, ↓reduceIte, reduceIte, Nat.reduceEqDiff, *], by simp only [tmPut, ↓reduceIte, reduceIte, Nat.reduceEqDiff, *], by simp only [tmPut, ↓reduceIte, reduceIte, Nat.reduceEqDiff, *], boolN (by omega)⟩ | exact ⟨rfl, _, rfl, by simp only [tmPut, ↓reduceIte, reduceIte, Nat.reduceEqDiff, *], by simp only [tmPut, ↓reduceIte, reduceIte, Nat.reduceEqDiff, *], by simp only [tmPut, ↓reduceIte, reduceIte, Nat.reduceEqDiff, *], boolX (by omega)⟩
  clear e1 e3 e4
  rintro e st ⟨rfl, tm, rfl, e1, e3, e4, e47⟩
  (change Trip _ _ _ _ _)
  by_cases hS : (0 ≤ m.plains ∧ m.plains ≤ 20) ∧ (0 ≤ m.closings ∧ m.closings ≤ 20) ∧ (1 ≤ (m.of.length : Int) ∧ (m.of.length : Int) ≤ 60) ∧ (1 ≤ (m.entry.length : Int) ∧ (m.entry.length : Int) ≤ 21)
  case neg =>
    rw [decide_eq_false hS] at e47
    replace e47 : tm 47 = .bool true := e47
    have hz : sizedF m = false := decide_eq_false fun q => hS ⟨q.1, q.2.1, q.2.2.1, q.2.2.2.1⟩
    clear hS
    repeat fail
    refine Trip.ifT ?_
    repeat (first | (refine OpsL.q (by exact oasg) ?_) | (refine Trip.seq ?_) | (refine Trip.ops ?_) | (refine Trip.ret ?_; (dsimp only)) | (refine OpsL.nil ?_; (change Trip _ _ _ _ _)))
    exact ⟨.inr rfl, _, res_tmp, by rw [modF_a hz]; rfl, x0⟩
  rw [decide_eq_true hS] at e47
  replace e47 : tm 47 = .bool false := e47
  obtain ⟨S1, S2, S4, S5⟩ := hS
  repeat fail
  refine Trip.ifF ?_
  repeat (first | (refine OpsL.q (by exact oasg) ?_) | (refine Trip.seq ?_) | (refine Trip.ops ?_) | (refine Trip.block ?_) | (refine Trip.skip ?_; (change Trip _ _ _ _ _)) | (refine OpsL.nil ?_; (change Trip _ _ _ _ _)))
  refine Trip.inv (fun (i : Nat) s => ∃ (tm : Nat → Value), s = ⟨tm, n, G, nx + 1⟩ ∧ tm 1 = .pointer (some ⟨nx, 0, none⟩) ∧ tm 3 = .int .i64 m.of.length ∧ tm 4 = .int .i64 m.entry.length ∧ tm 5 = .int .i64 i ∧ i ≤ m.of.length ∧ allN i (fun i => decide (0 ≤ m.of.getD i 0 ∧ m.of.getD i 0 ≤ (m.entry.length : Int) - 1)) = true) (fun i => m.of.length - i) 0 ?_ ?_
  · exact ⟨_, rfl, by simp [tmPut, *], by simp [tmPut, *], by simp [tmPut, *], by simp [tmPut, *], by omega, allN_zero⟩
  clear e1 e3 e4 e47
  rintro i s ⟨tm, rfl, e1, e3, e4, e5, hi, hall⟩
  repeat (first | (refine OpsL.q (by first | exact omv | exact olss) ?_) | (refine Trip.seq ?_) | (refine Trip.ops ?_) | (refine Trip.block ?_) | (refine Trip.itA (fun _ => ?_) (fun _ => ?_)) | (refine Trip.skip ?_; (change Trip _ _ _ _ _)) | (refine OpsL.nil ?_; (change Trip _ _ _ _ _)))
  · have hlt : i < m.of.length := by omega
    obtain ⟨q, hq, hc⟩ := IntsAt.atI oh (show (0 : Int) ≤ i by omega) (show (i : Int) < m.of.length by omega)
    rw [hq] at g2
    rw [Int.toNat_natCast] at hc
    obtain ⟨x, hx⟩ : ∃ x, m.of.getD i 0 = x := ⟨_, rfl⟩
    rw [hx] at hc
    refine OpsL.monoX (Q := fun st => ∃ (tm' : Nat → Value), st = ⟨tm', n, G, nx + 1⟩ ∧ tm' 1 = .pointer (some ⟨nx, 0, none⟩) ∧ tm' 3 = .int .i64 m.of.length ∧ tm' 4 = .int .i64 m.entry.length ∧ tm' 5 = .int .i64 i ∧ tm' 67 = .bool (!decide (0 ≤ x ∧ x ≤ (m.entry.length : Int) - 1))) ?_ _ _ ?_
    rotate_left
    · repeat' (first | (refine OpsL.q (by first | exact omv | exact olss | exact ogeq | exact oixa | exact ofa | exact old | exact opkT | exact opkF) ?_) | (refine OpsL.nil ?_; (dsimp only)) | (refine OpsL.ung ?_) | (refine OpsL.skp ?_) | (refine OpsL.gF (fun _ => ?_) (fun _ => ?_)))
      all_goals first | exact ⟨_, rfl, by simp only [tmPut, ↓reduceIte, reduceIte, Nat.reduceEqDiff, *], by simp only [tmPut, ↓reduceIte, reduceIte, Nat.reduceEqDiff, *], by simp only [tmPut, ↓reduceIte, reduceIte, Nat.reduceEqDiff, *], by simp only [tmPut, ↓reduceIte, reduceIte, Nat.reduceEqDiff, *], boolN (by omega)⟩ | exact ⟨_, rfl, by simp only [tmPut, ↓reduceIte, reduceIte, Nat.reduceEqDiff, *], by simp only [tmPut, ↓reduceIte, reduceIte, Nat.reduceEqDiff, *], by simp only [tmPut, ↓reduceIte, reduceIte, Nat.reduceEqDiff, *], by simp only [tmPut, ↓reduceIte, reduceIte, Nat.reduceEqDiff, *], boolX (by omega)⟩
    clear e1 e3 e4 e5
    rintro st ⟨tm, rfl, e1, e3, e4, e5, e67⟩
    (change Trip _ _ _ _ _)
    by_cases hd : 0 ≤ x ∧ x ≤ (m.entry.length : Int) - 1
    · rw [decide_eq_true hd] at e67
      replace e67 : tm 67 = .bool false := e67
      have hd2 : decide (0 ≤ m.of.getD i 0 ∧ m.of.getD i 0 ≤ (m.entry.length : Int) - 1) = true := by rw [hx]; exact decide_eq_true hd
      clear hd
      repeat fail
      refine Trip.ifF ?_
      repeat (first | (refine OpsL.q (by first | exact omv | exact oasg | exact oadd) ?_) | (refine Trip.ops ?_) | (refine Trip.skip ?_; ((repeat (refine blockExit_normal ?_)); change Trip _ _ _ _ _)) | (refine OpsL.nil ?_; (dsimp only)))
      exact ⟨i + 1, ⟨_, rfl, by simp [tmPut, *], by simp [tmPut, *], by simp [tmPut, *], by simp [tmPut, *], by omega, allN_put hall hd2⟩, by omega⟩
    · rw [decide_eq_false hd] at e67
      replace e67 : tm 67 = .bool true := e67
      have hz : housedF m = false := by
        unfold housedF
        rw [allN_no hlt (show decide (0 ≤ m.of.getD i 0 ∧ m.of.getD i 0 ≤ (m.entry.length : Int) - 1) = false by rw [hx]; exact decide_eq_false hd)]
        rfl
      clear hd
      repeat fail
      refine Trip.ifT ?_
      repeat (first | (refine OpsL.q (by exact oasg) ?_) | (refine Trip.seq ?_) | (refine Trip.ops ?_) | (refine Trip.ret ?_; ((repeat (refine blockExit_ret ?_)); dsimp only)) | (refine OpsL.nil ?_; (change Trip _ _ _ _ _)))
      exact ⟨.inr rfl, _, res_tmp, by rw [modF_b hz]; rfl, x0⟩
  have hi2 : i = m.of.length := by omega
  subst hi2
  have hall1 := hall
  clear hall
  repeat (first | (refine OpsL.q (by exact oasg) ?_) | (refine Trip.seq ?_) | (refine Trip.ops ?_) | (refine Trip.block ?_) | (refine Trip.exit ?_; ((repeat (refine blockExit_eq ?_)); change Trip _ _ _ _ _)) | (refine OpsL.nil ?_; (change Trip _ _ _ _ _)))
  refine Trip.inv (fun (i : Nat) s => ∃ (tm : Nat → Value), s = ⟨tm, n, G, nx + 1⟩ ∧ tm 1 = .pointer (some ⟨nx, 0, none⟩) ∧ tm 3 = .int .i64 m.of.length ∧ tm 4 = .int .i64 m.entry.length ∧ tm 6 = .int .i64 i ∧ i ≤ m.entry.length ∧ allN i (fun i => inF m (m.entry.getD i 0) i) = true) (fun i => m.entry.length - i) 0 ?_ ?_
  · exact ⟨_, rfl, by simp [tmPut, *], by simp [tmPut, *], by simp [tmPut, *], by simp [tmPut, *], by omega, allN_zero⟩
  clear e1 e3 e4 e5
  rintro i s ⟨tm, rfl, e1, e3, e4, e6, hi, hall⟩
  repeat (first | (refine OpsL.q (by first | exact omv | exact olss) ?_) | (refine Trip.seq ?_) | (refine Trip.ops ?_) | (refine Trip.block ?_) | (refine Trip.itA (fun _ => ?_) (fun _ => ?_)) | (refine Trip.skip ?_; (change Trip _ _ _ _ _)) | (refine OpsL.nil ?_; (change Trip _ _ _ _ _)))
  · have hlt : i < m.entry.length := by omega
    obtain ⟨q, hq, hc⟩ := IntsAt.atI eh (show (0 : Int) ≤ i by omega) (show (i : Int) < m.entry.length by omega)
    rw [hq] at g3
    rw [Int.toNat_natCast] at hc
    obtain ⟨x, hx⟩ : ∃ x, m.entry.getD i 0 = x := ⟨_, rfl⟩
    rw [hx] at hc
    refine Trip.mono (Q := fun e st => e = .normal ∧ ∃ (tm' : Nat → Value), st = ⟨tm', n, G, nx + 1⟩ ∧ tm' 1 = .pointer (some ⟨nx, 0, none⟩) ∧ tm' 3 = .int .i64 m.of.length ∧ tm' 4 = .int .i64 m.entry.length ∧ tm' 6 = .int .i64 i ∧ tm' 100 = .bool (!inF m x i)) ?_ ?_
    · refine OpsR.drawnW [] (K := fun _ _ => True) mixed13 (by kernel_rfl) (by kernel_rfl) [0, 1, 2, 3, 4, 5, 6, 7, 8, 9, 10, 11, 12, 13, 14, 15, 16, 17, 18, 19, 20, 21, 22, 23, 24, 25, 26, 27] (by kernel_rfl) trivial ?_
      refine OpsR.one rfl rfl rfl (by kernel_rfl) ?_
      repeat (first | (refine OpsL.q (by exact ofa) ?_) | (refine OpsL.nil ?_; (dsimp only)))
      refine OpsR.one rfl rfl rfl (by kernel_rfl) ?_
      repeat (first | (refine OpsL.q (by exact old) ?_) | (refine OpsL.nil ?_; (skip)))
      refine OpsR.one rfl rfl rfl (by kernel_rfl) ?_
      repeat (first | (refine OpsL.q (by exact omv) ?_) | (refine OpsL.nil ?_; (skip)))
      refine OpsR.one rfl rfl rfl (by kernel_rfl) ?_
      repeat (first | (refine OpsL.q (by exact oixa) ?_) | (refine OpsL.nil ?_; (dsimp only)))
      refine OpsR.one rfl rfl rfl (by kernel_rfl) ?_
      repeat (first | (refine OpsL.q (by exact old) ?_) | (refine OpsL.nil ?_; (skip)))
      refine OpsR.one rfl rfl rfl (by kernel_rfl) ?_
      by_cases h0 : x < 0
      · refine OpsL.lssT ?_ (c := h0)
        have hF : inF m x i = false := decide_eq_false fun q => by omega
        refine OpsL.nil ?_
        refine OpsR.one rfl rfl rfl (by kernel_rfl) ?_
        repeat (first | (refine OpsL.q (by exact omv) ?_) | (refine OpsL.nil ?_; (skip)))
        refine OpsR.one rfl rfl rfl (by kernel_rfl) ?_
        repeat (first | (refine OpsL.nil ?_; (skip)) | (refine OpsL.skp ?_))
        refine OpsR.one rfl rfl rfl (by kernel_rfl) ?_
        repeat (first | (refine OpsL.nil ?_; (skip)) | (refine OpsL.skp ?_))
        refine OpsR.one rfl rfl rfl (by kernel_rfl) ?_
        repeat (first | (refine OpsL.nil ?_; (skip)) | (refine OpsL.skp ?_))
        refine OpsR.one rfl rfl rfl (by kernel_rfl) ?_
        repeat (first | (refine OpsL.nil ?_; (skip)) | (refine OpsL.skp ?_))
        refine OpsR.one rfl rfl rfl (by kernel_rfl) ?_
        repeat (first | (refine OpsL.nil ?_; (skip)) | (refine OpsL.skp ?_))
        refine OpsR.one rfl rfl rfl (by kernel_rfl) ?_
        repeat (first | (refine OpsL.nil ?_; (skip)) | (refine OpsL.skp ?_))
        refine OpsR.one rfl rfl rfl (by kernel_rfl) ?_
        repeat (first | (refine OpsL.nil ?_; (skip)) | (refine OpsL.skp ?_))
        refine OpsR.one rfl rfl rfl (by kernel_rfl) ?_
        repeat (first | (refine OpsL.q (by exact opkT) ?_) | (refine OpsL.nil ?_; (skip)))
        refine OpsR.one rfl rfl rfl (by kernel_rfl) ?_
        repeat (first | (refine OpsL.q (by exact omv) ?_) | (refine OpsL.nil ?_; (skip)))
        refine OpsR.one rfl rfl rfl (by kernel_rfl) ?_
        repeat (first | (refine OpsL.nil ?_; (skip)) | (refine OpsL.skp ?_))
        refine OpsR.one rfl rfl rfl (by kernel_rfl) ?_
        repeat (first | (refine OpsL.nil ?_; (skip)) | (refine OpsL.skp ?_))
        refine OpsR.one rfl rfl rfl (by kernel_rfl) ?_
        repeat (first | (refine OpsL.nil ?_; (skip)) | (refine OpsL.skp ?_))
        refine OpsR.one rfl rfl rfl (by kernel_rfl) ?_
        repeat (first | (refine OpsL.nil ?_; (skip)) | (refine OpsL.skp ?_))
        refine OpsR.one rfl rfl rfl (by kernel_rfl) ?_
        repeat (first | (refine OpsL.nil ?_; (skip)) | (refine OpsL.skp ?_))
        refine OpsR.one rfl rfl rfl (by kernel_rfl) ?_
        repeat (first | (refine OpsL.nil ?_; (skip)) | (refine OpsL.skp ?_))
        refine OpsR.one rfl rfl rfl (by kernel_rfl) ?_
        repeat (first | (refine OpsL.nil ?_; (skip)) | (refine OpsL.skp ?_))
        refine OpsR.one rfl rfl rfl (by kernel_rfl) ?_
        repeat (first | (refine OpsL.nil ?_; (skip)) | (refine OpsL.skp ?_))
        refine OpsR.one rfl rfl rfl (by kernel_rfl) ?_
        repeat (first | (refine OpsL.nil ?_; (skip)) | (refine OpsL.skp ?_))
        refine OpsR.one rfl rfl rfl (by kernel_rfl) ?_
        repeat (first | (refine OpsL.nil ?_; (skip)) | (refine OpsL.skp ?_))
        refine OpsR.one rfl rfl rfl (by kernel_rfl) ?_
        repeat (first | (refine OpsL.nil ?_; (skip)) | (refine OpsL.skp ?_))
        refine OpsR.one rfl rfl rfl (by kernel_rfl) ?_
        repeat (first | (refine OpsL.q (by exact opkT) ?_) | (refine OpsL.nil ?_; (skip)))
        refine OpsR.nil ?_
        exact ⟨rfl, _, rfl, by simp [tmPut, *], by simp [tmPut, *], by simp [tmPut, *], by simp [tmPut, *], by simp [tmPut, *]⟩
      refine OpsL.lssF ?_ (c := h0)
      refine OpsL.nil ?_
      refine OpsR.one rfl rfl rfl (by kernel_rfl) ?_
      repeat (first | (refine OpsL.q (by exact omv) ?_) | (refine OpsL.nil ?_; (skip)))
      refine OpsR.one rfl rfl rfl (by kernel_rfl) ?_
      repeat (first | (refine OpsL.q (by exact ofa) ?_) | (refine OpsL.nil ?_; (dsimp only)) | (refine OpsL.ung ?_))
      refine OpsR.one rfl rfl rfl (by kernel_rfl) ?_
      repeat (first | (refine OpsL.q (by exact old) ?_) | (refine OpsL.nil ?_; (skip)) | (refine OpsL.ung ?_))
      refine OpsR.one rfl rfl rfl (by kernel_rfl) ?_
      repeat (first | (refine OpsL.q (by exact omv) ?_) | (refine OpsL.nil ?_; (skip)) | (refine OpsL.ung ?_))
      refine OpsR.one rfl rfl rfl (by kernel_rfl) ?_
      repeat (first | (refine OpsL.q (by exact oixa) ?_) | (refine OpsL.nil ?_; (dsimp only)) | (refine OpsL.ung ?_))
      refine OpsR.one rfl rfl rfl (by kernel_rfl) ?_
      repeat (first | (refine OpsL.q (by exact old) ?_) | (refine OpsL.nil ?_; (skip)) | (refine OpsL.ung ?_))
      refine OpsR.one rfl rfl rfl (by kernel_rfl) ?_
      repeat (first | (refine OpsL.q (by exact omv) ?_) | (refine OpsL.nil ?_; (skip)) | (refine OpsL.ung ?_))
      refine OpsR.one rfl rfl rfl (by kernel_rfl) ?_
      refine OpsL.ung ?_
      by_cases h1 : (m.of.length : Int) ≤ x
      · refine OpsL.geqT ?_ (c := h1)
        have hF : inF m x i = false := decide_eq_false fun q => by omega
        refine OpsL.nil ?_
        refine OpsR.one rfl rfl rfl (by kernel_rfl) ?_
        repeat (first | (refine OpsL.q (by exact opkF) ?_) | (refine OpsL.nil ?_; (skip)))
        refine OpsR.one rfl rfl rfl (by kernel_rfl) ?_
        repeat (first | (refine OpsL.q (by exact omv) ?_) | (refine OpsL.nil ?_; (skip)))
        refine OpsR.one rfl rfl rfl (by kernel_rfl) ?_
        repeat (first | (refine OpsL.nil ?_; (skip)) | (refine OpsL.skp ?_))
        refine OpsR.one rfl rfl rfl (by kernel_rfl) ?_
        repeat (first | (refine OpsL.nil ?_; (skip)) | (refine OpsL.skp ?_))
        refine OpsR.one rfl rfl rfl (by kernel_rfl) ?_
        repeat (first | (refine OpsL.nil ?_; (skip)) | (refine OpsL.skp ?_))
        refine OpsR.one rfl rfl rfl (by kernel_rfl) ?_
        repeat (first | (refine OpsL.nil ?_; (skip)) | (refine OpsL.skp ?_))
        refine OpsR.one rfl rfl rfl (by kernel_rfl) ?_
        repeat (first | (refine OpsL.nil ?_; (skip)) | (refine OpsL.skp ?_))
        refine OpsR.one rfl rfl rfl (by kernel_rfl) ?_
        repeat (first | (refine OpsL.nil ?_; (skip)) | (refine OpsL.skp ?_))
        refine OpsR.one rfl rfl rfl (by kernel_rfl) ?_
        repeat (first | (refine OpsL.nil ?_; (skip)) | (refine OpsL.skp ?_))
        refine OpsR.one rfl rfl rfl (by kernel_rfl) ?_
        repeat (first | (refine OpsL.nil ?_; (skip)) | (refine OpsL.skp ?_))
        refine OpsR.one rfl rfl rfl (by kernel_rfl) ?_
        repeat (first | (refine OpsL.nil ?_; (skip)) | (refine OpsL.skp ?_))
        refine OpsR.one rfl rfl rfl (by kernel_rfl) ?_
        repeat (first | (refine OpsL.nil ?_; (skip)) | (refine OpsL.skp ?_))
        refine OpsR.one rfl rfl rfl (by kernel_rfl) ?_
        repeat (first | (refine OpsL.nil ?_; (skip)) | (refine OpsL.skp ?_))
        refine OpsR.one rfl rfl rfl (by kernel_rfl) ?_
        repeat (first | (refine OpsL.q (by exact opkT) ?_) | (refine OpsL.nil ?_; (skip)))
        refine OpsR.nil ?_
        exact ⟨rfl, _, rfl, by simp [tmPut, *], by simp [tmPut, *], by simp [tmPut, *], by simp [tmPut, *], by simp [tmPut, *]⟩
      refine OpsL.geqF ?_ (c := h1)
      refine OpsL.nil ?_
      obtain ⟨q5, hq5, hc5⟩ := IntsAt.atI oh (show 0 ≤ x by omega) (show x < m.of.length by omega)
      rw [hq5] at g2
      refine OpsR.one rfl rfl rfl (by kernel_rfl) ?_
      repeat (first | (refine OpsL.q (by exact opkF) ?_) | (refine OpsL.nil ?_; (skip)))
      refine OpsR.one rfl rfl rfl (by kernel_rfl) ?_
      repeat (first | (refine OpsL.q (by exact omv) ?_) | (refine OpsL.nil ?_; (skip)))
      refine OpsR.one rfl rfl rfl (by kernel_rfl) ?_
      repeat (first | (refine OpsL.q (by exact ofa) ?_) | (refine OpsL.nil ?_; (dsimp only)) | (refine OpsL.ung ?_))
      refine OpsR.one rfl rfl rfl (by kernel_rfl) ?_
      repeat (first | (refine OpsL.q (by exact old) ?_) | (refine OpsL.nil ?_; (skip)) | (refine OpsL.ung ?_))
      refine OpsR.one rfl rfl rfl (by kernel_rfl) ?_
      repeat (first | (refine OpsL.q (by exact ofa) ?_) | (refine OpsL.nil ?_; (dsimp only)) | (refine OpsL.ung ?_))
      refine OpsR.one rfl rfl rfl (by kernel_rfl) ?_
      repeat (first | (refine OpsL.q (by exact old) ?_) | (refine OpsL.nil ?_; (skip)) | (refine OpsL.ung ?_))
      refine OpsR.one rfl rfl rfl (by kernel_rfl) ?_
      repeat (first | (refine OpsL.q (by exact omv) ?_) | (refine OpsL.nil ?_; (skip)) | (refine OpsL.ung ?_))
      refine OpsR.one rfl rfl rfl (by kernel_rfl) ?_
      repeat (first | (refine OpsL.q (by exact oixa) ?_) | (refine OpsL.nil ?_; (dsimp only)) | (refine OpsL.ung ?_))
      refine OpsR.one rfl rfl rfl (by kernel_rfl) ?_
      repeat (first | (refine OpsL.q (by exact old) ?_) | (refine OpsL.nil ?_; (skip)) | (refine OpsL.ung ?_))
      refine OpsR.one rfl rfl rfl (by kernel_rfl) ?_
      repeat (first | (refine OpsL.q (by exact oixa) ?_) | (refine OpsL.nil ?_; (dsimp only)) | (refine OpsL.ung ?_))
      refine OpsR.one rfl rfl rfl (by kernel_rfl) ?_
      repeat (first | (refine OpsL.q (by exact old) ?_) | (refine OpsL.nil ?_; (skip)) | (refine OpsL.ung ?_))
      refine OpsR.one rfl rfl rfl (by kernel_rfl) ?_
      repeat (first | (refine OpsL.q (by exact omv) ?_) | (refine OpsL.nil ?_; (skip)) | (refine OpsL.ung ?_))
      refine OpsR.one rfl rfl rfl (by kernel_rfl) ?_
      refine OpsL.ung ?_
      by_cases h2 : m.of.getD x.toNat 0 = i
      · refine OpsL.neqF ?_ (c := h2)
        have hF : inF m x i = true := decide_eq_true ⟨⟨by omega, by omega⟩, h2⟩
        clear h2
        refine OpsL.nil ?_
        refine OpsR.one rfl rfl rfl (by kernel_rfl) ?_
        repeat (first | (refine OpsL.q (by exact opkF) ?_) | (refine OpsL.nil ?_; (skip)))
        refine OpsR.nil ?_
        exact ⟨rfl, _, rfl, by simp [tmPut, *], by simp [tmPut, *], by simp [tmPut, *], by simp [tmPut, *], by simp [tmPut, *]⟩
      · refine OpsL.neqT ?_ (c := h2)
        have hF : inF m x i = false := decide_eq_false fun q => h2 q.2
        clear h2
        refine OpsL.nil ?_
        refine OpsR.one rfl rfl rfl (by kernel_rfl) ?_
        repeat (first | (refine OpsL.q (by exact opkF) ?_) | (refine OpsL.nil ?_; (skip)))
        refine OpsR.nil ?_
        exact ⟨rfl, _, rfl, by simp [tmPut, *], by simp [tmPut, *], by simp [tmPut, *], by simp [tmPut, *], by simp [tmPut, *]⟩
    clear e1 e3 e4 e6
    rintro e st ⟨rfl, tm, rfl, e1, e3, e4, e6, e100⟩
    (change Trip _ _ _ _ _)
    cases hs : inF m x i
    · rw [hs] at e100
      replace e100 : tm 100 = .bool true := e100
      have hz : housedF m = false := by
        unfold housedF
        rw [allN_no (n := m.entry.length) hlt (show inF m (m.entry.getD i 0) i = false by rw [hx]; exact hs), Bool.and_false]
      repeat fail
      refine Trip.ifT ?_
      repeat (first | (refine OpsL.q (by exact oasg) ?_) | (refine Trip.seq ?_) | (refine Trip.ops ?_) | (refine Trip.ret ?_; ((repeat (refine blockExit_ret ?_)); dsimp only)) | (refine OpsL.nil ?_; (change Trip _ _ _ _ _)))
      exact ⟨.inr rfl, _, res_tmp, by rw [modF_b hz]; rfl, x0⟩
    · rw [hs] at e100
      replace e100 : tm 100 = .bool false := e100
      repeat fail
      refine Trip.ifF ?_
      repeat (first | (refine OpsL.q (by first | exact omv | exact oasg | exact oadd) ?_) | (refine Trip.ops ?_) | (refine Trip.skip ?_; ((repeat (refine blockExit_normal ?_)); change Trip _ _ _ _ _)) | (refine OpsL.nil ?_; (dsimp only)))
      exact ⟨i + 1, ⟨_, rfl, by simp [tmPut, *], by simp [tmPut, *], by simp [tmPut, *], by simp [tmPut, *], by omega, allN_put hall (by rw [hx]; exact hs)⟩, by omega⟩
  have hi2 : i = m.entry.length := by omega
  subst hi2
  have hho : housedF m = true := by unfold housedF; rw [hall1, hall]; rfl
  clear hall hall1
  repeat (first | (refine Trip.seq ?_) | (refine Trip.ops ?_) | (refine Trip.exit ?_; ((repeat (refine blockExit_eq ?_)); change Trip _ _ _ _ _)))
  refine OpsL.monoX (Q := fun st => ∃ (tm' : Nat → Value), st = ⟨tm', n, G, nx + 1⟩ ∧ tm' 1 = .pointer (some ⟨nx, 0, none⟩) ∧ tm' 3 = .int .i64 m.of.length ∧ tm' 126 = .bool (!decide ((m.final.length : Int) = m.of.length ∧ (m.inn.length : Int) = m.of.length ∧ (m.low.length : Int) = m.of.length ∧ (m.ret.length : Int) = m.of.length))) ?_ _ _ ?_
  rotate_left
  · repeat (first | (refine OpsL.q (by first | exact omv | exact ofa | exact old | exact olen) ?_))
    by_cases k0 : (m.final.length : Int) = m.of.length
    case neg =>
      refine OpsL.neqT ?_ (c := k0)
      have hz : ¬ ((m.final.length : Int) = m.of.length ∧ (m.inn.length : Int) = m.of.length ∧ (m.low.length : Int) = m.of.length ∧ (m.ret.length : Int) = m.of.length) := fun q => k0 q.1
      rw [decide_eq_false hz]
      clear k0 hz
      repeat (first | (refine OpsL.q (by first | exact omv | exact opkT) ?_) | (refine OpsL.nil ?_; (dsimp only)) | (refine OpsL.skp ?_))
      exact ⟨_, rfl, by simp [tmPut, *], by simp [tmPut, *], by simp [tmPut]⟩
    refine OpsL.neqF ?_ (c := k0)
    replace k0 := decide_eq_true k0
    repeat (first | (refine OpsL.q (by first | exact omv | exact ofa | exact old | exact olen) ?_) | (refine OpsL.ung ?_))
    by_cases k1 : (m.inn.length : Int) = m.of.length
    case neg =>
      refine OpsL.neqT ?_ (c := k1)
      have hz : ¬ ((m.final.length : Int) = m.of.length ∧ (m.inn.length : Int) = m.of.length ∧ (m.low.length : Int) = m.of.length ∧ (m.ret.length : Int) = m.of.length) := fun q => k1 q.2.1
      rw [decide_eq_false hz]
      clear k1 hz
      repeat (first | (refine OpsL.q (by first | exact omv | exact opkT | exact opkF) ?_) | (refine OpsL.nil ?_; (dsimp only)) | (refine OpsL.skp ?_))
      exact ⟨_, rfl, by simp [tmPut, *], by simp [tmPut, *], by simp [tmPut]⟩
    refine OpsL.neqF ?_ (c := k1)
    replace k1 := decide_eq_true k1
    repeat (first | (refine OpsL.q (by first | exact omv | exact ofa | exact old | exact olen | exact opkF) ?_) | (refine OpsL.ung ?_))
    by_cases k2 : (m.low.length : Int) = m.of.length
    case neg =>
      refine OpsL.neqT ?_ (c := k2)
      have hz : ¬ ((m.final.length : Int) = m.of.length ∧ (m.inn.length : Int) = m.of.length ∧ (m.low.length : Int) = m.of.length ∧ (m.ret.length : Int) = m.of.length) := fun q => k2 q.2.2.1
      rw [decide_eq_false hz]
      clear k2 hz
      repeat (first | (refine OpsL.q (by first | exact omv | exact opkT | exact opkF) ?_) | (refine OpsL.nil ?_; (dsimp only)) | (refine OpsL.skp ?_))
      exact ⟨_, rfl, by simp [tmPut, *], by simp [tmPut, *], by simp [tmPut]⟩
    refine OpsL.neqF ?_ (c := k2)
    replace k2 := decide_eq_true k2
    repeat (first | (refine OpsL.q (by first | exact omv | exact ofa | exact old | exact olen | exact opkF) ?_) | (refine OpsL.ung ?_))
    by_cases k3 : (m.ret.length : Int) = m.of.length
    case neg =>
      refine OpsL.neqT ?_ (c := k3)
      have hz : ¬ ((m.final.length : Int) = m.of.length ∧ (m.inn.length : Int) = m.of.length ∧ (m.low.length : Int) = m.of.length ∧ (m.ret.length : Int) = m.of.length) := fun q => k3 q.2.2.2
      rw [decide_eq_false hz]
      clear k3 hz
      repeat (first | (refine OpsL.q (by exact opkF) ?_) | (refine OpsL.nil ?_; (dsimp only)))
      exact ⟨_, rfl, by simp [tmPut, *], by simp [tmPut, *], by simp [tmPut]⟩
    refine OpsL.neqF ?_ (c := k3)
    replace k3 := decide_eq_true k3
    have hz : ((m.final.length : Int) = m.of.length ∧ (m.inn.length : Int) = m.of.length ∧ (m.low.length : Int) = m.of.length ∧ (m.ret.length : Int) = m.of.length) := ⟨of_decide_eq_true k0, of_decide_eq_true k1, of_decide_eq_true k2, of_decide_eq_true k3⟩
    rw [decide_eq_true hz]
    clear k0 k1 k2 k3 hz
    repeat (first | (refine OpsL.q (by exact opkF) ?_) | (refine OpsL.nil ?_; (dsimp only)))
    exact ⟨_, rfl, by simp [tmPut, *], by simp [tmPut, *], by simp [tmPut]⟩
  clear e1 e3 e4 e6
  rintro st ⟨tm, rfl, e1, e3, e126⟩
  (change Trip _ _ _ _ _)
  by_cases hT : (m.final.length : Int) = m.of.length ∧ (m.inn.length : Int) = m.of.length ∧ (m.low.length : Int) = m.of.length ∧ (m.ret.length : Int) = m.of.length
  case neg =>
    rw [decide_eq_false hT] at e126
    replace e126 : tm 126 = .bool true := e126
    have hz : sizedF m = false := decide_eq_false fun q => hT q.2.2.2.2
    clear hT
    repeat fail
    refine Trip.ifT ?_
    repeat (first | (refine OpsL.q (by exact oasg) ?_) | (refine Trip.seq ?_) | (refine Trip.ops ?_) | (refine Trip.ret ?_; (dsimp only)) | (refine OpsL.nil ?_; (change Trip _ _ _ _ _)))
    exact ⟨.inr rfl, _, res_tmp, by rw [modF_a hz]; rfl, x0⟩
  rw [decide_eq_true hT] at e126
  replace e126 : tm 126 = .bool false := e126
  have hsz : sizedF m = true := decide_eq_true ⟨S1, S2, S4, S5, hT⟩
  obtain ⟨T1, T2, T3, T4⟩ := hT
  have T2' : m.inn.length = m.of.length := by omega
  have T3' : m.low.length = m.of.length := by omega
  have T4' : m.ret.length = m.of.length := by omega
  clear T1 T2 T3 T4
  repeat fail
  refine Trip.ifF ?_
  repeat (first | (refine OpsL.q (by exact oasg) ?_) | (refine Trip.seq ?_) | (refine Trip.ops ?_) | (refine Trip.block ?_) | (refine Trip.skip ?_; (change Trip _ _ _ _ _)) | (refine OpsL.nil ?_; (change Trip _ _ _ _ _)))
  refine Trip.inv (fun (i : Nat) s => ∃ (tm : Nat → Value) (nx' : Nat) (H' : Heap), s = ⟨tm, n, H', nx'⟩ ∧ Ext (nx + 1) G nx' H' ∧ tm 1 = .pointer (some ⟨nx, 0, none⟩) ∧ tm 3 = .int .i64 m.of.length ∧ tm 7 = .int .i64 i ∧ i ≤ m.of.length ∧ allN i (stateF m) = true) (fun i => m.of.length - i) 0 ?_ ?_
  · exact ⟨_, _, _, rfl, Ext.refl, by simp [tmPut, *], by simp [tmPut, *], by simp [tmPut, *], by omega, allN_zero⟩
  clear e1 e3 e126
  rintro i s ⟨tm, nx', H', rfl, hx, e1, e3, e7, hi, hall⟩
  repeat (first | (refine OpsL.q (by first | exact omv | exact olss) ?_) | (refine Trip.seq ?_) | (refine Trip.ops ?_) | (refine Trip.block ?_) | (refine Trip.itA (fun _ => ?_) (fun _ => ?_)) | (refine Trip.skip ?_; (change Trip _ _ _ _ _)) | (refine OpsL.nil ?_; (change Trip _ _ _ _ _)))
  · have hlt : i < m.of.length := by omega
    refine OpsL.loadM (hb.ext hx okG) ?_ (by (first | (simp only [ASt.ev, tmPut, ↓reduceIte, Nat.reduceEqDiff, *]; done))) (by subst_vars; decide)
    repeat (first | (refine OpsL.q (by exact omv) ?_))
    refine OpsL.c2 (hf := entersRState) (hc := (rstateC W0 (hG.ext hx okG) hn hlt (by omega) (by omega) (by omega))) (h := ?_)
    rintro v1 nx1 H1 ⟨rfl, y1⟩
    cases hs : stateF m i
    · repeat (first | (refine OpsL.q (by exact onot) ?_) | (refine OpsL.nil ?_; (change Trip _ _ _ _ _)))
      refine Trip.ifT ?_
      repeat (first | (refine OpsL.q (by exact oasg) ?_) | (refine Trip.seq ?_) | (refine Trip.ops ?_) | (refine Trip.ret ?_; ((repeat (refine blockExit_ret ?_)); dsimp only)) | (refine OpsL.nil ?_; (change Trip _ _ _ _ _)))
      exact ⟨.inr rfl, _, res_tmp, by rw [modF_c (allN_no hlt hs)]; rfl, (x0.trans hx).trans y1⟩
    · repeat (first | (refine OpsL.q (by exact onot) ?_) | (refine OpsL.nil ?_; (change Trip _ _ _ _ _)))
      refine Trip.ifF ?_
      repeat (first | (refine OpsL.q (by first | exact omv | exact oasg | exact oadd) ?_) | (refine Trip.ops ?_) | (refine Trip.skip ?_; ((repeat (refine blockExit_normal ?_)); change Trip _ _ _ _ _)) | (refine OpsL.nil ?_; (dsimp only)))
      exact ⟨i + 1, ⟨_, _, _, rfl, hx.trans y1, by simp [tmPut, *], by simp [tmPut, *], by simp [tmPut, *], by omega, allN_put hall hs⟩, by omega⟩
  · repeat (first | (refine OpsL.q (by exact oasg) ?_) | (refine Trip.seq ?_) | (refine Trip.ops ?_) | (refine Trip.exit ?_; ((repeat (refine blockExit_eq ?_)); change Trip _ _ _ _ _)) | (refine Trip.ret ?_; (dsimp only)) | (refine OpsL.nil ?_; (change Trip _ _ _ _ _)))
    have hi2 : i = m.of.length := by omega
    subst hi2
    exact ⟨.inr rfl, _, res_tmp, by rw [show modF m = true by unfold modF; rw [hsz, hho, hall]; rfl]; rfl, x0.trans hx⟩
end Go.Proofs.Ytooakbmehcchnaa
