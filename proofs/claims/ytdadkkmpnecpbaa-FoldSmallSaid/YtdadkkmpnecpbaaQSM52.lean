import Derived.Test.YtdadkkmpnecpbaaQSM30
import Derived.Test.YtdadkkmpnecpbaaQSM17
namespace Go.Am
set_option linter.unusedSimpArgs false
set_option linter.unusedVariables false
open Go.RowKit
end Go.Am
namespace Go.Proofs.Ytdadkkmpnecpbaa
set_option linter.unusedSimpArgs false
set_option linter.unusedVariables false
open Go.Am Go.RowKit
attribute [local irreducible] aop OpsL Trip blockExit OpsD OpsK OpsR
theorem entersRRow : Am.Enters Try.prog 51 := ⟨Try.f51, Try.func51, by kernel_rfl, by kernel_rfl⟩
set_option maxRecDepth 20000 in
set_option maxHeartbeats 16000000 in
theorem rrowC (W0 : World) {nx : Nat} {H : Heap} {m : Mo} {V : MoV} (hm : MoIn H m V) (hn : MoLen m) {lv : Value} {l : List Int} (hl : IntsAt H lv l) (hll : l.length ≤ 100000) (w k : Int) : ACalls Try.prog W0 51 [.agg (moV m V).toArray, lv, .int .i64 w, .int .i64 k] nx H fun v nx' H' => v = .bool (decide ((l.length : Int) = w) && areF m l k) ∧ Ext nx H nx' H' := by
  refine ACalls.by_trip (fn := Try.f51) (c := _) Try.func51 rfl (fun tm n hn0 htm => ?_)
  have e0 : tm 0 = .agg (moV m V).toArray := htm 0
  have e1 : tm 1 = lv := htm 1
  have e2 : tm 2 = .int .i64 w := htm 2
  have e3 : tm 3 = .int .i64 k := htm 3
  clear htm
  replace hn0 : n = 46 := hn0
  refine Trip.ok fun hok => ?_
  replace hok : ∀ id o, H id = some o → id < nx := hok
  refine Trip.seq ?_
  refine Trip.ops ?_
  refine OpsL.boxM hm hok ?_ (by (first | (simp only [ASt.ev, tmPut, ↓reduceIte, Nat.reduceEqDiff, *]; done))) (by subst_vars; decide)
  intro G x0 okG hb hG
  clear e0
  obtain ⟨oa, oc, ov⟩ := hG.of.slice
  have oh := hG.of
  have g2 := hb.c2
  rw [ov] at oh g2
  obtain ⟨la, lc, rfl⟩ := hl.slice
  have hlG := hl.ext x0 hok
  have q0 := hn.of
  repeat (first | (refine OpsL.q (by first | exact omv | exact oasg | exact olen) ?_) | (refine Trip.seq ?_) | (refine Trip.ops ?_) | (refine OpsL.nil ?_; (change Trip _ _ _ _ _)))
  by_cases hw : ¬ (l.length : Int) = w
  · refine OpsL.neqT ?_ (c := hw)
    rw [decide_eq_false hw]
    clear hw
    repeat (first | (refine OpsL.nil ?_; (change Trip _ _ _ _ _)))
    refine Trip.ifT ?_
    repeat (first | (refine OpsL.q (by exact oasg) ?_) | (refine Trip.seq ?_) | (refine Trip.ops ?_) | (refine Trip.ret ?_; (dsimp only)) | (refine OpsL.nil ?_; (change Trip _ _ _ _ _)))
    exact ⟨.inr rfl, _, res_tmp, rfl, x0⟩
  replace hw := Decidable.not_not.1 hw
  refine OpsL.neqF ?_ (c := hw)
  rw [decide_eq_true hw, Bool.true_and]
  subst hw
  repeat (first | (refine OpsL.nil ?_; (change Trip _ _ _ _ _)))
  refine Trip.ifF ?_
  repeat (first | (refine OpsL.q (by exact oasg) ?_) | (refine Trip.seq ?_) | (refine Trip.ops ?_) | (refine Trip.block ?_) | (refine Trip.skip ?_; (change Trip _ _ _ _ _)) | (refine OpsL.nil ?_; (change Trip _ _ _ _ _)))
  refine Trip.inv (fun (i : Nat) s => ∃ (tm : Nat → Value), s = ⟨tm, n, G, nx + 1⟩ ∧ tm 1 = .slice la l.length lc ∧ tm 2 = .int .i64 l.length ∧ tm 3 = .int .i64 k ∧ tm 4 = .pointer (some ⟨nx, 0, none⟩) ∧ tm 9 = .int .i64 i ∧ i ≤ l.length ∧ allN i (fun i => inF m (l.getD i 0) k) = true) (fun i => l.length - i) 0 ?_ ?_
  · exact ⟨_, rfl, by simp [tmPut, *], by simp [tmPut, *], by simp [tmPut, *], by simp [tmPut, *], by simp [tmPut, *], by omega, allN_zero⟩
  clear e1 e2 e3
  rintro i s ⟨tm, rfl, e1, e2, e3, e4, e9, hi, hall⟩
  repeat (first | (refine OpsL.q (by first | exact omv | exact olss) ?_) | (refine Trip.seq ?_) | (refine Trip.ops ?_) | (refine Trip.block ?_) | (refine Trip.itA (fun _ => ?_) (fun _ => ?_)) | (refine Trip.skip ?_; (change Trip _ _ _ _ _)) | (refine OpsL.nil ?_; (change Trip _ _ _ _ _)))
  · have hlt : i < l.length := by omega
    obtain ⟨q, rfl, hc⟩ := IntsAt.atI hlG (show (0 : Int) ≤ i by omega) (show (i : Int) < l.length by omega)
    rw [Int.toNat_natCast] at hc
    repeat fail
    refine Trip.mono (Q := fun e st => e = .normal ∧ ∃ tm' : Nat → Value, st = ⟨tm', n, G, nx + 1⟩ ∧ tm' 1 = .slice (some q) l.length lc ∧ tm' 2 = .int .i64 l.length ∧ tm' 3 = .int .i64 k ∧ tm' 4 = .pointer (some ⟨nx, 0, none⟩) ∧ tm' 9 = .int .i64 i ∧ tm' 45 = .bool (!inF m (l.getD i 0) k)) ?_ ?_
    · obtain ⟨x, hx⟩ : ∃ x, l.getD i 0 = x := ⟨_, rfl⟩
      rw [hx] at hc ⊢
      refine OpsR.drawnW [] (K := fun _ _ => True) mixed13 (by kernel_rfl) (by kernel_rfl) [0, 1, 2, 3, 4, 5, 6, 7, 8, 9, 10, 11, 12, 13, 14, 15, 16, 17, 18, 19, 20, 21, 22, 23, 24, 25, 26] (by kernel_rfl) trivial ?_
      refine OpsR.one rfl rfl rfl (by kernel_rfl) ?_
      repeat (first | (refine OpsL.q (by exact omv) ?_) | (refine OpsL.nil ?_; (skip)))
      refine OpsR.one rfl rfl rfl (by kernel_rfl) ?_
      repeat (first | (refine OpsL.q (by exact omv) ?_) | (refine OpsL.nil ?_; (skip)))
      refine OpsR.one rfl rfl rfl (by kernel_rfl) ?_
      repeat (first | (refine OpsL.q (by exact oixa) ?_) | (refine OpsL.nil ?_; (dsimp only)))
      refine OpsR.one rfl rfl rfl (by kernel_rfl) ?_
      repeat (first | (refine OpsL.q (by exact old) ?_) | (refine OpsL.nil ?_; (skip)))
      refine OpsR.one rfl rfl rfl (by kernel_rfl) ?_
      by_cases h0 : x < 0
      · refine OpsL.lssT ?_ (c := h0)
        have hF : inF m x k = false := decide_eq_false fun q => by omega
        refine OpsL.nil ?_
        refine OpsR.one rfl rfl rfl (by kernel_rfl) ?_
        repeat (first | (refine OpsL.q (by exact omv) ?_) | (refine OpsL.nil ?_; (skip)))
        refine OpsR.one rfl rfl rfl (by kernel_rfl) ?_
        repeat (first | (refine OpsL.nil ?_; (skip)) | (refine OpsL.skp ?_))
        refine OpsR.one rfl rfl rfl (by kernel_rfl) ?_
        repeat (first | (refine OpsL.nil ?_; (skip)) | (refine OpsL.skp ?_))
        refine OpsR.one rfl rfl rfl (by kernel_rfl) ?_
        repeat (first | (refine OpsL.nil ?_; (skip)) | (refine OpsL.skp ?_))
        refine OpsR.one rfl rfl rfl (by kernel_rfl) ?_
        repeat (first | (refine OpsL.nil ?_; (skip)) | (refine OpsL.skp ?_))
        refine OpsR.one rfl rfl rfl (by kernel_rfl) ?_
        repeat (first | (refine OpsL.nil ?_; (skip)) | (refine OpsL.skp ?_))
        refine OpsR.one rfl rfl rfl (by kernel_rfl) ?_
        repeat (first | (refine OpsL.nil ?_; (skip)) | (refine OpsL.skp ?_))
        refine OpsR.one rfl rfl rfl (by kernel_rfl) ?_
        repeat (first | (refine OpsL.nil ?_; (skip)) | (refine OpsL.skp ?_))
        refine OpsR.one rfl rfl rfl (by kernel_rfl) ?_
        repeat (first | (refine OpsL.nil ?_; (skip)) | (refine OpsL.skp ?_))
        refine OpsR.one rfl rfl rfl (by kernel_rfl) ?_
        repeat (first | (refine OpsL.q (by exact opkT) ?_) | (refine OpsL.nil ?_; (skip)))
        refine OpsR.one rfl rfl rfl (by kernel_rfl) ?_
        repeat (first | (refine OpsL.q (by exact omv) ?_) | (refine OpsL.nil ?_; (skip)))
        refine OpsR.one rfl rfl rfl (by kernel_rfl) ?_
        repeat (first | (refine OpsL.nil ?_; (skip)) | (refine OpsL.skp ?_))
        refine OpsR.one rfl rfl rfl (by kernel_rfl) ?_
        repeat (first | (refine OpsL.nil ?_; (skip)) | (refine OpsL.skp ?_))
        refine OpsR.one rfl rfl rfl (by kernel_rfl) ?_
        repeat (first | (refine OpsL.nil ?_; (skip)) | (refine OpsL.skp ?_))
        refine OpsR.one rfl rfl rfl (by kernel_rfl) ?_
        repeat (first | (refine OpsL.nil ?_; (skip)) | (refine OpsL.skp ?_))
        refine OpsR.one rfl rfl rfl (by kernel_rfl) ?_
        repeat (first | (refine OpsL.nil ?_; (skip)) | (refine OpsL.skp ?_))
        refine OpsR.one rfl rfl rfl (by kernel_rfl) ?_
        repeat (first | (refine OpsL.nil ?_; (skip)) | (refine OpsL.skp ?_))
        refine OpsR.one rfl rfl rfl (by kernel_rfl) ?_
        repeat (first | (refine OpsL.nil ?_; (skip)) | (refine OpsL.skp ?_))
        refine OpsR.one rfl rfl rfl (by kernel_rfl) ?_
        repeat (first | (refine OpsL.nil ?_; (skip)) | (refine OpsL.skp ?_))
        refine OpsR.one rfl rfl rfl (by kernel_rfl) ?_
        repeat (first | (refine OpsL.nil ?_; (skip)) | (refine OpsL.skp ?_))
        refine OpsR.one rfl rfl rfl (by kernel_rfl) ?_
        repeat (first | (refine OpsL.nil ?_; (skip)) | (refine OpsL.skp ?_))
        refine OpsR.one rfl rfl rfl (by kernel_rfl) ?_
        repeat (first | (refine OpsL.q (by exact opkT) ?_) | (refine OpsL.nil ?_; (skip)))
        refine OpsR.nil ?_
        exact ⟨rfl, _, rfl, by simp [tmPut, *], by simp [tmPut, *], by simp [tmPut, *], by simp [tmPut, *], by simp [tmPut, *], by simp [tmPut, *]⟩
      refine OpsL.lssF ?_ (c := h0)
      refine OpsL.nil ?_
      refine OpsR.one rfl rfl rfl (by kernel_rfl) ?_
      repeat (first | (refine OpsL.q (by exact omv) ?_) | (refine OpsL.nil ?_; (skip)))
      refine OpsR.one rfl rfl rfl (by kernel_rfl) ?_
      repeat (first | (refine OpsL.q (by exact omv) ?_) | (refine OpsL.nil ?_; (skip)) | (refine OpsL.ung ?_))
      refine OpsR.one rfl rfl rfl (by kernel_rfl) ?_
      repeat (first | (refine OpsL.q (by exact omv) ?_) | (refine OpsL.nil ?_; (skip)) | (refine OpsL.ung ?_))
      refine OpsR.one rfl rfl rfl (by kernel_rfl) ?_
      repeat (first | (refine OpsL.q (by exact oixa) ?_) | (refine OpsL.nil ?_; (dsimp only)) | (refine OpsL.ung ?_))
      refine OpsR.one rfl rfl rfl (by kernel_rfl) ?_
      repeat (first | (refine OpsL.q (by exact old) ?_) | (refine OpsL.nil ?_; (skip)) | (refine OpsL.ung ?_))
      refine OpsR.one rfl rfl rfl (by kernel_rfl) ?_
      repeat (first | (refine OpsL.q (by exact ofa) ?_) | (refine OpsL.nil ?_; (dsimp only)) | (refine OpsL.ung ?_))
      refine OpsR.one rfl rfl rfl (by kernel_rfl) ?_
      repeat (first | (refine OpsL.q (by exact old) ?_) | (refine OpsL.nil ?_; (skip)) | (refine OpsL.ung ?_))
      refine OpsR.one rfl rfl rfl (by kernel_rfl) ?_
      repeat (first | (refine OpsL.q (by exact olen) ?_) | (refine OpsL.nil ?_; (skip)) | (refine OpsL.ung ?_))
      refine OpsR.one rfl rfl rfl (by kernel_rfl) ?_
      refine OpsL.ung ?_
      by_cases h1 : (m.of.length : Int) ≤ x
      · refine OpsL.geqT ?_ (c := h1)
        have hF : inF m x k = false := decide_eq_false fun q => by omega
        refine OpsL.nil ?_
        refine OpsR.one rfl rfl rfl (by kernel_rfl) ?_
        repeat (first | (refine OpsL.q (by exact opkF) ?_) | (refine OpsL.nil ?_; (skip)))
        refine OpsR.one rfl rfl rfl (by kernel_rfl) ?_
        repeat (first | (refine OpsL.q (by exact omv) ?_) | (refine OpsL.nil ?_; (skip)))
        refine OpsR.one rfl rfl rfl (by kernel_rfl) ?_
        repeat (first | (refine OpsL.nil ?_; (skip)) | (refine OpsL.skp ?_))
        refine OpsR.one rfl rfl rfl (by kernel_rfl) ?_
        repeat (first | (refine OpsL.nil ?_; (skip)) | (refine OpsL.skp ?_))
        refine OpsR.one rfl rfl rfl (by kernel_rfl) ?_
        repeat (first | (refine OpsL.nil ?_; (skip)) | (refine OpsL.skp ?_))
        refine OpsR.one rfl rfl rfl (by kernel_rfl) ?_
        repeat (first | (refine OpsL.nil ?_; (skip)) | (refine OpsL.skp ?_))
        refine OpsR.one rfl rfl rfl (by kernel_rfl) ?_
        repeat (first | (refine OpsL.nil ?_; (skip)) | (refine OpsL.skp ?_))
        refine OpsR.one rfl rfl rfl (by kernel_rfl) ?_
        repeat (first | (refine OpsL.nil ?_; (skip)) | (refine OpsL.skp ?_))
        refine OpsR.one rfl rfl rfl (by kernel_rfl) ?_
        repeat (first | (refine OpsL.nil ?_; (skip)) | (refine OpsL.skp ?_))
        refine OpsR.one rfl rfl rfl (by kernel_rfl) ?_
        repeat (first | (refine OpsL.nil ?_; (skip)) | (refine OpsL.skp ?_))
        refine OpsR.one rfl rfl rfl (by kernel_rfl) ?_
        repeat (first | (refine OpsL.nil ?_; (skip)) | (refine OpsL.skp ?_))
        refine OpsR.one rfl rfl rfl (by kernel_rfl) ?_
        repeat (first | (refine OpsL.nil ?_; (skip)) | (refine OpsL.skp ?_))
        refine OpsR.one rfl rfl rfl (by kernel_rfl) ?_
        repeat (first | (refine OpsL.q (by exact opkT) ?_) | (refine OpsL.nil ?_; (skip)))
        refine OpsR.nil ?_
        exact ⟨rfl, _, rfl, by simp [tmPut, *], by simp [tmPut, *], by simp [tmPut, *], by simp [tmPut, *], by simp [tmPut, *], by simp [tmPut, *]⟩
      refine OpsL.geqF ?_ (c := h1)
      refine OpsL.nil ?_
      obtain ⟨q5, rfl, hc5⟩ := IntsAt.atI oh (show 0 ≤ x by omega) (show x < m.of.length by omega)
      refine OpsR.one rfl rfl rfl (by kernel_rfl) ?_
      repeat (first | (refine OpsL.q (by exact opkF) ?_) | (refine OpsL.nil ?_; (skip)))
      refine OpsR.one rfl rfl rfl (by kernel_rfl) ?_
      repeat (first | (refine OpsL.q (by exact omv) ?_) | (refine OpsL.nil ?_; (skip)))
      refine OpsR.one rfl rfl rfl (by kernel_rfl) ?_
      repeat (first | (refine OpsL.q (by exact ofa) ?_) | (refine OpsL.nil ?_; (dsimp only)) | (refine OpsL.ung ?_))
      refine OpsR.one rfl rfl rfl (by kernel_rfl) ?_
      repeat (first | (refine OpsL.q (by exact old) ?_) | (refine OpsL.nil ?_; (skip)) | (refine OpsL.ung ?_))
      refine OpsR.one rfl rfl rfl (by kernel_rfl) ?_
      repeat (first | (refine OpsL.q (by exact omv) ?_) | (refine OpsL.nil ?_; (skip)) | (refine OpsL.ung ?_))
      refine OpsR.one rfl rfl rfl (by kernel_rfl) ?_
      repeat (first | (refine OpsL.q (by exact omv) ?_) | (refine OpsL.nil ?_; (skip)) | (refine OpsL.ung ?_))
      refine OpsR.one rfl rfl rfl (by kernel_rfl) ?_
      repeat (first | (refine OpsL.q (by exact oixa) ?_) | (refine OpsL.nil ?_; (dsimp only)) | (refine OpsL.ung ?_))
      refine OpsR.one rfl rfl rfl (by kernel_rfl) ?_
      repeat (first | (refine OpsL.q (by exact old) ?_) | (refine OpsL.nil ?_; (skip)) | (refine OpsL.ung ?_))
      refine OpsR.one rfl rfl rfl (by kernel_rfl) ?_
      repeat (first | (refine OpsL.q (by exact oixa) ?_) | (refine OpsL.nil ?_; (dsimp only)) | (refine OpsL.ung ?_))
      refine OpsR.one rfl rfl rfl (by kernel_rfl) ?_
      repeat (first | (refine OpsL.q (by exact old) ?_) | (refine OpsL.nil ?_; (skip)) | (refine OpsL.ung ?_))
      refine OpsR.one rfl rfl rfl (by kernel_rfl) ?_
      repeat (first | (refine OpsL.q (by exact omv) ?_) | (refine OpsL.nil ?_; (skip)) | (refine OpsL.ung ?_))
      refine OpsR.one rfl rfl rfl (by kernel_rfl) ?_
      refine OpsL.ung ?_
      by_cases h2 : m.of.getD x.toNat 0 = k
      · refine OpsL.neqF ?_ (c := h2)
        have hF : inF m x k = true := decide_eq_true ⟨⟨by omega, by omega⟩, h2⟩
        clear h2
        refine OpsL.nil ?_
        refine OpsR.one rfl rfl rfl (by kernel_rfl) ?_
        repeat (first | (refine OpsL.q (by exact opkF) ?_) | (refine OpsL.nil ?_; (skip)))
        refine OpsR.nil ?_
        exact ⟨rfl, _, rfl, by simp [tmPut, *], by simp [tmPut, *], by simp [tmPut, *], by simp [tmPut, *], by simp [tmPut, *], by simp [tmPut, *]⟩
      · refine OpsL.neqT ?_ (c := h2)
        have hF : inF m x k = false := decide_eq_false fun q => h2 q.2
        clear h2
        refine OpsL.nil ?_
        refine OpsR.one rfl rfl rfl (by kernel_rfl) ?_
        repeat (first | (refine OpsL.q (by exact opkF) ?_) | (refine OpsL.nil ?_; (skip)))
        refine OpsR.nil ?_
        exact ⟨rfl, _, rfl, by simp [tmPut, *], by simp [tmPut, *], by simp [tmPut, *], by simp [tmPut, *], by simp [tmPut, *], by simp [tmPut, *]⟩
    clear e1 e2 e3 e4 e9
    rintro e st ⟨rfl, tm, rfl, e1, e2, e3, e4, e9, e45⟩
    (change Trip _ _ _ _ _)
    cases hs : inF m (l.getD i 0) k
    · rw [hs] at e45
      replace e45 : tm 45 = .bool true := e45
      repeat fail
      refine Trip.ifT ?_
      repeat (first | (refine OpsL.q (by exact oasg) ?_) | (refine Trip.seq ?_) | (refine Trip.ops ?_) | (refine Trip.ret ?_; ((repeat (refine blockExit_ret ?_)); dsimp only)) | (refine OpsL.nil ?_; (change Trip _ _ _ _ _)))
      exact ⟨.inr rfl, _, res_tmp, by rw [show areF m l k = false from allN_no hlt hs]; rfl, x0⟩
    · rw [hs] at e45
      replace e45 : tm 45 = .bool false := e45
      repeat fail
      refine Trip.ifF ?_
      repeat (first | (refine OpsL.q (by first | exact omv | exact oasg | exact oadd) ?_) | (refine Trip.ops ?_) | (refine Trip.skip ?_; ((repeat (refine blockExit_normal ?_)); change Trip _ _ _ _ _)) | (refine OpsL.nil ?_; (dsimp only)))
      exact ⟨i + 1, ⟨_, rfl, by simp [tmPut, *], by simp [tmPut, *], by simp [tmPut, *], by simp [tmPut, *], by simp [tmPut, *], by omega, allN_put hall hs⟩, by omega⟩
  · repeat (first | (refine OpsL.q (by exact oasg) ?_) | (refine Trip.seq ?_) | (refine Trip.ops ?_) | (refine Trip.exit ?_; ((repeat (refine blockExit_eq ?_)); change Trip _ _ _ _ _)) | (refine Trip.ret ?_; (dsimp only)) | (refine OpsL.nil ?_; (change Trip _ _ _ _ _)))
    have hi2 : i = l.length := by omega
    subst hi2
    exact ⟨.inr rfl, _, res_tmp, by rw [show areF m l k = true from hall]; rfl, x0⟩
end Go.Proofs.Ytdadkkmpnecpbaa
