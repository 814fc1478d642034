import Derived.Test.YtdadkkmpnecpbaaQSM53
import Derived.Test.YtdadkkmpnecpbaaQSM17
namespace Go.Am
set_option linter.unusedSimpArgs false
set_option linter.unusedVariables false
theorem boolN {P : Prop} [Decidable P] (h : ¬ P) : Value.bool true = Value.bool (!decide P) := by rw [decide_eq_false h]; rfl
theorem boolX {P Q : Prop} [Decidable P] [Decidable Q] (h : Q ↔ ¬ P) : Value.bool (decide Q) = Value.bool (!decide P) := by
  by_cases hp : P
  · rw [decide_eq_false (fun q => h.1 q hp), decide_eq_true hp]; rfl
  · rw [decide_eq_true (h.2 hp), decide_eq_false hp]; rfl
open Go.RowKit in
theorem OpsL.monoX {P : Program} {W0 : World} {ops : Array Oper} {Q R : ASt → Prop} (hq : ∀ s, Q s → R s) : ∀ (l : List Oper) (st : ASt), OpsL P W0 ops l st Q → OpsL P W0 ops l st R := by
  intro l
  induction l with
  | nil => intro st h; exact hq _ h
  | cons o l ih =>
    intro st h
    obtain ⟨hd, h⟩ := h
    refine ⟨hd, ?_⟩
    rcases h with ⟨hw, h⟩ | ⟨hw, ⟨v, e, hop, h⟩ | ⟨f, args, R', hc, hf, hcall, h⟩⟩
    · exact .inl ⟨hw, ih _ h⟩
    · exact .inr ⟨hw, .inl ⟨v, e, hop, ih _ h⟩⟩
    · exact .inr ⟨hw, .inr ⟨f, args, R', hc, hf, hcall, fun v nx' H' hr => ih _ (h v nx' H' hr)⟩⟩
theorem modF_a {m : Mo} (h : sizedF m = false) : (if modF m then (0 : Int) else 11) = 11 := by simp [modF, h]
theorem modF_b {m : Mo} (h : housedF m = false) : (if modF m then (0 : Int) else 11) = 11 := by simp [modF, h]
theorem modF_c {m : Mo} (h : allN m.of.length (stateF m) = false) : (if modF m then (0 : Int) else 11) = 11 := by simp [modF, h]
end Go.Am
namespace Go.Proofs.Ytdadkkmpnecpbaa
set_option linter.unusedSimpArgs false
set_option linter.unusedVariables false
open Go.Am Go.RowKit
attribute [local irreducible] aop OpsL Trip blockExit OpsD OpsK OpsR
theorem entersRCheck : Am.Enters Try.prog 23 := ⟨Try.f23, Try.func23, by kernel_rfl, by kernel_rfl⟩
set_option maxRecDepth 20000 in
set_option maxHeartbeats 16000000 in
theorem rcheckC (W0 : World) {nx : Nat} {H : Heap} {m : Mo} {V : MoV} (hm : MoIn H m V) (hn : MoLen m) : ACalls Try.prog W0 23 [.agg (moV m V).toArray] nx H fun v nx' H' => v = .int .i64 (if modF m then 0 else 11) ∧ Ext nx H nx' H' := by
  refine ACalls.by_trip (fn := Try.f23) (c := _) Try.func23 rfl (fun tm n hn0 htm => ?_)
  have e0 : tm 0 = .agg (moV m V).toArray := htm 0
  clear htm
  replace hn0 : n = 136 := hn0
  refine Trip.ok fun hok => ?_
  replace hok : ∀ id o, H id = some o → id < nx := hok
  refine Trip.seq ?_
  refine Trip.ops ?_
  refine OpsL.boxM hm hok ?_ (by (first | (simp only [ASt.ev, tmPut, ↓reduceIte, Nat.reduceEqDiff, *]; done))) (by subst_vars; decide)
  intro G x0 okG hb hG
  clear e0
  obtain ⟨oa, oc, ov⟩ := hG.of.slice
  have oh := hG.of
  have g2 := hb.c2
  rw [ov] at oh g2
  obtain ⟨ea, ec, ev⟩ := hG.entry.slice
  have eh := hG.entry
  have g3 := hb.c3
  rw [ev] at eh g3
  obtain ⟨fa, fc, fv⟩ := hG.final.slice
  have fh := hG.final
  have g4 := hb.c4
  rw [fv] at fh g4
  obtain ⟨ia, ic, iv⟩ := hG.inn.slice
  have ih := hG.inn
  have g5 := hb.c5
  rw [iv] at ih g5
  obtain ⟨la, lc, lv⟩ := hG.low.slice
  have lh := hG.low
  have g6 := hb.c6
  rw [lv] at lh g6
  obtain ⟨ra, rc, rv⟩ := hG.ret.slice
  have rh := hG.ret
  have g7 := hb.c7
  rw [rv] at rh g7
  have g0 := hb.c0
  have g1 := hb.c1
  have q0 := hn.of
  have q1 := hn.entry
  repeat (first | (refine OpsL.q (by exact oasg) ?_) | (refine Trip.seq ?_) | (refine OpsL.nil ?_; (change Trip _ _ _ _ _)))
  refine Trip.mono (Q := fun e st => e = .normal ∧ ∃ (tm' : Nat → Value), st = ⟨tm', n, G, nx + 1⟩ ∧ tm' 1 = .pointer (some ⟨nx, 0, none⟩) ∧ tm' 3 = .int .i64 m.of.length ∧ tm' 4 = .int .i64 m.entry.length) ?_ ?_
  · refine OpsR.drawnW [] (K := fun _ _ => True) mixed13 (by kernel_rfl) (by kernel_rfl) [0, 1, 2, 3, 4, 5, 6, 7] (by kernel_rfl) trivial ?_
    refine OpsR.one rfl rfl rfl (by kernel_rfl) ?_
    repeat (first | (refine OpsL.q (by exact ofa) ?_) | (refine OpsL.nil ?_; (dsimp only)))
    refine OpsR.one rfl rfl rfl (by kernel_rfl) ?_
    repeat (first | (refine OpsL.q (by exact old) ?_) | (refine OpsL.nil ?_; (skip)))
    refine OpsR.one rfl rfl rfl (by kernel_rfl) ?_
    repeat (first | (refine OpsL.q (by exact olen) ?_) | (refine OpsL.nil ?_; (skip)))
    refine OpsR.one rfl rfl rfl (by kernel_rfl) ?_
    repeat (first | (refine OpsL.q (by exact ofa) ?_) | (refine OpsL.nil ?_; (dsimp only)))
    refine OpsR.one rfl rfl rfl (by kernel_rfl) ?_
    repeat (first | (refine OpsL.q (by exact old) ?_) | (refine OpsL.nil ?_; (skip)))
    refine OpsR.one rfl rfl rfl (by kernel_rfl) ?_
    repeat (first | (refine OpsL.q (by exact olen) ?_) | (refine OpsL.nil ?_; (skip)))
    refine OpsR.one rfl rfl rfl (by kernel_rfl) ?_
    repeat (first | (refine OpsL.q (by exact oasg) ?_) | (refine OpsL.nil ?_; (skip)))
    refine OpsR.one rfl rfl rfl (by kernel_rfl) ?_
    repeat (first | (refine OpsL.q (by exact oasg) ?_) | (refine OpsL.nil ?_; (skip)))
    refine OpsR.nil ?_
    exact ⟨rfl, _, rfl, by simp [tmPut, *], by simp [tmPut, *], by simp [tmPut, *]⟩
  rintro e st ⟨rfl, tm, rfl, e1, e3, e4⟩
  (change Trip _ _ _ _ _)
  refine Trip.seq (Trip.seq ?_)
  refine Trip.mono (Q := fun e st => e = .normal ∧ ∃ (tm' : Nat → Value), st = ⟨tm', n, G, nx + 1⟩ ∧ tm' 1 = .pointer (some ⟨nx, 0, none⟩) ∧ tm' 3 = .int .i64 m.of.length ∧ tm' 4 = .int .i64 m.entry.length ∧ tm' 47 = .bool (!decide ((0 ≤ m.plains ∧ m.plains ≤ 20) ∧ (0 ≤ m.closings ∧ m.closings ≤ 20) ∧ (1 ≤ (m.of.length : Int) ∧ (m.of.length : Int) ≤ 60) ∧ (1 ≤ (m.entry.length : Int) ∧ (m.entry.length : Int) ≤ 21)))) ?_ ?_
  · repeat' (first | (refine OpsL.q (by first | exact omv | exact olss | exact ogtr | exact ofa | exact old | exact opkT | exact opkF) ?_) | (refine Trip.ops ?_) | (refine OpsL.nil ?_; (dsimp only)) | (refine OpsL.ung ?_) | (refine OpsL.skp ?_) | (refine OpsL.gF (fun _ => ?_) (fun _ => ?_)))
    all_goals first | exact ⟨rfl, _, rfl, by simp only [tmPut, ↓reduceIte, reduceIte, Nat.reduceEqDiff, *], by simp only [tmPut, ↓reduceIte, reduceIte, Nat.reduceEqDiff, *], by simp only [tmPut, ↓reduceIte, reduceIte, Nat.reduceEqDiff, *], boolN (by omega)⟩ | exact ⟨rfl, _, rfl, by simp only [tmPut, ↓reduceIte, reduceIte, Nat.reduceEqDiff, *], by simp only [tmPut, ↓reduceIte, reduceIte, Nat.reduceEqDiff, *], by simp only [tmPut, ↓reduceIte, reduceIte, Nat.reduceEqDiff, *], boolX (by omega)⟩
  clear e1 e3 e4
  rintro e st ⟨rfl, tm, rfl, e1, e3, e4, e47⟩
  (change Trip _ _ _ _ _)
  by_cases hS : (0 ≤ m.plains ∧ m.plains ≤ 20) ∧ (0 ≤ m.closings ∧ m.closings ≤ 20) ∧ (1 ≤ (m.of.length : Int) ∧ (m.of.length : Int) ≤ 60) ∧ (1 ≤ (m.entry.length : Int) ∧ (m.entry.length : Int) ≤ 21)
  case neg =>
    rw [decide_eq_false hS] at e47
    replace e47 : tm 47 = .bool true := e47
    have hz : sizedF m = false := decide_eq_false fun q => hS ⟨q.1, q.2.1, q.2.2.1, q.2.2.2.1⟩
    clear hS
    repeat fail
    refine Trip.ifT ?_
    repeat (first | (refine OpsL.q (by exact oasg) ?_) | (refine Trip.seq ?_) | (refine Trip.ops ?_) | (refine Trip.ret ?_; (dsimp only)) | (refine OpsL.nil ?_; (change Trip _ _ _ _ _)))
    exact ⟨.inr rfl, _, res_tmp, by rw [modF_a hz]; rfl, x0⟩
  rw [decide_eq_true hS] at e47
  replace e47 : tm 47 = .bool false := e47
  obtain ⟨S1, S2, S4, S5⟩ := hS
  repeat fail
  refine Trip.ifF ?_
  repeat (first | (refine OpsL.q (by exact oasg) ?_) | (refine Trip.seq ?_) | (refine Trip.ops ?_) | (refine Trip.block ?_) | (refine Trip.skip ?_; (change Trip _ _ _ _ _)) | (refine OpsL.nil ?_; (change Trip _ _ _ _ _)))
  refine Trip.inv (fun (i : Nat) s => ∃ (tm : Nat → Value), s = ⟨tm, n, G, nx + 1⟩ ∧ tm 1 = .pointer (some ⟨nx, 0, none⟩) ∧ tm 3 = .int .i64 m.of.length ∧ tm 4 = .int .i64 m.entry.length ∧ tm 5 = .int .i64 i ∧ i ≤ m.of.length ∧ allN i (fun i => decide (0 ≤ m.of.getD i 0 ∧ m.of.getD i 0 ≤ (m.entry.length : Int) - 1)) = true) (fun i => m.of.length - i) 0 ?_ ?_
  · exact ⟨_, rfl, by simp [tmPut, *], by simp [tmPut, *], by simp [tmPut, *], by simp [tmPut, *], by omega, allN_zero⟩
  clear e1 e3 e4 e47
  rintro i s ⟨tm, rfl, e1, e3, e4, e5, hi, hall⟩
  repeat (first | (refine OpsL.q (by first | exact omv | exact olss) ?_) | (refine Trip.seq ?_) | (refine Trip.ops ?_) | (refine Trip.block ?_) | (refine Trip.itA (fun _ => ?_) (fun _ => ?_)) | (refine Trip.skip ?_; (change Trip _ _ _ _ _)) | (refine OpsL.nil ?_; (change Trip _ _ _ _ _)))
  · have hlt : i < m.of.length := by omega
    obtain ⟨q, hq, hc⟩ := IntsAt.atI oh (show (0 : Int) ≤ i by omega) (show (i : Int) < m.of.length by omega)
    rw [hq] at g2
    rw [Int.toNat_natCast] at hc
    obtain ⟨x, hx⟩ : ∃ x, m.of.getD i 0 = x := ⟨_, rfl⟩
    rw [hx] at hc
    refine OpsL.monoX (Q := fun st => ∃ (tm' : Nat → Value), st = ⟨tm', n, G, nx + 1⟩ ∧ tm' 1 = .pointer (some ⟨nx, 0, none⟩) ∧ tm' 3 = .int .i64 m.of.length ∧ tm' 4 = .int .i64 m.entry.length ∧ tm' 5 = .int .i64 i ∧ tm' 67 = .bool (!decide (0 ≤ x ∧ x ≤ (m.entry.length : Int) - 1))) ?_ _ _ ?_
    rotate_left
    · repeat' (first | (refine OpsL.q (by first | exact omv | exact olss | exact ogeq | exact oixa | exact ofa | exact old | exact opkT | exact opkF) ?_) | (refine OpsL.nil ?_; (dsimp only)) | (refine OpsL.ung ?_) | (refine OpsL.skp ?_) | (refine OpsL.gF (fun _ => ?_) (fun _ => ?_)))
      all_goals first | exact ⟨_, rfl, by simp only [tmPut, ↓reduceIte, reduceIte, Nat.reduceEqDiff, *], by simp only [tmPut, ↓reduceIte, reduceIte, Nat.reduceEqDiff, *], by simp only [tmPut, ↓reduceIte, reduceIte, Nat.reduceEqDiff, *], by simp only [tmPut, ↓reduceIte, reduceIte, Nat.reduceEqDiff, *], boolN (by omega)⟩ | exact ⟨_, rfl, by simp only [tmPut, ↓reduceIte, reduceIte, Nat.reduceEqDiff, *], by simp only [tmPut, ↓reduceIte, reduceIte, Nat.reduceEqDiff, *], by simp only [tmPut, ↓reduceIte, reduceIte, Nat.reduceEqDiff, *], by simp only [tmPut, ↓reduceIte, reduceIte, Nat.reduceEqDiff, *], boolX (by omega)⟩
    clear e1 e3 e4 e5
    rintro st ⟨tm, rfl, e1, e3, e4, e5, e67⟩
    (change Trip _ _ _ _ _)
    by_cases hd : 0 ≤ x ∧ x ≤ (m.entry.length : Int) - 1
    · rw [decide_eq_true hd] at e67
      replace e67 : tm 67 = .bool false := e67
      have hd2 : decide (0 ≤ m.of.getD i 0 ∧ m.of.getD i 0 ≤ (m.entry.length : Int) - 1) = true := by rw [hx]; exact decide_eq_true hd
      clear hd
      repeat fail
      refine Trip.ifF ?_
      repeat (first | (refine OpsL.q (by first | exact omv | exact oasg | exact oadd) ?_) | (refine Trip.ops ?_) | (refine Trip.skip ?_; ((repeat (refine blockExit_normal ?_)); change Trip _ _ _ _ _)) | (refine OpsL.nil ?_; (dsimp only)))
      exact ⟨i + 1, ⟨_, rfl, by simp [tmPut, *], by simp [tmPut, *], by simp [tmPut, *], by simp [tmPut, *], by omega, allN_put hall hd2⟩, by omega⟩
    · rw [decide_eq_false hd] at e67
      replace e67 : tm 67 = .bool true := e67
      have hz : housedF m = false := by
        unfold housedF
        rw [allN_no hlt (show decide (0 ≤ m.of.getD i 0 ∧ m.of.getD i 0 ≤ (m.entry.length : Int) - 1) = false by rw [hx]; exact decide_eq_false hd)]
        rfl
      clear hd
      repeat fail
      refine Trip.ifT ?_
      repeat (first | (refine OpsL.q (by exact oasg) ?_) | (refine Trip.seq ?_) | (refine Trip.ops ?_) | (refine Trip.ret ?_; ((repeat (refine blockExit_ret ?_)); dsimp only)) | (refine OpsL.nil ?_; (change Trip _ _ _ _ _)))
      exact ⟨.inr rfl, _, res_tmp, by rw [modF_b hz]; rfl, x0⟩
  have hi2 : i = m.of.length := by omega
  subst hi2
  have hall1 := hall
  clear hall
  repeat (first | (refine OpsL.q (by exact oasg) ?_) | (refine Trip.seq ?_) | (refine Trip.ops ?_) | (refine Trip.block ?_) | (refine Trip.exit ?_; ((repeat (refine blockExit_eq ?_)); change Trip _ _ _ _ _)) | (refine OpsL.nil ?_; (change Trip _ _ _ _ _)))
  refine Trip.inv (fun (i : Nat) s => ∃ (tm : Nat → Value), s = ⟨tm, n, G, nx + 1⟩ ∧ tm 1 = .pointer (some ⟨nx, 0, none⟩) ∧ tm 3 = .int .i64 m.of.length ∧ tm 4 = .int .i64 m.entry.length ∧ tm 6 = .int .i64 i ∧ i ≤ m.entry.length ∧ allN i (fun i => inF m (m.entry.getD i 0) i) = true) (fun i => m.entry.length - i) 0 ?_ ?_
  · exact ⟨_, rfl, by simp [tmPut, *], by simp [tmPut, *], by simp [tmPut, *], by simp [tmPut, *], by omega, allN_zero⟩
  clear e1 e3 e4 e5
  rintro i s ⟨tm, rfl, e1, e3, e4, e6, hi, hall⟩
  repeat (first | (refine OpsL.q (by first | exact omv | exact olss) ?_) | (refine Trip.seq ?_) | (refine Trip.ops ?_) | (refine Trip.block ?_) | (refine Trip.itA (fun _ => ?_) (fun _ => ?_)) | (refine Trip.skip ?_; (change Trip _ _ _ _ _)) | (refine OpsL.nil ?_; (change Trip _ _ _ _ _)))
  · have hlt : i < m.entry.length := by omega
    obtain ⟨q, hq, hc⟩ := IntsAt.atI eh (show (0 : Int) ≤ i by omega) (show (i : Int) < m.entry.length by omega)
    rw [hq] at g3
    rw [Int.toNat_natCast] at hc
    obtain ⟨x, hx⟩ : ∃ x, m.entry.getD i 0 = x := ⟨_, rfl⟩
    rw [hx] at hc
    refine Trip.mono (Q := fun e st => e = .normal ∧ ∃ (tm' : Nat → Value), st = ⟨tm', n, G, nx + 1⟩ ∧ tm' 1 = .pointer (some ⟨nx, 0, none⟩) ∧ tm' 3 = .int .i64 m.of.length ∧ tm' 4 = .int .i64 m.entry.length ∧ tm' 6 = .int .i64 i ∧ tm' 100 = .bool (!inF m x i)) ?_ ?_
    · refine OpsR.drawnW [] (K := fun _ _ => True) mixed13 (by kernel_rfl) (by kernel_rfl) [0, 1, 2, 3, 4, 5, 6, 7, 8, 9, 10, 11, 12, 13, 14, 15, 16, 17, 18, 19, 20, 21, 22, 23, 24, 25, 26, 27] (by kernel_rfl) trivial ?_
      refine OpsR.one rfl rfl rfl (by kernel_rfl) ?_
      repeat (first | (refine OpsL.q (by exact ofa) ?_) | (refine OpsL.nil ?_; (dsimp only)))
      refine OpsR.one rfl rfl rfl (by kernel_rfl) ?_
      repeat (first | (refine OpsL.q (by exact old) ?_) | (refine OpsL.nil ?_; (skip)))
      refine OpsR.one rfl rfl rfl (by kernel_rfl) ?_
      repeat (first | (refine OpsL.q (by exact omv) ?_) | (refine OpsL.nil ?_; (skip)))
      refine OpsR.one rfl rfl rfl (by kernel_rfl) ?_
      repeat (first | (refine OpsL.q (by exact oixa) ?_) | (refine OpsL.nil ?_; (dsimp only)))
      refine OpsR.one rfl rfl rfl (by kernel_rfl) ?_
      repeat (first | (refine OpsL.q (by exact old) ?_) | (refine OpsL.nil ?_; (skip)))
      refine OpsR.one rfl rfl rfl (by kernel_rfl) ?_
      by_cases h0 : x < 0
      · refine OpsL.lssT ?_ (c := h0)
        have hF : inF m x i = false := decide_eq_false fun q => by omega
        refine OpsL.nil ?_
        refine OpsR.one rfl rfl rfl (by kernel_rfl) ?_
        repeat (first | (refine OpsL.q (by exact omv) ?_) | (refine OpsL.nil ?_; (skip)))
        refine OpsR.one rfl rfl rfl (by kernel_rfl) ?_
        repeat (first | (refine OpsL.nil ?_; (skip)) | (refine OpsL.skp ?_))
        refine OpsR.one rfl rfl rfl (by kernel_rfl) ?_
        repeat (first | (refine OpsL.nil ?_; (skip)) | (refine OpsL.skp ?_))
        refine OpsR.one rfl rfl rfl (by kernel_rfl) ?_
        repeat (first | (refine OpsL.nil ?_; (skip)) | (refine OpsL.skp ?_))
        refine OpsR.one rfl rfl rfl (by kernel_rfl) ?_
        repeat (first | (refine OpsL.nil ?_; (skip)) | (refine OpsL.skp ?_))
        refine OpsR.one rfl rfl rfl (by kernel_rfl) ?_
        repeat (first | (refine OpsL.nil ?_; (skip)) | (refine OpsL.skp ?_))
        refine OpsR.one rfl rfl rfl (by kernel_rfl) ?_
        repeat (first | (refine OpsL.nil ?_; (skip)) | (refine OpsL.skp ?_))
        refine OpsR.one rfl rfl rfl (by kernel_rfl) ?_
        repeat (first | (refine OpsL.nil ?_; (skip)) | (refine OpsL.skp ?_))
        refine OpsR.one rfl rfl rfl (by kernel_rfl) ?_
        repeat (first | (refine OpsL.q (by exact opkT) ?_) | (refine OpsL.nil ?_; (skip)))
        refine OpsR.one rfl rfl rfl (by kernel_rfl) ?_
        repeat (first | (refine OpsL.q (by exact omv) ?_) | (refine OpsL.nil ?_; (skip)))
        refine OpsR.one rfl rfl rfl (by kernel_rfl) ?_
        repeat (first | (refine OpsL.nil ?_; (skip)) | (refine OpsL.skp ?_))
        refine OpsR.one rfl rfl rfl (by kernel_rfl) ?_
        repeat (first | (refine OpsL.nil ?_; (skip)) | (refine OpsL.skp ?_))
        refine OpsR.one rfl rfl rfl (by kernel_rfl) ?_
        repeat (first | (refine OpsL.nil ?_; (skip)) | (refine OpsL.skp ?_))
        refine OpsR.one rfl rfl rfl (by kernel_rfl) ?_
        repeat (first | (refine OpsL.nil ?_; (skip)) | (refine OpsL.skp ?_))
        refine OpsR.one rfl rfl rfl (by kernel_rfl) ?_
        repeat (first | (refine OpsL.nil ?_; (skip)) | (refine OpsL.skp ?_))
        refine OpsR.one rfl rfl rfl (by kernel_rfl) ?_
        repeat (first | (refine OpsL.nil ?_; (skip)) | (refine OpsL.skp ?_))
        refine OpsR.one rfl rfl rfl (by kernel_rfl) ?_
        repeat (first | (refine OpsL.nil ?_; (skip)) | (refine OpsL.skp ?_))
        refine OpsR.one rfl rfl rfl (by kernel_rfl) ?_
        repeat (first | (refine OpsL.nil ?_; (skip)) | (refine OpsL.skp ?_))
        refine OpsR.one rfl rfl rfl (by kernel_rfl) ?_
        repeat (first | (refine OpsL.nil ?_; (skip)) | (refine OpsL.skp ?_))
        refine OpsR.one rfl rfl rfl (by kernel_rfl) ?_
        repeat (first | (refine OpsL.nil ?_; (skip)) | (refine OpsL.skp ?_))
        refine OpsR.one rfl rfl rfl (by kernel_rfl) ?_
        repeat (first | (refine OpsL.nil ?_; (skip)) | (refine OpsL.skp ?_))
        refine OpsR.one rfl rfl rfl (by kernel_rfl) ?_
        repeat (first | (refine OpsL.q (by exact opkT) ?_) | (refine OpsL.nil ?_; (skip)))
        refine OpsR.nil ?_
        exact ⟨rfl, _, rfl, by simp [tmPut, *], by simp [tmPut, *], by simp [tmPut, *], by simp [tmPut, *], by simp [tmPut, *]⟩
      refine OpsL.lssF ?_ (c := h0)
      refine OpsL.nil ?_
      refine OpsR.one rfl rfl rfl (by kernel_rfl) ?_
      repeat (first | (refine OpsL.q (by exact omv) ?_) | (refine OpsL.nil ?_; (skip)))
      refine OpsR.one rfl rfl rfl (by kernel_rfl) ?_
      repeat (first | (refine OpsL.q (by exact ofa) ?_) | (refine OpsL.nil ?_; (dsimp only)) | (refine OpsL.ung ?_))
      refine OpsR.one rfl rfl rfl (by kernel_rfl) ?_
      repeat (first | (refine OpsL.q (by exact old) ?_) | (refine OpsL.nil ?_; (skip)) | (refine OpsL.ung ?_))
      refine OpsR.one rfl rfl rfl (by kernel_rfl) ?_
      repeat (first | (refine OpsL.q (by exact omv) ?_) | (refine OpsL.nil ?_; (skip)) | (refine OpsL.ung ?_))
      refine OpsR.one rfl rfl rfl (by kernel_rfl) ?_
      repeat (first | (refine OpsL.q (by exact oixa) ?_) | (refine OpsL.nil ?_; (dsimp only)) | (refine OpsL.ung ?_))
      refine OpsR.one rfl rfl rfl (by kernel_rfl) ?_
      repeat (first | (refine OpsL.q (by exact old) ?_) | (refine OpsL.nil ?_; (skip)) | (refine OpsL.ung ?_))
      refine OpsR.one rfl rfl rfl (by kernel_rfl) ?_
      repeat (first | (refine OpsL.q (by exact omv) ?_) | (refine OpsL.nil ?_; (skip)) | (refine OpsL.ung ?_))
      refine OpsR.one rfl rfl rfl (by kernel_rfl) ?_
      refine OpsL.ung ?_
      by_cases h1 : (m.of.length : Int) ≤ x
      · refine OpsL.geqT ?_ (c := h1)
        have hF : inF m x i = false := decide_eq_false fun q => by omega
        refine OpsL.nil ?_
        refine OpsR.one rfl rfl rfl (by kernel_rfl) ?_
        repeat (first | (refine OpsL.q (by exact opkF) ?_) | (refine OpsL.nil ?_; (skip)))
        refine OpsR.one rfl rfl rfl (by kernel_rfl) ?_
        repeat (first | (refine OpsL.q (by exact omv) ?_) | (refine OpsL.nil ?_; (skip)))
        refine OpsR.one rfl rfl rfl (by kernel_rfl) ?_
        repeat (first | (refine OpsL.nil ?_; (skip)) | (refine OpsL.skp ?_))
        refine OpsR.one rfl rfl rfl (by kernel_rfl) ?_
        repeat (first | (refine OpsL.nil ?_; (skip)) | (refine OpsL.skp ?_))
        refine OpsR.one rfl rfl rfl (by kernel_rfl) ?_
        repeat (first | (refine OpsL.nil ?_; (skip)) | (refine OpsL.skp ?_))
        refine OpsR.one rfl rfl rfl (by kernel_rfl) ?_
        repeat (first | (refine OpsL.nil ?_; (skip)) | (refine OpsL.skp ?_))
        refine OpsR.one rfl rfl rfl (by kernel_rfl) ?_
        repeat (first | (refine OpsL.nil ?_; (skip)) | (refine OpsL.skp ?_))
        refine OpsR.one rfl rfl rfl (by kernel_rfl) ?_
        repeat (first | (refine OpsL.nil ?_; (skip)) | (refine OpsL.skp ?_))
        refine OpsR.one rfl rfl rfl (by kernel_rfl) ?_
        repeat (first | (refine OpsL.nil ?_; (skip)) | (refine OpsL.skp ?_))
        refine OpsR.one rfl rfl rfl (by kernel_rfl) ?_
        repeat (first | (refine OpsL.nil ?_; (skip)) | (refine OpsL.skp ?_))
        refine OpsR.one rfl rfl rfl (by kernel_rfl) ?_
        repeat (first | (refine OpsL.nil ?_; (skip)) | (refine OpsL.skp ?_))
        refine OpsR.one rfl rfl rfl (by kernel_rfl) ?_
        repeat (first | (refine OpsL.nil ?_; (skip)) | (refine OpsL.skp ?_))
        refine OpsR.one rfl rfl rfl (by kernel_rfl) ?_
        repeat (first | (refine OpsL.nil ?_; (skip)) | (refine OpsL.skp ?_))
        refine OpsR.one rfl rfl rfl (by kernel_rfl) ?_
        repeat (first | (refine OpsL.q (by exact opkT) ?_) | (refine OpsL.nil ?_; (skip)))
        refine OpsR.nil ?_
        exact ⟨rfl, _, rfl, by simp [tmPut, *], by simp [tmPut, *], by simp [tmPut, *], by simp [tmPut, *], by simp [tmPut, *]⟩
      refine OpsL.geqF ?_ (c := h1)
      refine OpsL.nil ?_
      obtain ⟨q5, hq5, hc5⟩ := IntsAt.atI oh (show 0 ≤ x by omega) (show x < m.of.length by omega)
      rw [hq5] at g2
      refine OpsR.one rfl rfl rfl (by kernel_rfl) ?_
      repeat (first | (refine OpsL.q (by exact opkF) ?_) | (refine OpsL.nil ?_; (skip)))
      refine OpsR.one rfl rfl rfl (by kernel_rfl) ?_
      repeat (first | (refine OpsL.q (by exact omv) ?_) | (refine OpsL.nil ?_; (skip)))
      refine OpsR.one rfl rfl rfl (by kernel_rfl) ?_
      repeat (first | (refine OpsL.q (by exact ofa) ?_) | (refine OpsL.nil ?_; (dsimp only)) | (refine OpsL.ung ?_))
      refine OpsR.one rfl rfl rfl (by kernel_rfl) ?_
      repeat (first | (refine OpsL.q (by exact old) ?_) | (refine OpsL.nil ?_; (skip)) | (refine OpsL.ung ?_))
      refine OpsR.one rfl rfl rfl (by kernel_rfl) ?_
      repeat (first | (refine OpsL.q (by exact ofa) ?_) | (refine OpsL.nil ?_; (dsimp only)) | (refine OpsL.ung ?_))
      refine OpsR.one rfl rfl rfl (by kernel_rfl) ?_
      repeat (first | (refine OpsL.q (by exact old) ?_) | (refine OpsL.nil ?_; (skip)) | (refine OpsL.ung ?_))
      refine OpsR.one rfl rfl rfl (by kernel_rfl) ?_
      repeat (first | (refine OpsL.q (by exact omv) ?_) | (refine OpsL.nil ?_; (skip)) | (refine OpsL.ung ?_))
      refine OpsR.one rfl rfl rfl (by kernel_rfl) ?_
      repeat (first | (refine OpsL.q (by exact oixa) ?_) | (refine OpsL.nil ?_; (dsimp only)) | (refine OpsL.ung ?_))
      refine OpsR.one rfl rfl rfl (by kernel_rfl) ?_
      repeat (first | (refine OpsL.q (by exact old) ?_) | (refine OpsL.nil ?_; (skip)) | (refine OpsL.ung ?_))
      refine OpsR.one rfl rfl rfl (by kernel_rfl) ?_
      repeat (first | (refine OpsL.q (by exact oixa) ?_) | (refine OpsL.nil ?_; (dsimp only)) | (refine OpsL.ung ?_))
      refine OpsR.one rfl rfl rfl (by kernel_rfl) ?_
      repeat (first | (refine OpsL.q (by exact old) ?_) | (refine OpsL.nil ?_; (skip)) | (refine OpsL.ung ?_))
      refine OpsR.one rfl rfl rfl (by kernel_rfl) ?_
      repeat (first | (refine OpsL.q (by exact omv) ?_) | (refine OpsL.nil ?_; (skip)) | (refine OpsL.ung ?_))
      refine OpsR.one rfl rfl rfl (by kernel_rfl) ?_
      refine OpsL.ung ?_
      by_cases h2 : m.of.getD x.toNat 0 = i
      · refine OpsL.neqF ?_ (c := h2)
        have hF : inF m x i = true := decide_eq_true ⟨⟨by omega, by omega⟩, h2⟩
        clear h2
        refine OpsL.nil ?_
        refine OpsR.one rfl rfl rfl (by kernel_rfl) ?_
        repeat (first | (refine OpsL.q (by exact opkF) ?_) | (refine OpsL.nil ?_; (skip)))
        refine OpsR.nil ?_
        exact ⟨rfl, _, rfl, by simp [tmPut, *], by simp [tmPut, *], by simp [tmPut, *], by simp [tmPut, *], by simp [tmPut, *]⟩
      · refine OpsL.neqT ?_ (c := h2)
        have hF : inF m x i = false := decide_eq_false fun q => h2 q.2
        clear h2
        refine OpsL.nil ?_
        refine OpsR.one rfl rfl rfl (by kernel_rfl) ?_
        repeat (first | (refine OpsL.q (by exact opkF) ?_) | (refine OpsL.nil ?_; (skip)))
        refine OpsR.nil ?_
        exact ⟨rfl, _, rfl, by simp [tmPut, *], by simp [tmPut, *], by simp [tmPut, *], by simp [tmPut, *], by simp [tmPut, *]⟩
    clear e1 e3 e4 e6
    rintro e st ⟨rfl, tm, rfl, e1, e3, e4, e6, e100⟩
    (change Trip _ _ _ _ _)
    cases hs : inF m x i
    · rw [hs] at e100
      replace e100 : tm 100 = .bool true := e100
      have hz : housedF m = false := by
        unfold housedF
        rw [allN_no (n := m.entry.length) hlt (show inF m (m.entry.getD i 0) i = false by rw [hx]; exact hs), Bool.and_false]
      repeat fail
      refine Trip.ifT ?_
      repeat (first | (refine OpsL.q (by exact oasg) ?_) | (refine Trip.seq ?_) | (refine Trip.ops ?_) | (refine Trip.ret ?_; ((repeat (refine blockExit_ret ?_)); dsimp only)) | (refine OpsL.nil ?_; (change Trip _ _ _ _ _)))
      exact ⟨.inr rfl, _, res_tmp, by rw [modF_b hz]; rfl, x0⟩
    · rw [hs] at e100
      replace e100 : tm 100 = .bool false := e100
      repeat fail
      refine Trip.ifF ?_
      repeat (first | (refine OpsL.q (by first | exact omv | exact oasg | exact oadd) ?_) | (refine Trip.ops ?_) | (refine Trip.skip ?_; ((repeat (refine blockExit_normal ?_)); change Trip _ _ _ _ _)) | (refine OpsL.nil ?_; (dsimp only)))
      exact ⟨i + 1, ⟨_, rfl, by simp [tmPut, *], by simp [tmPut, *], by simp [tmPut, *], by simp [tmPut, *], by omega, allN_put hall (by rw [hx]; exact hs)⟩, by omega⟩
  have hi2 : i = m.entry.length := by omega
  subst hi2
  have hho : housedF m = true := by unfold housedF; rw [hall1, hall]; rfl
  clear hall hall1
  repeat (first | (refine Trip.seq ?_) | (refine Trip.ops ?_) | (refine Trip.exit ?_; ((repeat (refine blockExit_eq ?_)); change Trip _ _ _ _ _)))
  refine OpsL.monoX (Q := fun st => ∃ (tm' : Nat → Value), st = ⟨tm', n, G, nx + 1⟩ ∧ tm' 1 = .pointer (some ⟨nx, 0, none⟩) ∧ tm' 3 = .int .i64 m.of.length ∧ tm' 126 = .bool (!decide ((m.final.length : Int) = m.of.length ∧ (m.inn.length : Int) = m.of.length ∧ (m.low.length : Int) = m.of.length ∧ (m.ret.length : Int) = m.of.length))) ?_ _ _ ?_
  rotate_left
  · repeat (first | (refine OpsL.q (by first | exact omv | exact ofa | exact old | exact olen) ?_))
    by_cases k0 : (m.final.length : Int) = m.of.length
    case neg =>
      refine OpsL.neqT ?_ (c := k0)
      have hz : ¬ ((m.final.length : Int) = m.of.length ∧ (m.inn.length : Int) = m.of.length ∧ (m.low.length : Int) = m.of.length ∧ (m.ret.length : Int) = m.of.length) := fun q => k0 q.1
      rw [decide_eq_false hz]
      clear k0 hz
      repeat (first | (refine OpsL.q (by first | exact omv | exact opkT) ?_) | (refine OpsL.nil ?_; (dsimp only)) | (refine OpsL.skp ?_))
      exact ⟨_, rfl, by simp [tmPut, *], by simp [tmPut, *], by simp [tmPut]⟩
    refine OpsL.neqF ?_ (c := k0)
    replace k0 := decide_eq_true k0
    repeat (first | (refine OpsL.q (by first | exact omv | exact ofa | exact old | exact olen) ?_) | (refine OpsL.ung ?_))
    by_cases k1 : (m.inn.length : Int) = m.of.length
    case neg =>
      refine OpsL.neqT ?_ (c := k1)
      have hz : ¬ ((m.final.length : Int) = m.of.length ∧ (m.inn.length : Int) = m.of.length ∧ (m.low.length : Int) = m.of.length ∧ (m.ret.length : Int) = m.of.length) := fun q => k1 q.2.1
      rw [decide_eq_false hz]
      clear k1 hz
      repeat (first | (refine OpsL.q (by first | exact omv | exact opkT | exact opkF) ?_) | (refine OpsL.nil ?_; (dsimp only)) | (refine OpsL.skp ?_))
      exact ⟨_, rfl, by simp [tmPut, *], by simp [tmPut, *], by simp [tmPut]⟩
    refine OpsL.neqF ?_ (c := k1)
    replace k1 := decide_eq_true k1
    repeat (first | (refine OpsL.q (by first | exact omv | exact ofa | exact old | exact olen | exact opkF) ?_) | (refine OpsL.ung ?_))
    by_cases k2 : (m.low.length : Int) = m.of.length
    case neg =>
      refine OpsL.neqT ?_ (c := k2)
      have hz : ¬ ((m.final.length : Int) = m.of.length ∧ (m.inn.length : Int) = m.of.length ∧ (m.low.length : Int) = m.of.length ∧ (m.ret.length : Int) = m.of.length) := fun q => k2 q.2.2.1
      rw [decide_eq_false hz]
      clear k2 hz
      repeat (first | (refine OpsL.q (by first | exact omv | exact opkT | exact opkF) ?_) | (refine OpsL.nil ?_; (dsimp only)) | (refine OpsL.skp ?_))
      exact ⟨_, rfl, by simp [tmPut, *], by simp [tmPut, *], by simp [tmPut]⟩
    refine OpsL.neqF ?_ (c := k2)
    replace k2 := decide_eq_true k2
    repeat (first | (refine OpsL.q (by first | exact omv | exact ofa | exact old | exact olen | exact opkF) ?_) | (refine OpsL.ung ?_))
    by_cases k3 : (m.ret.length : Int) = m.of.length
    case neg =>
      refine OpsL.neqT ?_ (c := k3)
      have hz : ¬ ((m.final.length : Int) = m.of.length ∧ (m.inn.length : Int) = m.of.length ∧ (m.low.length : Int) = m.of.length ∧ (m.ret.length : Int) = m.of.length) := fun q => k3 q.2.2.2
      rw [decide_eq_false hz]
      clear k3 hz
      repeat (first | (refine OpsL.q (by exact opkF) ?_) | (refine OpsL.nil ?_; (dsimp only)))
      exact ⟨_, rfl, by simp [tmPut, *], by simp [tmPut, *], by simp [tmPut]⟩
    refine OpsL.neqF ?_ (c := k3)
    replace k3 := decide_eq_true k3
    have hz : ((m.final.length : Int) = m.of.length ∧ (m.inn.length : Int) = m.of.length ∧ (m.low.length : Int) = m.of.length ∧ (m.ret.length : Int) = m.of.length) := ⟨of_decide_eq_true k0, of_decide_eq_true k1, of_decide_eq_true k2, of_decide_eq_true k3⟩
    rw [decide_eq_true hz]
    clear k0 k1 k2 k3 hz
    repeat (first | (refine OpsL.q (by exact opkF) ?_) | (refine OpsL.nil ?_; (dsimp only)))
    exact ⟨_, rfl, by simp [tmPut, *], by simp [tmPut, *], by simp [tmPut]⟩
  clear e1 e3 e4 e6
  rintro st ⟨tm, rfl, e1, e3, e126⟩
  (change Trip _ _ _ _ _)
  by_cases hT : (m.final.length : Int) = m.of.length ∧ (m.inn.length : Int) = m.of.length ∧ (m.low.length : Int) = m.of.length ∧ (m.ret.length : Int) = m.of.length
  case neg =>
    rw [decide_eq_false hT] at e126
    replace e126 : tm 126 = .bool true := e126
    have hz : sizedF m = false := decide_eq_false fun q => hT q.2.2.2.2
    clear hT
    repeat fail
    refine Trip.ifT ?_
    repeat (first | (refine OpsL.q (by exact oasg) ?_) | (refine Trip.seq ?_) | (refine Trip.ops ?_) | (refine Trip.ret ?_; (dsimp only)) | (refine OpsL.nil ?_; (change Trip _ _ _ _ _)))
    exact ⟨.inr rfl, _, res_tmp, by rw [modF_a hz]; rfl, x0⟩
  rw [decide_eq_true hT] at e126
  replace e126 : tm 126 = .bool false := e126
  have hsz : sizedF m = true := decide_eq_true ⟨S1, S2, S4, S5, hT⟩
  obtain ⟨T1, T2, T3, T4⟩ := hT
  have T2' : m.inn.length = m.of.length := by omega
  have T3' : m.low.length = m.of.length := by omega
  have T4' : m.ret.length = m.of.length := by omega
  clear T1 T2 T3 T4
  repeat fail
  refine Trip.ifF ?_
  repeat (first | (refine OpsL.q (by exact oasg) ?_) | (refine Trip.seq ?_) | (refine Trip.ops ?_) | (refine Trip.block ?_) | (refine Trip.skip ?_; (change Trip _ _ _ _ _)) | (refine OpsL.nil ?_; (change Trip _ _ _ _ _)))
  refine Trip.inv (fun (i : Nat) s => ∃ (tm : Nat → Value) (nx' : Nat) (H' : Heap), s = ⟨tm, n, H', nx'⟩ ∧ Ext (nx + 1) G nx' H' ∧ tm 1 = .pointer (some ⟨nx, 0, none⟩) ∧ tm 3 = .int .i64 m.of.length ∧ tm 7 = .int .i64 i ∧ i ≤ m.of.length ∧ allN i (stateF m) = true) (fun i => m.of.length - i) 0 ?_ ?_
  · exact ⟨_, _, _, rfl, Ext.refl, by simp [tmPut, *], by simp [tmPut, *], by simp [tmPut, *], by omega, allN_zero⟩
  clear e1 e3 e126
  rintro i s ⟨tm, nx', H', rfl, hx, e1, e3, e7, hi, hall⟩
  repeat (first | (refine OpsL.q (by first | exact omv | exact olss) ?_) | (refine Trip.seq ?_) | (refine Trip.ops ?_) | (refine Trip.block ?_) | (refine Trip.itA (fun _ => ?_) (fun _ => ?_)) | (refine Trip.skip ?_; (change Trip _ _ _ _ _)) | (refine OpsL.nil ?_; (change Trip _ _ _ _ _)))
  · have hlt : i < m.of.length := by omega
    refine OpsL.loadM (hb.ext hx okG) ?_ (by (first | (simp only [ASt.ev, tmPut, ↓reduceIte, Nat.reduceEqDiff, *]; done))) (by subst_vars; decide)
    repeat (first | (refine OpsL.q (by exact omv) ?_))
    refine OpsL.c2 (hf := entersRState) (hc := (rstateC W0 (hG.ext hx okG) hn hlt (by omega) (by omega) (by omega))) (h := ?_)
    rintro v1 nx1 H1 ⟨rfl, y1⟩
    cases hs : stateF m i
    · repeat (first | (refine OpsL.q (by exact onot) ?_) | (refine OpsL.nil ?_; (change Trip _ _ _ _ _)))
      refine Trip.ifT ?_
      repeat (first | (refine OpsL.q (by exact oasg) ?_) | (refine Trip.seq ?_) | (refine Trip.ops ?_) | (refine Trip.ret ?_; ((repeat (refine blockExit_ret ?_)); dsimp only)) | (refine OpsL.nil ?_; (change Trip _ _ _ _ _)))
      exact ⟨.inr rfl, _, res_tmp, by rw [modF_c (allN_no hlt hs)]; rfl, (x0.trans hx).trans y1⟩
    · repeat (first | (refine OpsL.q (by exact onot) ?_) | (refine OpsL.nil ?_; (change Trip _ _ _ _ _)))
      refine Trip.ifF ?_
      repeat (first | (refine OpsL.q (by first | exact omv | exact oasg | exact oadd) ?_) | (refine Trip.ops ?_) | (refine Trip.skip ?_; ((repeat (refine blockExit_normal ?_)); change Trip _ _ _ _ _)) | (refine OpsL.nil ?_; (dsimp only)))
      exact ⟨i + 1, ⟨_, _, _, rfl, hx.trans y1, by simp [tmPut, *], by simp [tmPut, *], by simp [tmPut, *], by omega, allN_put hall hs⟩, by omega⟩
  · repeat (first | (refine OpsL.q (by exact oasg) ?_) | (refine Trip.seq ?_) | (refine Trip.ops ?_) | (refine Trip.exit ?_; ((repeat (refine blockExit_eq ?_)); change Trip _ _ _ _ _)) | (refine Trip.ret ?_; (dsimp only)) | (refine OpsL.nil ?_; (change Trip _ _ _ _ _)))
    have hi2 : i = m.of.length := by omega
    subst hi2
    exact ⟨.inr rfl, _, res_tmp, by rw [show modF m = true by unfold modF; rw [hsz, hho, hall]; rfl]; rfl, x0.trans hx⟩
end Go.Proofs.Ytdadkkmpnecpbaa
