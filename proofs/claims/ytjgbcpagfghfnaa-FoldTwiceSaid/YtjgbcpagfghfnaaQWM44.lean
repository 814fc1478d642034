import Derived.Test.YtjgbcpagfghfnaaQWM43
import Derived.Test.YtjgbcpagfghfnaaQWM16
set_option linter.unusedVariables false
set_option linter.unusedSimpArgs false
set_option linter.unnecessarySimpa false
namespace Go.Am
open Go.RowKit
def encPr (x : Int × Int) : List Value := [.int .i64 x.1, .int .i64 x.2]
end Go.Am
namespace Go.Proofs.Ytjgbcpagfghfnaa
open Go.Am Go.RowKit
attribute [local irreducible] aop OpsL Trip blockExit OpsD OpsK OpsR OpsQ
theorem entersClose13 : Am.Enters Try.prog 45 := ⟨Try.f45, Try.func45, by kernel_rfl, by kernel_rfl⟩
set_option maxRecDepth 20000 in
set_option maxHeartbeats 16000000 in
theorem closeC (W0 : World) {σ0 σ : CH} {rb : Nat} {m : Mo} {V : MoV} {s : Int × List Int} {i : Int} (h : RdS σ0 σ rb m V s) (hm0 : MoIn σ0.H m V) (ok0 : ∀ id o, σ0.H id = some o → id < σ0.nx) (hmod : ModOk m) (hg : RGood m (fun _ => True) s) (hs2 : s.2.length ≤ 100000) :
    ACalls Try.prog W0 45 [.pointer (some ⟨rb, 0, none⟩), .int .i64 i] σ.nx σ.H fun v nx' H' => StepTo σ0 rb m V (stepF m s (2, i)) v nx' H' := by
  refine ACalls.by_trip (fn := Try.f45) (c := _) Try.func45 rfl (fun tm n hn0 htm => ?_)
  have e0 : tm 0 = .pointer (some ⟨rb, 0, none⟩) := htm 0
  have e1 : tm 1 = .int .i64 i := htm 1
  clear htm
  replace hn0 : n = 75 := hn0
  obtain ⟨⟨a0, a1⟩, -, ab⟩ := hg.at
  obtain ⟨ho, lv, hr, hL⟩ := h
  obtain ⟨la, lk, rfl⟩ := OwnC.slice encN_len hL
  obtain ⟨sa, sl⟩ := s
  simp only at a0 a1 ab hL hr hs2
  obtain ⟨P, rfl⟩ : ∃ P : Nat, sa = (P : Int) := ⟨sa.toNat, by omega⟩
  rw [Int.toNat_natCast] at ab
  have hP : P < m.of.length := by omega
  have g1 : cellAt σ.H ⟨rb, 1, none⟩ (.int .i64 m.closings) := hr.cell rfl
  have g6 : cellAt σ.H ⟨rb, 6, none⟩ V.l := hr.cell rfl
  have g7 : cellAt σ.H ⟨rb, 7, none⟩ V.r := hr.cell rfl
  have g8 : cellAt σ.H ⟨rb, 8, none⟩ (.int .i64 P) := hr.cell rfl
  have g9 : cellAt σ.H ⟨rb, 9, none⟩ (.slice la sl.length lk) := hr.cell rfl
  have hk := hmod.cl
  repeat (first | (refine OpsL.q (by first | exact omv | exact oasg | exact aop_nilCheck (by (first | (simp only [ASt.ev, tmPut, ↓reduceIte, Nat.reduceEqDiff, *]; rfl))) | exact ofa | exact old | exact osub) ?_) | (refine Trip.seq ?_) | (refine Trip.ops ?_) | (refine OpsL.nil ?_; (change Trip _ _ _ _ _)))
  refine OpsL.c3 (hf := entersFrom) (hc := (isFromC W0 _ _ _)) (h := ?_)
  rintro v1 nx1 H1 ⟨d, rfl, hd, rfl, rfl⟩
  have hst : stepF m ((P : Int), sl) (2, i) = if 0 ≤ i ∧ i ≤ m.closings - 1 then (if sl = [] then some ((m.low.getD P []).getD i.toNat 0, sl) else some (((m.ret.getD P []).getD i.toNat []).getD (sl.getD (sl.length - 1) 0).toNat 0, sl.take (sl.length - 1))) else none := by
    unfold stepF; rw [if_neg (show ¬ (2 : Int) = 1 by omega), if_pos rfl]; rfl
  cases d
  · have hn : ¬ (0 ≤ i ∧ i ≤ m.closings - 1) := fun q => by have := hd.2 q; cases this
    rw [if_neg hn] at hst
    repeat (first | (refine OpsL.q (by exact onot) ?_) | (refine OpsL.nil ?_; (change Trip _ _ _ _ _)))
    refine Trip.ifT ?_
    repeat (first | (refine OpsL.q (by exact oasg) ?_) | (refine Trip.seq ?_) | (refine Trip.ops ?_) | (refine Trip.ret ?_; (dsimp only)) | (refine OpsL.nil ?_; (change Trip _ _ _ _ _)))
    exact ⟨.inr rfl, _, res_tmp, .inl ⟨hst, by simp [tmPut], σ, rfl, rfl, ho⟩⟩
  obtain ⟨h0, h1⟩ := hd.1 rfl
  rw [if_pos ⟨h0, h1⟩] at hst
  clear hd
  have hcase : sl = [] ∨ ∃ pre q, sl = pre ++ [q] := by
    by_cases e : sl = []
    · exact .inl e
    · exact .inr ⟨sl.dropLast, sl.getLast e, (List.dropLast_concat_getLast e).symm⟩
  rcases hcase with rfl | ⟨pre, q, rfl⟩
  · rw [if_pos rfl] at hst
    obtain ⟨ia, ic, iv⟩ := hm0.low.slice
    have ih := hm0.low
    rw [iv] at g6 ih
    have hrl := (hmod.low0 P hP (ab.2 rfl)).1
    have hil := Nat.lt_of_lt_of_eq hP hmod.ll.symm
    obtain ⟨q1, rb1, rk1, rfl, hc1, hrow⟩ := L2At.atI ih (show (0 : Int) ≤ P by omega) (show (P : Int) < m.low.length by omega)
    rw [Int.toNat_natCast] at hc1 hrow
    replace hc1 := cell_ext ho.ext ok0 hc1
    obtain ⟨R, hR⟩ : ∃ R, m.low.getD P [] = R := ⟨_, rfl⟩
    rw [hR] at hc1 hrow hrl hst
    clear hR
    obtain ⟨q2, rfl, hc2⟩ := hrow.atI h0 (show i < R.length by omega)
    replace hc2 := cell_ext ho.ext ok0 hc2
    repeat (first | (refine OpsL.q (by exact onot) ?_) | (refine OpsL.nil ?_; (change Trip _ _ _ _ _)))
    refine Trip.ifF ?_
    repeat (first | (refine OpsL.q (by first | exact omv | exact oasg | exact aop_nilCheck (by (first | (simp only [ASt.ev, tmPut, ↓reduceIte, Nat.reduceEqDiff, *]; rfl))) | exact ofa | exact old | exact olen | exact osub) ?_) | (refine Trip.seq ?_) | (refine Trip.ops ?_) | (refine Trip.skip ?_; (change Trip _ _ _ _ _)) | (refine OpsL.nil ?_; (change Trip _ _ _ _ _)))
    refine OpsL.lssT ?_ (c := show (([] : List Int).length : Int) - 1 < 0 by simp)
    repeat (first | (refine OpsL.nil ?_; (change Trip _ _ _ _ _)))
    refine Trip.ifT ?_
    repeat (first | (refine Trip.seq ?_))
    refine OpsQ.drawn [17] (K := fun _ _ _ => True) mixed13 (by kernel_rfl) (by kernel_rfl) [0, 1, 2, 3, 4, 5, 6, 7, 8, 9, 10, 11, 12, 13, 14, 15, 16, 17] (by kernel_rfl) (fun _ _ => trivial) ?_
    refine OpsQ.one rfl rfl rfl (by kernel_rfl) ?_
    repeat (first | (refine OpsL.q (by exact omv) ?_) | (refine OpsL.nil ?_; (dsimp only)))
    refine OpsQ.one rfl rfl rfl (by kernel_rfl) ?_
    repeat (first | (refine OpsL.q (by exact omv) ?_) | (refine OpsL.nil ?_; (skip)))
    refine OpsQ.one rfl rfl rfl (by kernel_rfl) ?_
    repeat (first | (refine OpsL.q (by exact aop_nilCheck (by (first | (simp only [ASt.ev, tmPut, ↓reduceIte, Nat.reduceEqDiff, *]; rfl)))) ?_) | (refine OpsL.nil ?_; (skip)))
    refine OpsQ.one rfl rfl rfl (by kernel_rfl) ?_
    repeat (first | (refine OpsL.q (by exact ofa) ?_) | (refine OpsL.nil ?_; (dsimp only)))
    refine OpsQ.one rfl rfl rfl (by kernel_rfl) ?_
    repeat (first | (refine OpsL.q (by exact ofa) ?_) | (refine OpsL.nil ?_; (dsimp only)))
    refine OpsQ.one rfl rfl rfl (by kernel_rfl) ?_
    repeat (first | (refine OpsL.q (by exact old) ?_) | (refine OpsL.nil ?_; (skip)))
    refine OpsQ.one rfl rfl rfl (by kernel_rfl) ?_
    repeat (first | (refine OpsL.q (by exact omv) ?_) | (refine OpsL.nil ?_; (skip)))
    refine OpsQ.one rfl rfl rfl (by kernel_rfl) ?_
    repeat (first | (refine OpsL.q (by exact aop_nilCheck (by (first | (simp only [ASt.ev, tmPut, ↓reduceIte, Nat.reduceEqDiff, *]; rfl)))) ?_) | (refine OpsL.nil ?_; (skip)))
    refine OpsQ.one rfl rfl rfl (by kernel_rfl) ?_
    repeat (first | (refine OpsL.q (by exact ofa) ?_) | (refine OpsL.nil ?_; (dsimp only)))
    refine OpsQ.one rfl rfl rfl (by kernel_rfl) ?_
    repeat (first | (refine OpsL.q (by exact old) ?_) | (refine OpsL.nil ?_; (skip)))
    refine OpsQ.one rfl rfl rfl (by kernel_rfl) ?_
    repeat (first | (refine OpsL.q (by exact oixa) ?_) | (refine OpsL.nil ?_; (dsimp only)))
    refine OpsQ.one rfl rfl rfl (by kernel_rfl) ?_
    repeat (first | (refine OpsL.q (by exact old) ?_) | (refine OpsL.nil ?_; (skip)))
    refine OpsQ.one rfl rfl rfl (by kernel_rfl) ?_
    repeat (first | (refine OpsL.q (by exact omv) ?_) | (refine OpsL.nil ?_; (skip)))
    refine OpsQ.one rfl rfl rfl (by kernel_rfl) ?_
    repeat (first | (refine OpsL.q (by exact oixa) ?_) | (refine OpsL.nil ?_; (dsimp only)))
    refine OpsQ.one rfl rfl rfl (by kernel_rfl) ?_
    repeat (first | (refine OpsL.q (by exact old) ?_) | (refine OpsL.nil ?_; (skip)))
    refine OpsQ.one rfl rfl rfl (by kernel_rfl) ?_
    repeat (first | (refine OpsL.q (by exact aop_nilCheck (by (first | (simp only [ASt.ev, tmPut, ↓reduceIte, Nat.reduceEqDiff, *]; rfl)))) ?_) | (refine OpsL.nil ?_; (skip)))
    refine OpsQ.one rfl rfl rfl (by kernel_rfl) ?_
    repeat (first | (refine OpsL.q (by exact ofa) ?_) | (refine OpsL.nil ?_; (dsimp only)))
    refine OpsQ.act (by kernel_rfl) (ActStep.walk rfl rfl ?_)
    refine OpsL.setC (k := 8) (v := .int .i64 (R.getD i.toNat 0)) (cs' := moV m V ++ [.int .i64 (R.getD i.toNat 0), .slice la ([] : List Int).length lk]) hr (by show 8 < 10; omega) rfl (by exact rfl) rfl rfl (by (first | (simp only [ASt.ev, tmPut, ↓reduceIte, Nat.reduceEqDiff, *]; rfl))) (by (first | (simp only [ASt.ev, tmPut, ↓reduceIte, Nat.reduceEqDiff, *]; done))) rfl ?_
    intro τ hat xt _
    refine OpsL.nil ⟨fun k hk => absurd hk (by simp), ?_⟩
    refine OpsQ.nil ?_
    (change Trip _ _ _ _ _)
    repeat (first | (refine OpsL.q (by exact oasg) ?_) | (refine Trip.seq ?_) | (refine Trip.ops ?_) | (refine Trip.ret ?_; (dsimp only)) | (refine OpsL.nil ?_; (change Trip _ _ _ _ _)))
    exact ⟨.inr rfl, _, res_tmp, .inr ⟨_, hst, by simp [tmPut], τ, rfl, rfl, ho.keep xt (by simp), _, hat, hL.keep xt (by simp)⟩⟩
  · have hne : pre ++ [q] ≠ [] := by simp
    have hz : m.of.getD P 0 ≠ 0 := fun e => hne (ab.1 e)
    rw [if_neg hne] at hst
    have e1l : (pre ++ [q]).length - 1 = pre.length := by simp
    rw [e1l, List.take_left' rfl, getD_append_eq] at hst
    obtain ⟨⟨t0, t1⟩, -⟩ := hg.top hne
    have e2l : ((pre ++ [q] : List Int)).getD ((pre ++ [q]).length - 1) 0 = q := by rw [e1l, getD_append_eq]
    simp only at t0 t1
    rw [e2l] at t0 t1
    obtain ⟨Q, rfl⟩ : ∃ Q : Nat, q = (Q : Int) := ⟨q.toNat, by omega⟩
    rw [Int.toNat_natCast] at hst
    have hQ : Q < m.of.length := by omega
    obtain ⟨ia, ic, iv⟩ := hm0.ret.slice
    have ih := hm0.ret
    rw [iv] at g7 ih
    obtain ⟨hrl, hrr⟩ := hmod.ret1 P hP hz
    have hil := Nat.lt_of_lt_of_eq hP hmod.rl.symm
    obtain ⟨q1, rb1, rk1, rfl, hc1, hrow⟩ := L3At.atI ih (show (0 : Int) ≤ P by omega) (show (P : Int) < m.ret.length by omega)
    rw [Int.toNat_natCast] at hc1 hrow
    replace hc1 := cell_ext ho.ext ok0 hc1
    obtain ⟨R, hR⟩ : ∃ R, m.ret.getD P [] = R := ⟨_, rfl⟩
    rw [hR] at hc1 hrow hrl hrr hst
    clear hR
    obtain ⟨q2, rb2, rk2, rfl, hc2, hrow2⟩ := L2At.atI hrow h0 (show i < R.length by omega)
    replace hc2 := cell_ext ho.ext ok0 hc2
    have hrr2 := Nat.le_of_eq (hrr i.toNat (by omega)).1.symm
    obtain ⟨R2, hR2⟩ : ∃ R2, R.getD i.toNat [] = R2 := ⟨_, rfl⟩
    rw [hR2] at hc2 hrow2 hrr2 hst
    clear hR2 hrr
    obtain ⟨q3, rfl, hc3⟩ := hrow2.atI (show (0 : Int) ≤ Q by omega) (show (Q : Int) < R2.length by omega)
    rw [Int.toNat_natCast] at hc3
    replace hc3 := cell_ext ho.ext ok0 hc3
    obtain ⟨b, t, rest, hv, hob⟩ := OwnC.opn encN_f hL hne
    simp only [Value.slice.injEq] at hv
    obtain ⟨rfl, -, rfl⟩ := hv
    have hlen : (pre ++ [(Q : Int)]).length = pre.length + 1 := by simp
    rw [hlen] at hr g9 hs2
    replace hlen : PLift ((pre ++ [(Q : Int)]).length = pre.length + 1) := ⟨hlen⟩
    have hcq : cellAt σ.H ⟨b, 0 + pre.length * 1, some t⟩ (.int .i64 Q) := by
      rw [Nat.zero_add, Nat.mul_one]
      refine hob.cell ?_
      rw [List.getElem?_append_left (by simp), List.getElem?_map, List.getElem?_append_right (Nat.le_refl _), Nat.sub_self]
      rfl
    have hlast : (((pre.length + 1 : Nat) : Int) - 1) = (pre.length : Int) := by omega
    repeat (first | (refine OpsL.q (by exact onot) ?_) | (refine OpsL.nil ?_; (change Trip _ _ _ _ _)))
    refine Trip.ifF ?_
    repeat (first | (refine OpsL.q (by first | exact omv | exact aop_nilCheck (by (first | (simp only [ASt.ev, tmPut, ↓reduceIte, Nat.reduceEqDiff, *]; rfl))) | exact ofa | exact old | exact olen) ?_) | (refine Trip.seq ?_) | (refine Trip.ops ?_) | (refine Trip.skip ?_; (change Trip _ _ _ _ _)))
    (first | (refine OpsL.q (by exact osub) ?_))
    rw [hlast]
    clear hlast
    repeat (first | (refine OpsL.q (by first | exact oasg | exact omv) ?_) | (refine Trip.seq ?_) | (refine Trip.ops ?_) | (refine OpsL.nil ?_; (change Trip _ _ _ _ _)))
    refine OpsL.lssF ?_ (c := show ¬ ((pre.length : Int) < 0) by omega)
    repeat (first | (refine OpsL.nil ?_; (change Trip _ _ _ _ _)))
    refine Trip.ifF ?_
    repeat (first | (refine Trip.seq ?_) | (refine Trip.skip ?_; (change Trip _ _ _ _ _)))
    refine Trip.mono (Q := fun e st => e = .normal ∧ ∃ tm' τ, st = ⟨tm', n, τ.H, τ.nx⟩ ∧ tm' 0 = .pointer (some ⟨rb, 0, none⟩) ∧ tm' 5 = .int .i64 pre.length ∧ OldC σ0 τ ∧ ObC .self τ rb (rdO m V (R2.getD Q 0) (.slice (some ⟨b, 0, some t⟩) (pre.length + 1) (pre.length + 1))) ∧ ObC .next τ b (.cells ((pre ++ [(Q : Int)]).map (.int .i64 ·) ++ rest) 1 (some t) false (some 3))) ?_ ?_
    · refine OpsQ.drawn [26] (K := fun _ _ _ => True) mixed13 (by kernel_rfl) (by kernel_rfl) [0, 1, 2, 3, 4, 5, 6, 7, 8, 9, 10, 11, 12, 13, 14, 15, 16, 17, 18, 19, 20, 21, 22, 23, 24, 25, 26] (by kernel_rfl) (fun _ _ => trivial) ?_
      refine OpsQ.one rfl rfl rfl (by kernel_rfl) ?_
      repeat (first | (refine OpsL.q (by exact omv) ?_) | (refine OpsL.nil ?_; (dsimp only)))
      refine OpsQ.one rfl rfl rfl (by kernel_rfl) ?_
      repeat (first | (refine OpsL.q (by exact omv) ?_) | (refine OpsL.nil ?_; (skip)))
      refine OpsQ.one rfl rfl rfl (by kernel_rfl) ?_
      repeat (first | (refine OpsL.q (by exact aop_nilCheck (by (first | (simp only [ASt.ev, tmPut, ↓reduceIte, Nat.reduceEqDiff, *]; rfl)))) ?_) | (refine OpsL.nil ?_; (skip)))
      refine OpsQ.one rfl rfl rfl (by kernel_rfl) ?_
      repeat (first | (refine OpsL.q (by exact ofa) ?_) | (refine OpsL.nil ?_; (dsimp only)))
      refine OpsQ.one rfl rfl rfl (by kernel_rfl) ?_
      repeat (first | (refine OpsL.q (by exact ofa) ?_) | (refine OpsL.nil ?_; (dsimp only)))
      refine OpsQ.one rfl rfl rfl (by kernel_rfl) ?_
      repeat (first | (refine OpsL.q (by exact old) ?_) | (refine OpsL.nil ?_; (skip)))
      refine OpsQ.one rfl rfl rfl (by kernel_rfl) ?_
      repeat (first | (refine OpsL.q (by exact omv) ?_) | (refine OpsL.nil ?_; (skip)))
      refine OpsQ.one rfl rfl rfl (by kernel_rfl) ?_
      repeat (first | (refine OpsL.q (by exact aop_nilCheck (by (first | (simp only [ASt.ev, tmPut, ↓reduceIte, Nat.reduceEqDiff, *]; rfl)))) ?_) | (refine OpsL.nil ?_; (skip)))
      refine OpsQ.one rfl rfl rfl (by kernel_rfl) ?_
      repeat (first | (refine OpsL.q (by exact ofa) ?_) | (refine OpsL.nil ?_; (dsimp only)))
      refine OpsQ.one rfl rfl rfl (by kernel_rfl) ?_
      repeat (first | (refine OpsL.q (by exact old) ?_) | (refine OpsL.nil ?_; (skip)))
      refine OpsQ.one rfl rfl rfl (by kernel_rfl) ?_
      repeat (first | (refine OpsL.q (by exact oixa) ?_) | (refine OpsL.nil ?_; (dsimp only)))
      refine OpsQ.one rfl rfl rfl (by kernel_rfl) ?_
      repeat (first | (refine OpsL.q (by exact old) ?_) | (refine OpsL.nil ?_; (skip)))
      refine OpsQ.one rfl rfl rfl (by kernel_rfl) ?_
      repeat (first | (refine OpsL.q (by exact omv) ?_) | (refine OpsL.nil ?_; (skip)))
      refine OpsQ.one rfl rfl rfl (by kernel_rfl) ?_
      repeat (first | (refine OpsL.q (by exact oixa) ?_) | (refine OpsL.nil ?_; (dsimp only)))
      refine OpsQ.one rfl rfl rfl (by kernel_rfl) ?_
      repeat (first | (refine OpsL.q (by exact old) ?_) | (refine OpsL.nil ?_; (skip)))
      refine OpsQ.one rfl rfl rfl (by kernel_rfl) ?_
      repeat (first | (refine OpsL.q (by exact omv) ?_) | (refine OpsL.nil ?_; (skip)))
      refine OpsQ.one rfl rfl rfl (by kernel_rfl) ?_
      repeat (first | (refine OpsL.q (by exact aop_nilCheck (by (first | (simp only [ASt.ev, tmPut, ↓reduceIte, Nat.reduceEqDiff, *]; rfl)))) ?_) | (refine OpsL.nil ?_; (skip)))
      refine OpsQ.one rfl rfl rfl (by kernel_rfl) ?_
      repeat (first | (refine OpsL.q (by exact ofa) ?_) | (refine OpsL.nil ?_; (dsimp only)))
      refine OpsQ.one rfl rfl rfl (by kernel_rfl) ?_
      repeat (first | (refine OpsL.q (by exact old) ?_) | (refine OpsL.nil ?_; (skip)))
      refine OpsQ.one rfl rfl rfl (by kernel_rfl) ?_
      repeat (first | (refine OpsL.q (by exact omv) ?_) | (refine OpsL.nil ?_; (skip)))
      refine OpsQ.one rfl rfl rfl (by kernel_rfl) ?_
      repeat (first | (refine OpsL.q (by exact oixa) ?_) | (refine OpsL.nil ?_; (dsimp only)))
      refine OpsQ.one rfl rfl rfl (by kernel_rfl) ?_
      repeat (first | (refine OpsL.q (by exact old) ?_) | (refine OpsL.nil ?_; (skip)))
      refine OpsQ.one rfl rfl rfl (by kernel_rfl) ?_
      repeat (first | (refine OpsL.q (by exact oixa) ?_) | (refine OpsL.nil ?_; (dsimp only)))
      refine OpsQ.one rfl rfl rfl (by kernel_rfl) ?_
      repeat (first | (refine OpsL.q (by exact old) ?_) | (refine OpsL.nil ?_; (skip)))
      refine OpsQ.one rfl rfl rfl (by kernel_rfl) ?_
      repeat (first | (refine OpsL.q (by exact aop_nilCheck (by (first | (simp only [ASt.ev, tmPut, ↓reduceIte, Nat.reduceEqDiff, *]; rfl)))) ?_) | (refine OpsL.nil ?_; (skip)))
      refine OpsQ.one rfl rfl rfl (by kernel_rfl) ?_
      repeat (first | (refine OpsL.q (by exact ofa) ?_) | (refine OpsL.nil ?_; (dsimp only)))
      refine OpsQ.act (by kernel_rfl) (ActStep.walk rfl rfl ?_)
      refine OpsL.setC (k := 8) (v := .int .i64 (R2.getD Q 0)) (cs' := moV m V ++ [.int .i64 (R2.getD Q 0), .slice (some ⟨b, 0, some t⟩) (pre.length + 1) (pre.length + 1)]) hr (by show 8 < 10; omega) rfl (by exact rfl) rfl rfl (by (first | (simp only [ASt.ev, tmPut, ↓reduceIte, Nat.reduceEqDiff, *]; rfl))) (by (first | (simp only [ASt.ev, tmPut, ↓reduceIte, Nat.reduceEqDiff, *]; done))) rfl ?_
      intro τ hat xt _
      refine OpsL.nil ⟨fun k hk => absurd hk (by simp), ?_⟩
      refine OpsQ.nil ?_
      exact ⟨rfl, _, τ, rfl, by simp [tmPut, *], by simp [tmPut, *], ho.keep xt (by simp), hat, hob.keep xt (by simp)⟩
    clear hr hL ho g1 g6 g7 g8 g9 hcq hc1 hc2 hc3 hrow hrow2 hob e0
    rintro e st ⟨rfl, tm, σ, rfl, e0, e5, ho, hr, hob⟩
    have g9 : cellAt σ.H ⟨rb, 9, none⟩ (.slice (some ⟨b, 0, some t⟩) (pre.length + 1) (pre.length + 1)) := hr.cell rfl
    have hslc : aSlice Try.prog σ.H 22 (.slice (some ⟨b, 0, some t⟩) (pre.length + 1) (pre.length + 1)) none (some (.int .i64 (pre.length : Int))) none = some (.slice (some ⟨b, 0, some t⟩) pre.length pre.length) := by
      have := aSlice_tagged (P := Try.prog) (t := 22) (el := 3) (sz := 1) (a := ⟨b, 0, some t⟩) (len := pre.length + 1) (cap := pre.length + 1) (l := 0) (h := pre.length) (tg := t) (lo := none) (hi := some (.int .i64 (pre.length : Int))) (by exact rfl) (by exact rfl) hob.2.2 rfl rfl rfl (.inl ⟨rfl, rfl⟩) (.inr ⟨.i64, rfl⟩) (Nat.zero_le _) (by omega)
      simpa using this
    (change Trip _ _ _ _ _)
    repeat (first | (refine OpsL.q (by first | exact omv | exact aop_nilCheck (by (first | (simp only [ASt.ev, tmPut, ↓reduceIte, Nat.reduceEqDiff, *]; rfl))) | exact ofa | exact old) ?_) | (refine Trip.seq ?_) | (refine Trip.ops ?_))
    refine OpsL.p (by subst_vars; decide) (aop_slice (a := none) (b := some (.int .i64 (pre.length : Int))) (c := none) (by (first | (simp only [ASt.ev, tmPut, ↓reduceIte, Nat.reduceEqDiff, *]; done))) rfl (by simp [evOpt, ASt.ev, tmPut, *]) rfl hslc) ?_
    repeat (first | (refine OpsL.q (by first | exact aop_nilCheck (by (first | (simp only [ASt.ev, tmPut, ↓reduceIte, Nat.reduceEqDiff, *]; rfl))) | exact ofa) ?_))
    refine OpsL.setC (k := 9) (v := .slice (some ⟨b, 0, some t⟩) pre.length pre.length) (cs' := moV m V ++ [.int .i64 (R2.getD Q 0), .slice (some ⟨b, 0, some t⟩) pre.length pre.length]) hr (by show 9 < 10; omega) rfl (by exact rfl) rfl rfl (by (first | (simp only [ASt.ev, tmPut, ↓reduceIte, Nat.reduceEqDiff, *]; rfl))) (by (first | (simp only [ASt.ev, tmPut, ↓reduceIte, Nat.reduceEqDiff, *]; done))) rfl ?_
    intro τ hat xt _
    refine OpsL.nil ?_
    (change Trip _ _ _ _ _)
    repeat (first | (refine OpsL.q (by exact oasg) ?_) | (refine Trip.seq ?_) | (refine Trip.ops ?_) | (refine Trip.ret ?_; (dsimp only)) | (refine OpsL.nil ?_; (change Trip _ _ _ _ _)))
    refine ⟨.inr rfl, _, res_tmp, .inr ⟨_, hst, by simp [tmPut], τ, rfl, rfl, ho.keep xt (by simp), _, hat, OwnC.cls encN_f (rest := .int .i64 Q :: rest) ?_⟩⟩
    have := hob.keep xt (by simp)
    simpa using this
theorem entersStep13 : Am.Enters Try.prog 31 := ⟨Try.f31, Try.func31, by kernel_rfl, by kernel_rfl⟩
set_option maxRecDepth 20000 in
set_option maxHeartbeats 16000000 in
theorem stepC (W0 : World) {σ0 σ : CH} {rb : Nat} {m : Mo} {V : MoV} {s : Int × List Int} {x : Int × Int} (h : RdS σ0 σ rb m V s) (hm0 : MoIn σ0.H m V) (ok0 : ∀ id o, σ0.H id = some o → id < σ0.nx) (hmod : ModOk m) (hg : RGood m (fun _ => True) s) (hs2 : s.2.length ≤ 100000) :
    ACalls Try.prog W0 31 [.pointer (some ⟨rb, 0, none⟩), .agg (encPr x).toArray] σ.nx σ.H fun v nx' H' => StepTo σ0 rb m V (stepF m s x) v nx' H' := by
  refine ACalls.by_trip (fn := Try.f31) (c := _) Try.func31 rfl (fun tm n hn0 htm => ?_)
  have e0 : tm 0 = .pointer (some ⟨rb, 0, none⟩) := htm 0
  have e1 : tm 1 = .agg (encPr x).toArray := htm 1
  clear htm
  replace hn0 : n = 25 := hn0
  obtain ⟨x1, x2⟩ := x
  refine Trip.seq ?_
  refine Trip.ops ?_
  refine OpsL.newC .tmp (aop_box (v := .agg (encPr (x1, x2)).toArray) (by (first | (simp only [ASt.ev, tmPut, ↓reduceIte, Nat.reduceEqDiff, *]; done)))) (by subst_vars; decide) ?_
  intro τ hb x
  obtain ⟨B, hB⟩ : ∃ B, σ.nx = B := ⟨_, rfl⟩
  rw [hB] at hb ⊢
  replace h := h.keep x (by simp) (by simp) (by simp)
  have c0 : cellAt τ.H ⟨B, 0, none⟩ (.int .i64 x1) := hb.cell rfl
  have c1 : cellAt τ.H ⟨B, 1, none⟩ (.int .i64 x2) := hb.cell rfl
  clear hb hB x e1
  repeat (first | (refine OpsL.q (by first | exact oasg | exact ofa | exact old) ?_) | (refine Trip.seq ?_) | (refine Trip.ops ?_) | (refine Trip.block ?_) | (refine OpsL.nil ?_; (change Trip _ _ _ _ _)))
  by_cases hx : x1 = 1
  · repeat fail
    refine OpsL.p (by subst_vars; decide) (aop_eqlT (by (first | (simp only [ASt.ev, tmPut, ↓reduceIte, Nat.reduceEqDiff, *]; rfl))) (by rfl) (by omega)) ?_
    repeat (first | (refine OpsL.q (by exact oasg) ?_) | (refine OpsL.nil ?_; (change Trip _ _ _ _ _)))
    refine Trip.ifT ?_
    repeat (first | (refine OpsL.q (by first | exact omv | exact ofa | exact old) ?_) | (refine Trip.seq ?_) | (refine Trip.ops ?_))
    refine OpsL.c2 (hf := entersOpen13) (hc := (openC W0 h hm0 ok0 hmod hg hs2)) (h := ?_)
    rintro v nx1 H1 hv
    repeat (first | (refine OpsL.q (by exact oasg) ?_) | (refine Trip.ret ?_; ((repeat (refine blockExit_ret ?_)); dsimp only)) | (refine OpsL.nil ?_; (change Trip _ _ _ _ _)))
    refine ⟨.inr rfl, _, res_tmp, ?_⟩
    have e : (x1, x2) = ((1 : Int), x2) := by rw [hx]
    rw [e]
    simpa [tmPut] using hv
  by_cases hx2 : x1 = 2
  · have hx := hx2
    repeat fail
    refine OpsL.p (by subst_vars; decide) (aop_eqlF (by (first | (simp only [ASt.ev, tmPut, ↓reduceIte, Nat.reduceEqDiff, *]; rfl))) (by rfl) (by omega)) ?_
    repeat (first | (refine OpsL.q (by exact oasg) ?_) | (refine OpsL.nil ?_; (change Trip _ _ _ _ _)))
    refine Trip.ifF ?_
    repeat (first | (refine Trip.seq ?_) | (refine Trip.ops ?_))
    refine OpsL.p (by subst_vars; decide) (aop_eqlT (by (first | (simp only [ASt.ev, tmPut, ↓reduceIte, Nat.reduceEqDiff, *]; rfl))) (by rfl) (by omega)) ?_
    repeat (first | (refine OpsL.q (by exact oasg) ?_) | (refine OpsL.nil ?_; (change Trip _ _ _ _ _)))
    refine Trip.ifT ?_
    repeat (first | (refine OpsL.q (by first | exact omv | exact ofa | exact old) ?_) | (refine Trip.seq ?_) | (refine Trip.ops ?_))
    refine OpsL.c2 (hf := entersClose13) (hc := (closeC W0 h hm0 ok0 hmod hg hs2)) (h := ?_)
    rintro v nx1 H1 hv
    repeat (first | (refine OpsL.q (by exact oasg) ?_) | (refine Trip.ret ?_; ((repeat (refine blockExit_ret ?_)); dsimp only)) | (refine OpsL.nil ?_; (change Trip _ _ _ _ _)))
    refine ⟨.inr rfl, _, res_tmp, ?_⟩
    have e : (x1, x2) = ((2 : Int), x2) := by rw [hx]
    rw [e]
    simpa [tmPut] using hv
  by_cases hx3 : x1 = 3
  · have hx := hx3
    repeat fail
    refine OpsL.p (by subst_vars; decide) (aop_eqlF (by (first | (simp only [ASt.ev, tmPut, ↓reduceIte, Nat.reduceEqDiff, *]; rfl))) (by rfl) (by omega)) ?_
    repeat (first | (refine OpsL.q (by exact oasg) ?_) | (refine OpsL.nil ?_; (change Trip _ _ _ _ _)))
    refine Trip.ifF ?_
    repeat (first | (refine Trip.seq ?_) | (refine Trip.ops ?_))
    refine OpsL.p (by subst_vars; decide) (aop_eqlF (by (first | (simp only [ASt.ev, tmPut, ↓reduceIte, Nat.reduceEqDiff, *]; rfl))) (by rfl) (by omega)) ?_
    repeat (first | (refine OpsL.q (by exact oasg) ?_) | (refine OpsL.nil ?_; (change Trip _ _ _ _ _)))
    refine Trip.ifF ?_
    repeat (first | (refine Trip.seq ?_) | (refine Trip.ops ?_))
    refine OpsL.p (by subst_vars; decide) (aop_eqlT (by (first | (simp only [ASt.ev, tmPut, ↓reduceIte, Nat.reduceEqDiff, *]; rfl))) (by rfl) (by omega)) ?_
    repeat (first | (refine OpsL.q (by exact oasg) ?_) | (refine OpsL.nil ?_; (change Trip _ _ _ _ _)))
    refine Trip.ifT ?_
    repeat (first | (refine OpsL.q (by first | exact omv | exact ofa | exact old) ?_) | (refine Trip.seq ?_) | (refine Trip.ops ?_))
    refine OpsL.c2 (hf := entersPlain13) (hc := (plainC W0 h hm0 ok0 hmod hg hs2)) (h := ?_)
    rintro v nx1 H1 hv
    repeat (first | (refine OpsL.q (by exact oasg) ?_) | (refine Trip.ret ?_; ((repeat (refine blockExit_ret ?_)); dsimp only)) | (refine OpsL.nil ?_; (change Trip _ _ _ _ _)))
    refine ⟨.inr rfl, _, res_tmp, ?_⟩
    have e : (x1, x2) = ((3 : Int), x2) := by rw [hx]
    rw [e]
    simpa [tmPut] using hv
  repeat fail
  refine OpsL.p (by subst_vars; decide) (aop_eqlF (by (first | (simp only [ASt.ev, tmPut, ↓reduceIte, Nat.reduceEqDiff, *]; rfl))) (by rfl) hx) ?_
  repeat (first | (refine OpsL.q (by exact oasg) ?_) | (refine OpsL.nil ?_; (change Trip _ _ _ _ _)))
  refine Trip.ifF ?_
  repeat (first | (refine Trip.seq ?_) | (refine Trip.ops ?_))
  refine OpsL.p (by subst_vars; decide) (aop_eqlF (by (first | (simp only [ASt.ev, tmPut, ↓reduceIte, Nat.reduceEqDiff, *]; rfl))) (by rfl) hx2) ?_
  repeat (first | (refine OpsL.q (by exact oasg) ?_) | (refine OpsL.nil ?_; (change Trip _ _ _ _ _)))
  refine Trip.ifF ?_
  repeat (first | (refine Trip.seq ?_) | (refine Trip.ops ?_))
  refine OpsL.p (by subst_vars; decide) (aop_eqlF (by (first | (simp only [ASt.ev, tmPut, ↓reduceIte, Nat.reduceEqDiff, *]; rfl))) (by rfl) hx3) ?_
  repeat (first | (refine OpsL.q (by exact oasg) ?_) | (refine OpsL.nil ?_; (change Trip _ _ _ _ _)))
  refine Trip.ifF ?_
  repeat (first | (refine OpsL.q (by exact oasg) ?_) | (refine Trip.seq ?_) | (refine Trip.ops ?_) | (refine Trip.skip ?_; ((repeat (refine blockExit_normal ?_)); change Trip _ _ _ _ _)) | (refine Trip.ret ?_; (dsimp only)) | (refine OpsL.nil ?_; (change Trip _ _ _ _ _)))
  refine ⟨.inr rfl, _, res_tmp, .inl ⟨?_, by simp [tmPut], τ, rfl, rfl, h.old⟩⟩
  unfold stepF
  rw [if_neg hx, if_neg hx2, if_neg hx3]
end Go.Proofs.Ytjgbcpagfghfnaa
