import Derived.Test.YtjgbcpagfghfnaaQWM42
import Derived.Test.YtjgbcpagfghfnaaQWM16
set_option linter.unusedVariables false
set_option linter.unusedSimpArgs false
namespace Go.Proofs.Ytjgbcpagfghfnaa
open Go.Am Go.RowKit
attribute [local irreducible] aop OpsL Trip blockExit OpsD OpsK OpsR OpsQ
def rdO (m : Mo) (V : MoV) (a : Int) (lv : Value) : AObj := .cells (moV m V ++ [.int .i64 a, lv]) 0 none false (some 62)
structure RdS (σ0 σ : CH) (rb : Nat) (m : Mo) (V : MoV) (s : Int × List Int) : Prop where
  old : OldC σ0 σ
  r : ∃ lv, ObC .self σ rb (rdO m V s.1 lv) ∧ OwnC encN 3 .next σ lv s.2
theorem RdS.keep {S : List Co} {σ0 σ τ : CH} {rb : Nat} {m : Mo} {V : MoV} {s : Int × List Int} (hc : Chg S σ τ) (h1 : Co.old ∉ S) (h2 : Co.self ∉ S) (h3 : Co.next ∉ S) (h : RdS σ0 σ rb m V s) : RdS σ0 τ rb m V s := by
  obtain ⟨ho, lv, q1, q2⟩ := h
  exact ⟨ho.keep hc h1, lv, q1.keep hc h2, q2.keep hc h3⟩
def StepTo (σ0 : CH) (rb : Nat) (m : Mo) (V : MoV) (o : Option (Int × List Int)) (v : Value) (nx' : Nat) (H' : Heap) : Prop :=
  (o = none ∧ v = .bool false ∧ ∃ τ : CH, nx' = τ.nx ∧ H' = τ.H ∧ OldC σ0 τ) ∨ ∃ t, o = some t ∧ v = .bool true ∧ ∃ τ : CH, nx' = τ.nx ∧ H' = τ.H ∧ RdS σ0 τ rb m V t
theorem entersOpen13 : Am.Enters Try.prog 44 := ⟨Try.f44, Try.func44, by kernel_rfl, by kernel_rfl⟩
set_option maxRecDepth 20000 in
set_option maxHeartbeats 16000000 in
theorem openC (W0 : World) {σ0 σ : CH} {rb : Nat} {m : Mo} {V : MoV} {s : Int × List Int} {i : Int} (h : RdS σ0 σ rb m V s) (hm0 : MoIn σ0.H m V) (ok0 : ∀ id o, σ0.H id = some o → id < σ0.nx) (hmod : ModOk m) (hg : RGood m (fun _ => True) s) (hs2 : s.2.length ≤ 100000) :
    ACalls Try.prog W0 44 [.pointer (some ⟨rb, 0, none⟩), .int .i64 i] σ.nx σ.H fun v nx' H' => StepTo σ0 rb m V (stepF m s (1, i)) v nx' H' := by
  refine ACalls.by_trip (fn := Try.f44) (c := _) Try.func44 rfl (fun tm n hn0 htm => ?_)
  have e0 : tm 0 = .pointer (some ⟨rb, 0, none⟩) := htm 0
  have e1 : tm 1 = .int .i64 i := htm 1
  clear htm
  replace hn0 : n = 40 := hn0
  obtain ⟨⟨a0, a1⟩, -, ab⟩ := hg.at
  obtain ⟨ho, lv, hr, hL⟩ := h
  obtain ⟨la, lk, rfl⟩ := OwnC.slice encN_len hL
  obtain ⟨sa, sl⟩ := s
  simp only at a0 a1 ab hL hr hs2
  obtain ⟨P, rfl⟩ : ∃ P : Nat, sa = (P : Int) := ⟨sa.toNat, by omega⟩
  rw [Int.toNat_natCast] at ab
  have hP : P < m.of.length := by omega
  have g3 : cellAt σ.H ⟨rb, 3, none⟩ V.e := hr.cell rfl
  have g8 : cellAt σ.H ⟨rb, 8, none⟩ (.int .i64 P) := hr.cell rfl
  have g9 : cellAt σ.H ⟨rb, 9, none⟩ (.slice la sl.length lk) := hr.cell rfl
  obtain ⟨ea, ec, ev⟩ := hm0.entry.slice
  have eh := hm0.entry
  rw [ev] at g3 eh
  have hk := hmod.k
  repeat (first | (refine OpsL.q (by first | exact omv | exact oasg | exact aop_nilCheck (by (first | (simp only [ASt.ev, tmPut, ↓reduceIte, Nat.reduceEqDiff, *]; rfl))) | exact ofa | exact old | exact olen | exact osub) ?_) | (refine Trip.seq ?_) | (refine Trip.ops ?_) | (refine OpsL.nil ?_; (change Trip _ _ _ _ _)))
  refine OpsL.c3 (hf := entersFrom) (hc := (isFromC W0 _ _ _)) (h := ?_)
  rintro v1 nx1 H1 ⟨d, rfl, hd, rfl, rfl⟩
  have hst : stepF m ((P : Int), sl) (1, i) = if 0 ≤ i ∧ i ≤ (m.entry.length : Int) - 2 then some (m.entry.getD (i + 1).toNat 0, sl ++ [(P : Int)]) else none := by
    unfold stepF; rw [if_pos rfl]
  cases d
  · have hn : ¬ (0 ≤ i ∧ i ≤ (m.entry.length : Int) - 2) := fun q => by have := hd.2 q; cases this
    rw [if_neg hn] at hst
    repeat (first | (refine OpsL.q (by exact onot) ?_) | (refine OpsL.nil ?_; (change Trip _ _ _ _ _)))
    refine Trip.ifT ?_
    repeat (first | (refine OpsL.q (by exact oasg) ?_) | (refine Trip.seq ?_) | (refine Trip.ops ?_) | (refine Trip.ret ?_; (dsimp only)) | (refine OpsL.nil ?_; (change Trip _ _ _ _ _)))
    exact ⟨.inr rfl, _, res_tmp, .inl ⟨hst, by simp [tmPut], σ, rfl, rfl, ho⟩⟩
  · obtain ⟨h0, h1⟩ := hd.1 rfl
    rw [if_pos ⟨h0, h1⟩] at hst
    clear hd
    repeat (first | (refine OpsL.q (by exact onot) ?_) | (refine OpsL.nil ?_; (change Trip _ _ _ _ _)))
    refine Trip.ifF ?_
    repeat (first | (refine Trip.seq ?_) | (refine Trip.skip ?_; (change Trip _ _ _ _ _)))
    refine Trip.mono (Q := fun e st => e = .normal ∧ ∃ tm' τ, st = ⟨tm', n, τ.H, τ.nx⟩ ∧ tm' 0 = .pointer (some ⟨rb, 0, none⟩) ∧ tm' 1 = .int .i64 i ∧ OldC σ0 τ ∧ ∃ lv, ObC .self τ rb (rdO m V P lv) ∧ OwnC encN 3 .next τ lv (sl ++ [(P : Int)])) ?_ ?_
    · refine OpsQ.drawn [9, 10, 13] (K := fun j _ H => j = 10 → cellAt H ⟨rb, 9, none⟩ (.slice la sl.length lk)) mixed13 (by kernel_rfl) (by kernel_rfl) [0, 1, 2, 3, 4, 5, 6, 7, 8, 9, 10, 11, 12, 13] (by kernel_rfl) (fun _ _ _ => g9) ?_
      refine OpsQ.one rfl rfl rfl (by kernel_rfl) ?_
      repeat (first | (refine OpsL.q (by exact omv) ?_) | (refine OpsL.nil ?_; (dsimp only)))
      refine OpsQ.one rfl rfl rfl (by kernel_rfl) ?_
      repeat (first | (refine OpsL.q (by exact omv) ?_) | (refine OpsL.nil ?_; (skip)))
      refine OpsQ.one rfl rfl rfl (by kernel_rfl) ?_
      repeat (first | (refine OpsL.q (by exact aop_nilCheck (by (first | (simp only [ASt.ev, tmPut, ↓reduceIte, Nat.reduceEqDiff, *]; rfl)))) ?_) | (refine OpsL.nil ?_; (skip)))
      refine OpsQ.one rfl rfl rfl (by kernel_rfl) ?_
      repeat (first | (refine OpsL.q (by exact ofa) ?_) | (refine OpsL.nil ?_; (dsimp only)))
      refine OpsQ.sp 10 (v := .slice la sl.length lk) rfl (by kernel_rfl) (by subst_vars; decide) (fun _ => g9) (fun H2 nx2 hK => aop_load (by (first | (simp only [ASt.ev, tmPut, ↓reduceIte, Nat.reduceEqDiff, *]; rfl))) (by exact rfl) rfl (hK rfl)) ?_
      refine OpsQ.one rfl rfl rfl (by kernel_rfl) ?_
      repeat (first | (refine OpsL.q (by exact omv) ?_) | (refine OpsL.nil ?_; (skip)))
      refine OpsQ.one rfl rfl rfl (by kernel_rfl) ?_
      repeat (first | (refine OpsL.q (by exact aop_nilCheck (by (first | (simp only [ASt.ev, tmPut, ↓reduceIte, Nat.reduceEqDiff, *]; rfl)))) ?_) | (refine OpsL.nil ?_; (skip)))
      refine OpsQ.one rfl rfl rfl (by kernel_rfl) ?_
      repeat (first | (refine OpsL.q (by exact ofa) ?_) | (refine OpsL.nil ?_; (dsimp only)))
      refine OpsQ.one rfl rfl rfl (by kernel_rfl) ?_
      repeat (first | (refine OpsL.q (by exact old) ?_) | (refine OpsL.nil ?_; (skip)))
      refine OpsQ.act (by kernel_rfl) (ActStep.walk rfl rfl ?_)
      refine OpsL.litC (σ := σ) (enc := encN) (z := (P : Int)) (el := 3) rfl (by (first | (simp only [ASt.ev, tmPut, ↓reduceIte, Nat.reduceEqDiff, *]; done))) (by kernel_rfl) (by subst_vars; decide) ?_
      intro σ2 x2 hu
      replace hL := hL.keep x2 (by simp)
      replace hr := hr.keep x2 (by simp)
      replace ho := ho.keep x2 (by simp)
      refine OpsL.nil ⟨fun _ _ _ => hr.cell rfl, ?_⟩
      refine OpsQ.act (by kernel_rfl) (ActStep.walk rfl rfl ?_)
      refine OpsL.appC (bytes := 8) (z := [.int .i64 0]) encN_len encN_one hL hu (by exact rfl) (by exact rfl) (by exact rfl) (by exact rfl) (by exact rfl) rfl (by simp; omega) (by omega) (by (first | (simp only [ASt.ev, tmPut, ↓reduceIte, Nat.reduceEqDiff, *]; done))) (by (first | (simp only [ASt.ev, tmPut, ↓reduceIte, Nat.reduceEqDiff, *]; done))) (by subst_vars; decide) ?_
      intro v3 σ3 hown x3
      replace hr := hr.keep x3 (by simp)
      replace ho := ho.keep x3 (by simp)
      obtain ⟨wa, wk, rfl⟩ := OwnC.slice encN_len hown
      refine OpsL.nil ⟨fun k hk e => by simp at hk; omega, ?_⟩
      refine OpsQ.one rfl rfl rfl (by kernel_rfl) ?_
      repeat (first | (refine OpsL.q (by exact aop_nilCheck (by (first | (simp only [ASt.ev, tmPut, ↓reduceIte, Nat.reduceEqDiff, *]; rfl)))) ?_) | (refine OpsL.nil ?_; (skip)))
      refine OpsQ.one rfl rfl rfl (by kernel_rfl) ?_
      repeat (first | (refine OpsL.q (by exact ofa) ?_) | (refine OpsL.nil ?_; (dsimp only)))
      refine OpsQ.act (by kernel_rfl) (ActStep.walk rfl rfl ?_)
      refine OpsL.setC (k := 9) (v := .slice wa (sl ++ [(P : Int)]).length wk) (cs' := moV m V ++ [.int .i64 P, .slice wa (sl ++ [(P : Int)]).length wk]) hr (by show 9 < 10; omega) rfl (by exact rfl) rfl rfl (by (first | (simp only [ASt.ev, tmPut, ↓reduceIte, Nat.reduceEqDiff, *]; rfl))) (by (first | (simp only [ASt.ev, tmPut, ↓reduceIte, Nat.reduceEqDiff, *]; done))) rfl ?_
      intro τ hat xt _
      replace hown := hown.keep xt (by simp)
      replace ho := ho.keep xt (by simp)
      refine OpsL.nil ⟨fun k hk => absurd hk (by simp), ?_⟩
      refine OpsQ.nil ?_
      exact ⟨rfl, _, τ, rfl, by simp [tmPut, *], by simp [tmPut, *], ho, _, hat, hown⟩
    clear hr hL ho g3 g8 g9 e0 e1
    rintro e st ⟨rfl, tm, σ, rfl, e0, e1, ho, lv, hr, hL⟩
    have g3 : cellAt σ.H ⟨rb, 3, none⟩ V.e := hr.cell rfl
    rw [ev] at g3
    obtain ⟨q, rfl, hc⟩ := (eh.ext ho.ext ok0).atI (show (0 : Int) ≤ i + 1 by omega) (show (i + 1 : Int) < m.entry.length by omega)
    (change Trip _ _ _ _ _)
    repeat (first | (refine OpsL.q (by first | exact omv | exact aop_nilCheck (by (first | (simp only [ASt.ev, tmPut, ↓reduceIte, Nat.reduceEqDiff, *]; rfl))) | exact ofa | exact old | exact oadd | exact oixa) ?_) | (refine Trip.seq ?_) | (refine Trip.ops ?_))
    refine OpsL.setC (k := 8) (v := .int .i64 (m.entry.getD (i + 1).toNat 0)) (cs' := moV m V ++ [.int .i64 (m.entry.getD (i + 1).toNat 0), lv]) hr (by show 8 < 10; omega) rfl (by exact rfl) rfl rfl (by (first | (simp only [ASt.ev, tmPut, ↓reduceIte, Nat.reduceEqDiff, *]; rfl))) (by (first | (simp only [ASt.ev, tmPut, ↓reduceIte, Nat.reduceEqDiff, *]; done))) rfl ?_
    intro τ hat xt _
    refine OpsL.nil ?_
    (change Trip _ _ _ _ _)
    repeat (first | (refine OpsL.q (by exact oasg) ?_) | (refine Trip.seq ?_) | (refine Trip.ops ?_) | (refine Trip.ret ?_; (dsimp only)) | (refine OpsL.nil ?_; (change Trip _ _ _ _ _)))
    exact ⟨.inr rfl, _, res_tmp, .inr ⟨_, hst, by simp [tmPut], τ, rfl, rfl, ho.keep xt (by simp), lv, hat, hL.keep xt (by simp)⟩⟩
theorem entersPlain13 : Am.Enters Try.prog 46 := ⟨Try.f46, Try.func46, by kernel_rfl, by kernel_rfl⟩
set_option maxRecDepth 20000 in
set_option maxHeartbeats 16000000 in
theorem plainC (W0 : World) {σ0 σ : CH} {rb : Nat} {m : Mo} {V : MoV} {s : Int × List Int} {i : Int} (h : RdS σ0 σ rb m V s) (hm0 : MoIn σ0.H m V) (ok0 : ∀ id o, σ0.H id = some o → id < σ0.nx) (hmod : ModOk m) (hg : RGood m (fun _ => True) s) (hs2 : s.2.length ≤ 100000) :
    ACalls Try.prog W0 46 [.pointer (some ⟨rb, 0, none⟩), .int .i64 i] σ.nx σ.H fun v nx' H' => StepTo σ0 rb m V (stepF m s (3, i)) v nx' H' := by
  refine ACalls.by_trip (fn := Try.f46) (c := _) Try.func46 rfl (fun tm n hn0 htm => ?_)
  have e0 : tm 0 = .pointer (some ⟨rb, 0, none⟩) := htm 0
  have e1 : tm 1 = .int .i64 i := htm 1
  clear htm
  replace hn0 : n = 31 := hn0
  obtain ⟨⟨a0, a1⟩, -, ab⟩ := hg.at
  obtain ⟨ho, lv, hr, hL⟩ := h
  obtain ⟨la, lk, rfl⟩ := OwnC.slice encN_len hL
  obtain ⟨sa, sl⟩ := s
  simp only at a0 a1 ab hL hr hs2
  obtain ⟨P, rfl⟩ : ∃ P : Nat, sa = (P : Int) := ⟨sa.toNat, by omega⟩
  rw [Int.toNat_natCast] at ab
  have hP : P < m.of.length := by omega
  have g0 : cellAt σ.H ⟨rb, 0, none⟩ (.int .i64 m.plains) := hr.cell rfl
  have g5 : cellAt σ.H ⟨rb, 5, none⟩ V.i := hr.cell rfl
  have g8 : cellAt σ.H ⟨rb, 8, none⟩ (.int .i64 P) := hr.cell rfl
  obtain ⟨ia, ic, iv⟩ := hm0.inn.slice
  have ih := hm0.inn
  rw [iv] at g5 ih
  have hk := hmod.pl
  have hrl := (hmod.inn P hP).1
  have hil := Nat.lt_of_lt_of_eq hP hmod.il.symm
  obtain ⟨q1, rb1, rk1, rfl, hc1, hrow⟩ := L2At.atI ih (show (0 : Int) ≤ P by omega) (show (P : Int) < m.inn.length by omega)
  rw [Int.toNat_natCast] at hc1 hrow
  replace hc1 := cell_ext ho.ext ok0 hc1
  repeat (first | (refine OpsL.q (by first | exact omv | exact oasg | exact aop_nilCheck (by (first | (simp only [ASt.ev, tmPut, ↓reduceIte, Nat.reduceEqDiff, *]; rfl))) | exact ofa | exact old | exact osub) ?_) | (refine Trip.seq ?_) | (refine Trip.ops ?_) | (refine OpsL.nil ?_; (change Trip _ _ _ _ _)))
  refine OpsL.c3 (hf := entersFrom) (hc := (isFromC W0 _ _ _)) (h := ?_)
  rintro v1 nx1 H1 ⟨d, rfl, hd, rfl, rfl⟩
  have hst : stepF m ((P : Int), sl) (3, i) = if 0 ≤ i ∧ i ≤ m.plains - 1 then some ((m.inn.getD P []).getD i.toNat 0, sl) else none := by
    unfold stepF; rw [if_neg (show ¬ (3 : Int) = 1 by omega), if_neg (show ¬ (3 : Int) = 2 by omega), if_pos rfl]; rfl
  cases d
  · have hn : ¬ (0 ≤ i ∧ i ≤ m.plains - 1) := fun q => by have := hd.2 q; cases this
    rw [if_neg hn] at hst
    repeat (first | (refine OpsL.q (by exact onot) ?_) | (refine OpsL.nil ?_; (change Trip _ _ _ _ _)))
    refine Trip.ifT ?_
    repeat (first | (refine OpsL.q (by exact oasg) ?_) | (refine Trip.seq ?_) | (refine Trip.ops ?_) | (refine Trip.ret ?_; (dsimp only)) | (refine OpsL.nil ?_; (change Trip _ _ _ _ _)))
    exact ⟨.inr rfl, _, res_tmp, .inl ⟨hst, by simp [tmPut], σ, rfl, rfl, ho⟩⟩
  · obtain ⟨h0, h1⟩ := hd.1 rfl
    rw [if_pos ⟨h0, h1⟩] at hst
    clear hd
    obtain ⟨R, hR⟩ : ∃ R, m.inn.getD P [] = R := ⟨_, rfl⟩
    rw [hR] at hc1 hrow hrl hst
    clear hR
    obtain ⟨q2, rfl, hc2⟩ := hrow.atI h0 (show i < R.length by omega)
    replace hc2 := cell_ext ho.ext ok0 hc2
    repeat (first | (refine OpsL.q (by exact onot) ?_) | (refine OpsL.nil ?_; (change Trip _ _ _ _ _)))
    refine Trip.ifF ?_
    repeat (first | (refine Trip.seq ?_) | (refine Trip.skip ?_; (change Trip _ _ _ _ _)))
    refine OpsQ.drawn [17] (K := fun _ _ _ => True) mixed13 (by kernel_rfl) (by kernel_rfl) [0, 1, 2, 3, 4, 5, 6, 7, 8, 9, 10, 11, 12, 13, 14, 15, 16, 17] (by kernel_rfl) (fun _ _ => trivial) ?_
    refine OpsQ.one rfl rfl rfl (by kernel_rfl) ?_
    repeat (first | (refine OpsL.q (by exact omv) ?_) | (refine OpsL.nil ?_; (dsimp only)))
    refine OpsQ.one rfl rfl rfl (by kernel_rfl) ?_
    repeat (first | (refine OpsL.q (by exact omv) ?_) | (refine OpsL.nil ?_; (skip)))
    refine OpsQ.one rfl rfl rfl (by kernel_rfl) ?_
    repeat (first | (refine OpsL.q (by exact aop_nilCheck (by (first | (simp only [ASt.ev, tmPut, ↓reduceIte, Nat.reduceEqDiff, *]; rfl)))) ?_) | (refine OpsL.nil ?_; (skip)))
    refine OpsQ.one rfl rfl rfl (by kernel_rfl) ?_
    repeat (first | (refine OpsL.q (by exact ofa) ?_) | (refine OpsL.nil ?_; (dsimp only)))
    refine OpsQ.one rfl rfl rfl (by kernel_rfl) ?_
    repeat (first | (refine OpsL.q (by exact ofa) ?_) | (refine OpsL.nil ?_; (dsimp only)))
    refine OpsQ.one rfl rfl rfl (by kernel_rfl) ?_
    repeat (first | (refine OpsL.q (by exact old) ?_) | (refine OpsL.nil ?_; (skip)))
    refine OpsQ.one rfl rfl rfl (by kernel_rfl) ?_
    repeat (first | (refine OpsL.q (by exact omv) ?_) | (refine OpsL.nil ?_; (skip)))
    refine OpsQ.one rfl rfl rfl (by kernel_rfl) ?_
    repeat (first | (refine OpsL.q (by exact aop_nilCheck (by (first | (simp only [ASt.ev, tmPut, ↓reduceIte, Nat.reduceEqDiff, *]; rfl)))) ?_) | (refine OpsL.nil ?_; (skip)))
    refine OpsQ.one rfl rfl rfl (by kernel_rfl) ?_
    repeat (first | (refine OpsL.q (by exact ofa) ?_) | (refine OpsL.nil ?_; (dsimp only)))
    refine OpsQ.one rfl rfl rfl (by kernel_rfl) ?_
    repeat (first | (refine OpsL.q (by exact old) ?_) | (refine OpsL.nil ?_; (skip)))
    refine OpsQ.one rfl rfl rfl (by kernel_rfl) ?_
    repeat (first | (refine OpsL.q (by exact oixa) ?_) | (refine OpsL.nil ?_; (dsimp only)))
    refine OpsQ.one rfl rfl rfl (by kernel_rfl) ?_
    repeat (first | (refine OpsL.q (by exact old) ?_) | (refine OpsL.nil ?_; (skip)))
    refine OpsQ.one rfl rfl rfl (by kernel_rfl) ?_
    repeat (first | (refine OpsL.q (by exact omv) ?_) | (refine OpsL.nil ?_; (skip)))
    refine OpsQ.one rfl rfl rfl (by kernel_rfl) ?_
    repeat (first | (refine OpsL.q (by exact oixa) ?_) | (refine OpsL.nil ?_; (dsimp only)))
    refine OpsQ.one rfl rfl rfl (by kernel_rfl) ?_
    repeat (first | (refine OpsL.q (by exact old) ?_) | (refine OpsL.nil ?_; (skip)))
    refine OpsQ.one rfl rfl rfl (by kernel_rfl) ?_
    repeat (first | (refine OpsL.q (by exact aop_nilCheck (by (first | (simp only [ASt.ev, tmPut, ↓reduceIte, Nat.reduceEqDiff, *]; rfl)))) ?_) | (refine OpsL.nil ?_; (skip)))
    refine OpsQ.one rfl rfl rfl (by kernel_rfl) ?_
    repeat (first | (refine OpsL.q (by exact ofa) ?_) | (refine OpsL.nil ?_; (dsimp only)))
    refine OpsQ.act (by kernel_rfl) (ActStep.walk rfl rfl ?_)
    refine OpsL.setC (k := 8) (v := .int .i64 (R.getD i.toNat 0)) (cs' := moV m V ++ [.int .i64 (R.getD i.toNat 0), .slice la sl.length lk]) hr (by show 8 < 10; omega) rfl (by exact rfl) rfl rfl (by (first | (simp only [ASt.ev, tmPut, ↓reduceIte, Nat.reduceEqDiff, *]; rfl))) (by (first | (simp only [ASt.ev, tmPut, ↓reduceIte, Nat.reduceEqDiff, *]; done))) rfl ?_
    intro τ hat xt _
    refine OpsL.nil ⟨fun k hk => absurd hk (by simp), ?_⟩
    refine OpsQ.nil ?_
    (change Trip _ _ _ _ _)
    repeat (first | (refine OpsL.q (by exact oasg) ?_) | (refine Trip.seq ?_) | (refine Trip.ops ?_) | (refine Trip.ret ?_; (dsimp only)) | (refine OpsL.nil ?_; (change Trip _ _ _ _ _)))
    exact ⟨.inr rfl, _, res_tmp, .inr ⟨_, hst, by simp [tmPut], τ, rfl, rfl, ho.keep xt (by simp), _, hat, hL.keep xt (by simp)⟩⟩
end Go.Proofs.Ytjgbcpagfghfnaa
