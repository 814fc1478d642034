import Derived.Test.YtjgbcpagfghfnaaQWM26
import Derived.Test.YtjgbcpagfghfnaaQWM16
import Derived.Test.YtjgbcpagfghfnaaQWM49
import Derived.Test.YtjgbcpagfghfnaaQWM50
set_option linter.unusedVariables false
set_option linter.unusedSimpArgs false
namespace Go.Proofs.Ytjgbcpagfghfnaa
open Go.Am Go.RowKit
attribute [local irreducible] aop OpsL Trip blockExit OpsD OpsK OpsR OpsQ
structure TwX where
  A : Nat
  B : Nat
  bits : Int
  c : Nat
  p : Nat
structure TW (m : Mo) (Y : TwX) (tm : Nat → Value) : Prop where
  t2 : tm 2 = .int .i64 Y.bits
  t7 : tm 7 = .pointer (some ⟨Y.A, 0, none⟩)
  t8 : tm 8 = .int .i64 m.of.length
  t9 : tm 9 = .pointer (some ⟨Y.B, 0, none⟩)
  t11 : tm 11 = .int .i64 Y.c
  t12 : tm 12 = .int .i64 Y.p
structure TwS (σ0 σ : CH) (m : Mo) (Y : TwX) (I W : List (List Int)) (R : List (List (List Int))) (V : MoV) : Prop where
  old : OldC σ0 σ
  b : ObC .self σ Y.B (mObj m.plains m.closings V)
  of : OwnC encN 3 .of σ V.o (m.of ++ m.of)
  fi : OwnC encBo 4 .final σ V.f (m.final ++ m.final)
  inn : Row2 .inn1 .inn σ V.i I
  low : Row2 .low1 .low σ V.l W
  ret : Row3 σ V.r R
def locT (s : Nat) : Co → Prop
  | .inn1 p => s ≤ p
  | .low1 p => s ≤ p
  | .ret1 p => s ≤ p
  | .ret2 p _ => s ≤ p
  | _ => False
theorem TwS.loc {σ0 σ τ : CH} {m : Mo} {Y : TwX} {I W : List (List Int)} {R : List (List (List Int))} {V : MoV} {S : List Co} {s : Nat} (hI : I.length = s) (hW : W.length = s) (hR : R.length = s) (h : TwS σ0 σ m Y I W R V) (hc : Chg S σ τ) (hS : ∀ c ∈ S, locT s c) : TwS σ0 τ m Y I W R V :=
  ⟨h.old.keep hc (fun q => hS _ q), h.b.keep hc (fun q => hS _ q), h.of.keep hc (fun q => hS _ q), h.fi.keep hc (fun q => hS _ q), Row2.keepL hc (fun q => hS _ q) (fun p hp => fun q => absurd (hS _ q) (by simp [locT]; omega)) h.inn, Row2.keepL hc (fun q => hS _ q) (fun p hp => fun q => absurd (hS _ q) (by simp [locT]; omega)) h.low, Row3.keepL hc (fun q => hS _ q) (fun p hp => fun q => absurd (hS _ q) (by simp [locT]; omega)) (fun p j hp => fun q => absurd (hS _ q) (by simp [locT]; omega)) h.ret⟩
set_option maxRecDepth 20000 in
set_option maxHeartbeats 16000000 in
theorem twIn (W0 : World) {σ0 σ : CH} {m : Mo} {VM V : MoV} {Y : TwX} {I W : List (List Int)} {R : List (List (List Int))} {s k0 n : Nat} {tm : Nat → Value}   (hmod : ModOk m) (hbits : True) (hn0 : n = 217) (hn30 : m.of.length ≤ 30) (hFA : ∀ {N : Nat} {H' : Heap}, Ext σ0.nx σ0.H N H' → MoBox H' Y.A m VM ∧ MoIn H' m VM) (hp : Y.p < m.of.length) (hI : I.length = s) (hW : W.length = s) (hR : R.length = s) (hk0 : k0 ≤ 900000) (ht : TW m Y tm) (h10 : tm 10 = .int .i64 k0) (h13 : tm 13 = .slice none 0 0) (h14 : tm 14 = .slice none 0 0) (h15 : tm 15 = .slice none 0 0) (h16 : tm 16 = .int .i64 0) (h : TwS σ0 σ m Y I W R V) {Q : AExit → ASt → Prop}
    (hQ : ∀ tm' σ' v' l, TW m Y tm' → tm' 10 = .int .i64 ((k0 + (m.inn.getD Y.p []).length : Nat) : Int) → tm' 13 = v' → tm' 14 = .slice none 0 0 → tm' 15 = .slice none 0 0 → TwS σ0 σ' m Y I W R V → RowI (.inn1 s) σ' v' l → OverR m.of.length l (m.inn.getD Y.p []) → Q .normal ⟨tm', n, σ'.H, σ'.nx⟩) :
    Trip Try.prog W0 (subC [1, 1, 1, 1, 1, 1, 0, 1, 2, 2, 1, 0, 2, 1, 2, 2, 1, 0, 2, 1, 1, 0, 1] (bodyMk Try.f4)) ⟨tm, n, σ.H, σ.nx⟩ Q := by
  have hlen : (m.inn.getD Y.p []).length ≤ 20 := by have := (hmod.inn _ hp).1; have := hmod.pl; omega
  have hst := hmod.st
  have hn1 := hmod.n.1
  have hfl : m.inn.length = m.of.length := hmod.il
  refine Trip.block ?_
  refine Trip.inv (fun (i : Nat) st => ∃ tm σ v l, st = ⟨tm, n, σ.H, σ.nx⟩ ∧ TW m Y tm ∧ tm 10 = .int .i64 ((k0 + i : Nat) : Int) ∧ tm 13 = v ∧ tm 14 = .slice none 0 0 ∧ tm 15 = .slice none 0 0 ∧ tm 16 = .int .i64 i ∧ i ≤ (m.inn.getD Y.p []).length ∧ TwS σ0 σ m Y I W R V ∧ RowI (.inn1 s) σ v l ∧ OverP m.of.length l (m.inn.getD Y.p []) i) (fun i => (m.inn.getD Y.p []).length - i) 0 ?_ ?_
  · exact ⟨tm, σ, _, [], rfl, ht, h10, h13, h14, h15, h16, by omega, h, OwnC.nil, OverP.zero⟩
  clear h ht h10 h13 h14 h15 h16
  rintro i st ⟨tm, σ, v, l, rfl, ⟨t2, t7, t8, t9, t11, t12⟩, t10, t13, t14, t15, t16, hi, h, hre, hov⟩
  obtain ⟨hb, hG⟩ := hFA h.old.ext
  obtain ⟨qa, qc, qv⟩ := hG.inn.slice
  have hI2 := hG.inn
  have g5 := hb.c5
  rw [qv] at hI2 g5
  obtain ⟨pI, rfl, cI⟩ := L2At.addr hI2 (by omega)
  obtain ⟨rb, rk, cr, rr⟩ := cI Y.p (by omega)
  clear hb hG qv hI2 cI
  repeat (first | (refine OpsL.q (by first | exact omv | exact ofa | exact old | exact oixa | exact olen | exact olss) ?_) | (refine Trip.seq ?_) | (refine Trip.ops ?_) | (refine Trip.block ?_) | (refine Trip.itA (fun _ => ?_) (fun _ => ?_)) | (refine Trip.skip ?_; (change Trip _ _ _ _ _)) | (refine OpsL.nil ?_; (change Trip _ _ _ _ _)))
  · have hlt : i < (m.inn.getD Y.p []).length := by omega
    obtain ⟨zq, rfl, cz⟩ := IntsAt.addr rr (by omega)
    have c1 := cz i hlt
    have b1 := hst.inn Y.p _ (getD_memI hlt)
    obtain ⟨x1, hx1⟩ : ∃ x, (m.inn.getD Y.p []).getD i 0 = x := ⟨_, rfl⟩
    rw [hx1] at c1 b1
    clear rr cz
    repeat (first | (refine OpsL.q (by first | exact omv | exact old | exact oixa) ?_))
    refine OpsL.p (by subst_vars; decide) (aop_remN (by (first | (simp only [ASt.ev, tmPut, ↓reduceIte, Nat.reduceEqDiff, *]; rfl))) (by (first | (simp only [ASt.ev, tmPut, ↓reduceIte, Nat.reduceEqDiff, *]; rfl))) (by omega) (by omega)) ?_
    refine OpsL.p (by subst_vars; decide) (aop_conv (k' := .u64) (by (first | (simp only [ASt.ev, tmPut, ↓reduceIte, Nat.reduceEqDiff, *]; rfl))) (by exact rfl) (by exact rfl)) ?_
    obtain ⟨u, hu, hu0⟩ : ∃ u : Int, IntKind.u64.wrap (((k0 + i : Nat) : Int) % 40) = u ∧ 0 ≤ u := ⟨_, rfl, by rw [IntWalk.u64_in _ (by omega)]; omega⟩
    rw [hu]
    refine OpsL.p (by subst_vars; decide) (aop_shr (by (first | (simp only [ASt.ev, tmPut, ↓reduceIte, Nat.reduceEqDiff, *]; rfl))) (by (first | (simp only [ASt.ev, tmPut, ↓reduceIte, Nat.reduceEqDiff, *]; rfl))) hu0) ?_
    obtain ⟨y, hy⟩ : ∃ y : Int, Y.bits.fdiv (2 ^ (min u.toNat IntKind.i64.bits)) = y := ⟨_, rfl⟩
    rw [hy]
    refine OpsL.p (by subst_vars; decide) (aop_and1 (by (first | (simp only [ASt.ev, tmPut, ↓reduceIte, Nat.reduceEqDiff, *]; rfl))) (by (first | (simp only [ASt.ev, tmPut, ↓reduceIte, Nat.reduceEqDiff, *]; rfl)))) ?_
    have hbb := bitF_bd y
    obtain ⟨bt, hbt⟩ : ∃ b, bitF y = b := ⟨_, rfl⟩
    rw [hbt] at hbb ⊢
    refine OpsL.p (by subst_vars; decide) (aop_mulB (by (first | (simp only [ASt.ev, tmPut, ↓reduceIte, Nat.reduceEqDiff, *]; rfl))) (by (first | (simp only [ASt.ev, tmPut, ↓reduceIte, Nat.reduceEqDiff, *]; done))) hbb (by omega)) ?_
    obtain ⟨z, hz, hz2⟩ : ∃ z : Int, (m.of.length : Int) * bt = z ∧ (z = 0 ∨ z = m.of.length) := ⟨_, rfl, by rcases hbb with rfl | rfl <;> omega⟩
    rw [hz]
    clear hu hy hbt hz hbb
    repeat (first | (refine OpsL.q (by exact oadd) ?_))
    refine OpsL.litC (σ := σ) (enc := encN) (z := x1 + z) (el := 3) rfl (by (first | (simp only [ASt.ev, tmPut, ↓reduceIte, Nat.reduceEqDiff, *]; done))) (by kernel_rfl) (by subst_vars; decide) ?_
    intro σ2 x2 hu
    replace h := h.loc hI hW hR x2 (by simp)
    replace hre := RowI.keepL x2 (by simp) hre
    refine OpsL.appC (bytes := 8) (z := [.int .i64 0]) encN_len encN_one hre hu (by exact rfl) (by exact rfl) (by exact rfl) (by exact rfl) (by exact rfl) rfl (by rw [hov.1]; simp; omega) (by omega) (by (first | (simp only [ASt.ev, tmPut, ↓reduceIte, Nat.reduceEqDiff, *]; done))) (by (first | (simp only [ASt.ev, tmPut, ↓reduceIte, Nat.reduceEqDiff, *]; done))) (by subst_vars; decide) ?_
    intro v3 σ3 hre3 x3
    replace h := h.loc hI hW hR x3 (by simp [locT])
    have hov3 : OverP m.of.length (l ++ [x1 + z]) (m.inn.getD Y.p []) (i + 1) := hov.snoc (by rw [hx1]; omega)
    clear hov hre hu c1 cr g5 x2 x3
    repeat (first | (refine OpsL.q (by first | exact omv | exact oasg) ?_) | (refine Trip.ops ?_) | (refine OpsL.nil ?_; (change Trip _ _ _ _ _)))
    repeat (first | (refine OpsL.q (by first | exact omv | exact oadd | exact oasg) ?_) | (refine Trip.ops ?_) | (refine OpsL.nil ?_; ((repeat (refine blockExit_normal ?_)); first | (change Trip _ _ _ _ _) | (dsimp only))))
    repeat fail
    exact ⟨i + 1, ⟨_, σ3, v3, _, rfl, ⟨by simp [tmPut, *], by simp [tmPut, *], by simp [tmPut, *], by simp [tmPut, *], by simp [tmPut, *], by simp [tmPut, *]⟩, (by simp [tmPut, *] <;> omega), by simp [tmPut, *], by simp [tmPut, *], by simp [tmPut, *], by simp [tmPut, *], by omega, h, hre3, hov3⟩, by omega⟩
  · have hie : i = (m.inn.getD Y.p []).length := by omega
    rw [hie] at hov t10
    repeat (first | (refine Trip.exit ?_; ((repeat (refine blockExit_eq ?_)); dsimp only)))
    exact hQ _ σ v l ⟨by simp [tmPut, *], by simp [tmPut, *], by simp [tmPut, *], by simp [tmPut, *], by simp [tmPut, *], by simp [tmPut, *]⟩ (by simp [tmPut, *]) (by simp [tmPut, *]) (by simp [tmPut, *]) (by simp [tmPut, *]) h hre hov
set_option maxRecDepth 20000 in
set_option maxHeartbeats 16000000 in
theorem twLow (W0 : World) {σ0 σ : CH} {m : Mo} {VM V : MoV} {Y : TwX} {I W : List (List Int)} {R : List (List (List Int))} {s k0 n : Nat} {tm : Nat → Value} {v13 : Value} {l13 : List Int} (hmod : ModOk m) (hbits : True) (hn0 : n = 217) (hn30 : m.of.length ≤ 30) (hFA : ∀ {N : Nat} {H' : Heap}, Ext σ0.nx σ0.H N H' → MoBox H' Y.A m VM ∧ MoIn H' m VM) (hp : Y.p < m.of.length) (hI : I.length = s) (hW : W.length = s) (hR : R.length = s) (hk0 : k0 ≤ 900000) (ht : TW m Y tm) (h10 : tm 10 = .int .i64 k0) (h14 : tm 14 = .slice none 0 0) (h13 : tm 13 = v13) (h15 : tm 15 = .slice none 0 0) (h17 : tm 17 = .int .i64 0) (h : TwS σ0 σ m Y I W R V) (hr13 : RowI (.inn1 s) σ v13 l13) {Q : AExit → ASt → Prop}
    (hQ : ∀ tm' σ' v' l, TW m Y tm' → tm' 10 = .int .i64 ((k0 + (m.low.getD Y.p []).length : Nat) : Int) → tm' 14 = v' → tm' 13 = v13 → tm' 15 = .slice none 0 0 → TwS σ0 σ' m Y I W R V → RowI (.inn1 s) σ' v13 l13 → RowI (.low1 s) σ' v' l → OverR m.of.length l (m.low.getD Y.p []) → Q .normal ⟨tm', n, σ'.H, σ'.nx⟩) :
    Trip Try.prog W0 (subC [1, 1, 1, 1, 1, 1, 0, 1, 2, 2, 1, 0, 2, 1, 2, 2, 1, 0, 2, 1, 1, 1, 0, 1] (bodyMk Try.f4)) ⟨tm, n, σ.H, σ.nx⟩ Q := by
  have hlen : (m.low.getD Y.p []).length ≤ 20 := by
    by_cases hz : m.of.getD Y.p 0 = 0
    · have := (hmod.low0 _ hp hz).1; have := hmod.cl; omega
    · rw [hmod.low1 _ hp hz]; simp
  have hst := hmod.st
  have hn1 := hmod.n.1
  have hfl : m.low.length = m.of.length := hmod.ll
  refine Trip.block ?_
  refine Trip.inv (fun (i : Nat) st => ∃ tm σ v l, st = ⟨tm, n, σ.H, σ.nx⟩ ∧ TW m Y tm ∧ tm 10 = .int .i64 ((k0 + i : Nat) : Int) ∧ tm 14 = v ∧ tm 13 = v13 ∧ tm 15 = .slice none 0 0 ∧ tm 17 = .int .i64 i ∧ i ≤ (m.low.getD Y.p []).length ∧ TwS σ0 σ m Y I W R V ∧ RowI (.inn1 s) σ v13 l13 ∧ RowI (.low1 s) σ v l ∧ OverP m.of.length l (m.low.getD Y.p []) i) (fun i => (m.low.getD Y.p []).length - i) 0 ?_ ?_
  · exact ⟨tm, σ, _, [], rfl, ht, h10, h14, h13, h15, h17, by omega, h, hr13, OwnC.nil, OverP.zero⟩
  clear h ht h10 h14 h13 h15 h17 hr13
  rintro i st ⟨tm, σ, v, l, rfl, ⟨t2, t7, t8, t9, t11, t12⟩, t10, t14, t13, t15, t17, hi, h, hr13, hre, hov⟩
  obtain ⟨hb, hG⟩ := hFA h.old.ext
  obtain ⟨qa, qc, qv⟩ := hG.low.slice
  have hI2 := hG.low
  have g5 := hb.c6
  rw [qv] at hI2 g5
  obtain ⟨pI, rfl, cI⟩ := L2At.addr hI2 (by omega)
  obtain ⟨rb, rk, cr, rr⟩ := cI Y.p (by omega)
  clear hb hG qv hI2 cI
  repeat (first | (refine OpsL.q (by first | exact omv | exact ofa | exact old | exact oixa | exact olen | exact olss) ?_) | (refine Trip.seq ?_) | (refine Trip.ops ?_) | (refine Trip.block ?_) | (refine Trip.itA (fun _ => ?_) (fun _ => ?_)) | (refine Trip.skip ?_; (change Trip _ _ _ _ _)) | (refine OpsL.nil ?_; (change Trip _ _ _ _ _)))
  · have hlt : i < (m.low.getD Y.p []).length := by omega
    obtain ⟨zq, rfl, cz⟩ := IntsAt.addr rr (by omega)
    have c1 := cz i hlt
    have b1 := hst.low Y.p _ (getD_memI hlt)
    obtain ⟨x1, hx1⟩ : ∃ x, (m.low.getD Y.p []).getD i 0 = x := ⟨_, rfl⟩
    rw [hx1] at c1 b1
    clear rr cz
    repeat (first | (refine OpsL.q (by first | exact omv | exact old | exact oixa) ?_))
    refine OpsL.p (by subst_vars; decide) (aop_remN (by (first | (simp only [ASt.ev, tmPut, ↓reduceIte, Nat.reduceEqDiff, *]; rfl))) (by (first | (simp only [ASt.ev, tmPut, ↓reduceIte, Nat.reduceEqDiff, *]; rfl))) (by omega) (by omega)) ?_
    refine OpsL.p (by subst_vars; decide) (aop_conv (k' := .u64) (by (first | (simp only [ASt.ev, tmPut, ↓reduceIte, Nat.reduceEqDiff, *]; rfl))) (by exact rfl) (by exact rfl)) ?_
    obtain ⟨u, hu, hu0⟩ : ∃ u : Int, IntKind.u64.wrap (((k0 + i : Nat) : Int) % 40) = u ∧ 0 ≤ u := ⟨_, rfl, by rw [IntWalk.u64_in _ (by omega)]; omega⟩
    rw [hu]
    refine OpsL.p (by subst_vars; decide) (aop_shr (by (first | (simp only [ASt.ev, tmPut, ↓reduceIte, Nat.reduceEqDiff, *]; rfl))) (by (first | (simp only [ASt.ev, tmPut, ↓reduceIte, Nat.reduceEqDiff, *]; rfl))) hu0) ?_
    obtain ⟨y, hy⟩ : ∃ y : Int, Y.bits.fdiv (2 ^ (min u.toNat IntKind.i64.bits)) = y := ⟨_, rfl⟩
    rw [hy]
    refine OpsL.p (by subst_vars; decide) (aop_and1 (by (first | (simp only [ASt.ev, tmPut, ↓reduceIte, Nat.reduceEqDiff, *]; rfl))) (by (first | (simp only [ASt.ev, tmPut, ↓reduceIte, Nat.reduceEqDiff, *]; rfl)))) ?_
    have hbb := bitF_bd y
    obtain ⟨bt, hbt⟩ : ∃ b, bitF y = b := ⟨_, rfl⟩
    rw [hbt] at hbb ⊢
    refine OpsL.p (by subst_vars; decide) (aop_mulB (by (first | (simp only [ASt.ev, tmPut, ↓reduceIte, Nat.reduceEqDiff, *]; rfl))) (by (first | (simp only [ASt.ev, tmPut, ↓reduceIte, Nat.reduceEqDiff, *]; done))) hbb (by omega)) ?_
    obtain ⟨z, hz, hz2⟩ : ∃ z : Int, (m.of.length : Int) * bt = z ∧ (z = 0 ∨ z = m.of.length) := ⟨_, rfl, by rcases hbb with rfl | rfl <;> omega⟩
    rw [hz]
    clear hu hy hbt hz hbb
    repeat (first | (refine OpsL.q (by exact oadd) ?_))
    refine OpsL.litC (σ := σ) (enc := encN) (z := x1 + z) (el := 3) rfl (by (first | (simp only [ASt.ev, tmPut, ↓reduceIte, Nat.reduceEqDiff, *]; done))) (by kernel_rfl) (by subst_vars; decide) ?_
    intro σ2 x2 hu
    replace h := h.loc hI hW hR x2 (by simp)
    replace hre := RowI.keepL x2 (by simp) hre
    replace hr13 := RowI.keepL x2 (by simp) hr13
    refine OpsL.appC (bytes := 8) (z := [.int .i64 0]) encN_len encN_one hre hu (by exact rfl) (by exact rfl) (by exact rfl) (by exact rfl) (by exact rfl) rfl (by rw [hov.1]; simp; omega) (by omega) (by (first | (simp only [ASt.ev, tmPut, ↓reduceIte, Nat.reduceEqDiff, *]; done))) (by (first | (simp only [ASt.ev, tmPut, ↓reduceIte, Nat.reduceEqDiff, *]; done))) (by subst_vars; decide) ?_
    intro v3 σ3 hre3 x3
    replace h := h.loc hI hW hR x3 (by simp [locT])
    replace hr13 := RowI.keepL x3 (by simp) hr13
    have hov3 : OverP m.of.length (l ++ [x1 + z]) (m.low.getD Y.p []) (i + 1) := hov.snoc (by rw [hx1]; omega)
    clear hov hre hu c1 cr g5 x2 x3
    repeat (first | (refine OpsL.q (by first | exact omv | exact oasg) ?_) | (refine Trip.ops ?_) | (refine OpsL.nil ?_; (change Trip _ _ _ _ _)))
    repeat (first | (refine OpsL.q (by first | exact omv | exact oadd | exact oasg) ?_) | (refine Trip.ops ?_) | (refine OpsL.nil ?_; ((repeat (refine blockExit_normal ?_)); first | (change Trip _ _ _ _ _) | (dsimp only))))
    repeat fail
    exact ⟨i + 1, ⟨_, σ3, v3, _, rfl, ⟨by simp [tmPut, *], by simp [tmPut, *], by simp [tmPut, *], by simp [tmPut, *], by simp [tmPut, *], by simp [tmPut, *]⟩, (by simp [tmPut, *] <;> omega), by simp [tmPut, *], by simp [tmPut, *], by simp [tmPut, *], by simp [tmPut, *], by omega, h, hr13, hre3, hov3⟩, by omega⟩
  · have hie : i = (m.low.getD Y.p []).length := by omega
    rw [hie] at hov t10
    repeat (first | (refine Trip.exit ?_; ((repeat (refine blockExit_eq ?_)); dsimp only)))
    exact hQ _ σ v l ⟨by simp [tmPut, *], by simp [tmPut, *], by simp [tmPut, *], by simp [tmPut, *], by simp [tmPut, *], by simp [tmPut, *]⟩ (by simp [tmPut, *]) (by simp [tmPut, *]) (by simp [tmPut, *]) (by simp [tmPut, *]) h hr13 hre hov
end Go.Proofs.Ytjgbcpagfghfnaa
