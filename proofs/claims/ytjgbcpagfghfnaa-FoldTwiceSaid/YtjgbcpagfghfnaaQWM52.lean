import Derived.Test.YtjgbcpagfghfnaaQWM51
import Derived.Test.YtjgbcpagfghfnaaQWM16
set_option linter.unusedVariables false
set_option linter.unusedSimpArgs false
namespace Go.Proofs.Ytjgbcpagfghfnaa
open Go.Am Go.RowKit
attribute [local irreducible] aop OpsL Trip blockExit OpsD OpsK OpsR OpsQ
set_option maxRecDepth 20000 in
set_option maxHeartbeats 16000000 in
theorem twR (W0 : World) {σ0 σ : CH} {m : Mo} {VM V : MoV} {Y : TwX} {I W : List (List Int)} {R : List (List (List Int))} {s k0 n : Nat} {tm : Nat → Value} {v13 v14 : Value} {l13 l14 : List Int} {v15 : Value} {l15 : List (List Int)} {j : Nat} (hmod : ModOk m) (hn0 : n = 217) (hn30 : m.of.length ≤ 30) (hFA : ∀ {N : Nat} {H' : Heap}, Ext σ0.nx σ0.H N H' → MoBox H' Y.A m VM ∧ MoIn H' m VM) (hp : Y.p < m.of.length) (hI : I.length = s) (hW : W.length = s) (hR : R.length = s) (hz : m.of.getD Y.p 0 ≠ 0) (hj : j < (m.ret.getD Y.p []).length) (hk0 : k0 ≤ 900000) (ht : TW m Y tm) (h10 : tm 10 = .int .i64 k0) (h13 : tm 13 = v13) (h14 : tm 14 = v14) (hr13 : RowI (.inn1 s) σ v13 l13) (hr14 : RowI (.low1 s) σ v14 l14) (h15 : tm 15 = v15) (h18 : tm 18 = .int .i64 j) (h19 : tm 19 = .slice none 0 0) (h20 : tm 20 = .int .i64 0) (h : TwS σ0 σ m Y I W R V) (hr15 : Row2 (.ret2 s) (.ret1 s) σ v15 l15) (hl15 : l15.length = j) {Q : AExit → ASt → Prop}
    (hQ : ∀ tm' σ' v' l, TW m Y tm' → tm' 10 = .int .i64 ((k0 + 2 * m.of.length : Nat) : Int) → tm' 13 = v13 → tm' 14 = v14 → TwS σ0 σ' m Y I W R V → RowI (.inn1 s) σ' v13 l13 → RowI (.low1 s) σ' v14 l14 → tm' 15 = v15 → tm' 18 = .int .i64 j → tm' 19 = v' → Row2 (.ret2 s) (.ret1 s) σ' v15 l15 → RowI (.ret2 s j) σ' v' l → OverC m.of.length l ((m.ret.getD Y.p []).getD j []) → Q .normal ⟨tm', n, σ'.H, σ'.nx⟩) :
    Trip Try.prog W0 (subC [1, 1, 1, 1, 1, 1, 0, 1, 2, 2, 1, 0, 2, 1, 2, 2, 1, 0, 2, 1, 1, 1, 1, 0, 1, 2, 2, 1, 0, 2, 1, 0, 1] (bodyMk Try.f4)) ⟨tm, n, σ.H, σ.nx⟩ Q := by
  have hn1 := hmod.n.1
  have hfl : m.ret.length = m.of.length := hmod.rl
  obtain ⟨hr1, hr2⟩ := hmod.ret1 _ hp hz
  obtain ⟨hjl, hjq⟩ := hr2 j hj
  refine Trip.block ?_
  refine Trip.inv (fun (i : Nat) st => ∃ tm σ v l, st = ⟨tm, n, σ.H, σ.nx⟩ ∧ TW m Y tm ∧ tm 10 = .int .i64 ((k0 + i : Nat) : Int) ∧ tm 13 = v13 ∧ tm 14 = v14 ∧ tm 15 = v15 ∧ tm 18 = .int .i64 j ∧ tm 19 = v ∧ tm 20 = .int .i64 i ∧ i ≤ 2 * m.of.length ∧ TwS σ0 σ m Y I W R V ∧ RowI (.inn1 s) σ v13 l13 ∧ RowI (.low1 s) σ v14 l14 ∧ Row2 (.ret2 s) (.ret1 s) σ v15 l15 ∧ RowI (.ret2 s j) σ v l ∧ OverQ m.of.length l ((m.ret.getD Y.p []).getD j []) i) (fun i => 2 * m.of.length - i) 0 ?_ ?_
  · exact ⟨tm, σ, _, [], rfl, ht, h10, h13, h14, h15, h18, h19, h20, by omega, h, hr13, hr14, hr15, OwnC.nil, OverQ.zero⟩
  clear h ht h10 h13 h14 h15 h18 h19 h20 hr13 hr14 hr15
  rintro i st ⟨tm, σ, v, l, rfl, ⟨t2, t7, t8, t9, t11, t12⟩, t10, t13, t14, t15, t18, t19, t20, hi, h, hr13, hr14, hr15, hre, hov⟩
  obtain ⟨hb, hG⟩ := hFA h.old.ext
  obtain ⟨qa, qc, qv⟩ := hG.ret.slice
  have hI2 := hG.ret
  have g7 := hb.c7
  rw [qv] at hI2 g7
  obtain ⟨pI, rfl, cI⟩ := L3At.addr hI2 (by omega)
  obtain ⟨rb, rk, cr, rr⟩ := cI Y.p (by omega)
  obtain ⟨pJ, rfl, cJ⟩ := L2At.addr rr (by omega)
  obtain ⟨qb, qk, cq, qr⟩ := cJ j hj
  obtain ⟨zq, rfl, cz⟩ := IntsAt.addr qr (by omega)
  clear hb hG qv hI2 cI rr cJ qr
  have hrl := Nat.mod_lt i (show m.of.length > 0 by omega)
  have hre2 : ((i : Int) % (m.of.length : Int)) = ((i % m.of.length : Nat) : Int) := rfl
  obtain ⟨r, hrr⟩ : ∃ r, i % m.of.length = r := ⟨_, rfl⟩
  rw [hrr] at hrl hre2
  have c1 := cz r (by omega)
  have b1 := (hjq r hrl).1
  obtain ⟨x1, hx1⟩ : ∃ x, ((m.ret.getD Y.p []).getD j []).getD r 0 = x := ⟨_, rfl⟩
  rw [hx1] at c1 b1
  have hsn : ∀ {z : Int}, (z = 0 ∨ z = m.of.length) → OverQ m.of.length (l ++ [x1 + z]) ((m.ret.getD Y.p []).getD j []) (i + 1) := fun {z} hz2 => hov.snoc (by rw [hrr, hx1]; omega)
  have hjl2 : r < ((m.ret.getD Y.p []).getD j []).length := by omega
  have hpr : Y.p < m.ret.length := by omega
  have hjj : ((m.ret.getD Y.p []).getD j []).length ≤ 60 := by omega
  have hll : l.length ≤ 60 := by rw [hov.1]; omega
  clear cz hjl hjq hr1 hr2 hx1 hrr
  repeat (first | (refine OpsL.q (by first | exact omv | exact omul | exact olss) ?_) | (refine Trip.seq ?_) | (refine Trip.ops ?_) | (refine Trip.block ?_) | (refine Trip.itA (fun _ => ?_) (fun _ => ?_)) | (refine Trip.skip ?_; (change Trip _ _ _ _ _)) | (refine OpsL.nil ?_; (change Trip _ _ _ _ _)))
  · have hlt : i < 2 * m.of.length := by omega
    refine Trip.mono (Q := fun e st => e = .normal ∧ ∃ tm' σ' v' z, st = ⟨tm', n, σ'.H, σ'.nx⟩ ∧ TW m Y tm' ∧ tm' 10 = .int .i64 ((k0 + i : Nat) : Int) ∧ tm' 13 = v13 ∧ tm' 14 = v14 ∧ tm' 15 = v15 ∧ tm' 18 = .int .i64 j ∧ tm' 19 = v' ∧ tm' 20 = .int .i64 i ∧ TwS σ0 σ' m Y I W R V ∧ RowI (.inn1 s) σ' v13 l13 ∧ RowI (.low1 s) σ' v14 l14 ∧ Row2 (.ret2 s) (.ret1 s) σ' v15 l15 ∧ RowI (.ret2 s j) σ' v' (l ++ [x1 + z]) ∧ (z = 0 ∨ z = m.of.length)) ?_ ?_
    · clear hov hsn
      have hKK : cellAt σ.H ⟨Y.A, 7, none⟩ (.slice (some pI) m.ret.length qc) ∧ cellAt σ.H ⟨pI.block, pI.off + Y.p * 1, pI.spot⟩ (.slice (some pJ) (m.ret.getD Y.p []).length rk) ∧ cellAt σ.H ⟨pJ.block, pJ.off + j * 1, pJ.spot⟩ (.slice (some zq) ((m.ret.getD Y.p []).getD j []).length qk) ∧ cellAt σ.H ⟨zq.block, zq.off + r * 1, zq.spot⟩ (.int .i64 x1) := ⟨g7, cr, cq, c1⟩
      clear g7 cr cq c1
      refine OpsQ.drawn [18, 23, 24, 25] (K := fun j' _ H => j' = 23 → cellAt H ⟨Y.A, 7, none⟩ (.slice (some pI) m.ret.length qc) ∧ cellAt H ⟨pI.block, pI.off + Y.p * 1, pI.spot⟩ (.slice (some pJ) (m.ret.getD Y.p []).length rk) ∧ cellAt H ⟨pJ.block, pJ.off + j * 1, pJ.spot⟩ (.slice (some zq) ((m.ret.getD Y.p []).getD j []).length qk) ∧ cellAt H ⟨zq.block, zq.off + r * 1, zq.spot⟩ (.int .i64 x1)) mixed13 (by kernel_rfl) (by kernel_rfl) [0, 1, 2, 3, 4, 5, 6, 7, 8, 9, 10, 11, 12, 13, 14, 15, 16, 17, 18, 19, 20, 21, 22, 23, 24, 25] (by kernel_rfl) (fun _ _ _ => hKK) ?_
      refine OpsQ.one rfl rfl rfl (by kernel_rfl) ?_
      repeat (first | (refine OpsL.q (by exact omv) ?_) | (refine OpsL.nil ?_; (skip)))
      refine OpsQ.one rfl rfl rfl (by kernel_rfl) ?_
      repeat (first | (refine OpsL.q (by exact ofa) ?_) | (refine OpsL.nil ?_; (dsimp only)))
      refine OpsQ.sp 23 rfl (by kernel_rfl) (by subst_vars; decide) (fun _ => hKK) (fun H2 nx2 hK => aop_load (by (first | (simp only [ASt.ev, tmPut, ↓reduceIte, Nat.reduceEqDiff, *]; rfl))) (by exact rfl) rfl (hK rfl).1) ?_
      refine OpsQ.one rfl rfl rfl (by kernel_rfl) ?_
      repeat (first | (refine OpsL.q (by exact omv) ?_) | (refine OpsL.nil ?_; (skip)))
      refine OpsQ.one rfl rfl rfl (by kernel_rfl) ?_
      repeat (first | (refine OpsL.q (by exact oixa) ?_) | (refine OpsL.nil ?_; (dsimp only)))
      refine OpsQ.sp 23 rfl (by kernel_rfl) (by subst_vars; decide) (fun _ => hKK) (fun H2 nx2 hK => aop_load (by (first | (simp only [ASt.ev, tmPut, ↓reduceIte, Nat.reduceEqDiff, *]; rfl))) (by exact rfl) rfl (hK rfl).2.1) ?_
      refine OpsQ.one rfl rfl rfl (by kernel_rfl) ?_
      repeat (first | (refine OpsL.q (by exact omv) ?_) | (refine OpsL.nil ?_; (skip)))
      refine OpsQ.one rfl rfl rfl (by kernel_rfl) ?_
      repeat (first | (refine OpsL.q (by exact oixa) ?_) | (refine OpsL.nil ?_; (dsimp only)))
      refine OpsQ.sp 23 rfl (by kernel_rfl) (by subst_vars; decide) (fun _ => hKK) (fun H2 nx2 hK => aop_load (by (first | (simp only [ASt.ev, tmPut, ↓reduceIte, Nat.reduceEqDiff, *]; rfl))) (by exact rfl) rfl (hK rfl).2.2.1) ?_
      refine OpsQ.one rfl rfl rfl (by kernel_rfl) ?_
      repeat (first | (refine OpsL.q (by exact omv) ?_) | (refine OpsL.nil ?_; (skip)))
      refine OpsQ.one rfl rfl rfl (by kernel_rfl) ?_
      repeat (first | (refine OpsL.q (by exact omv) ?_) | (refine OpsL.nil ?_; (skip)))
      refine OpsQ.one rfl rfl rfl (by kernel_rfl) ?_
      refine OpsL.p (by subst_vars; decide) (aop_remN (by (first | (simp only [ASt.ev, tmPut, ↓reduceIte, Nat.reduceEqDiff, *]; rfl))) (by (first | (simp only [ASt.ev, tmPut, ↓reduceIte, Nat.reduceEqDiff, *]; rfl))) (by omega) (by omega)) ?_
      refine OpsL.nil ?_
      rw [hre2]
      refine OpsQ.one rfl rfl rfl (by kernel_rfl) ?_
      repeat (first | (refine OpsL.q (by exact oixa) ?_) | (refine OpsL.nil ?_; (dsimp only)))
      refine OpsQ.sp 23 rfl (by kernel_rfl) (by subst_vars; decide) (fun _ => hKK) (fun H2 nx2 hK => aop_load (by (first | (simp only [ASt.ev, tmPut, ↓reduceIte, Nat.reduceEqDiff, *]; rfl))) (by exact rfl) rfl (hK rfl).2.2.2) ?_
      refine OpsQ.one rfl rfl rfl (by kernel_rfl) ?_
      repeat (first | (refine OpsL.q (by exact omv) ?_) | (refine OpsL.nil ?_; (skip)))
      refine OpsQ.one rfl rfl rfl (by kernel_rfl) ?_
      repeat (first | (refine OpsL.q (by exact omv) ?_) | (refine OpsL.nil ?_; (skip)))
      refine OpsQ.one rfl rfl rfl (by kernel_rfl) ?_
      repeat (first | (refine OpsL.q (by exact omv) ?_) | (refine OpsL.nil ?_; (skip)))
      refine OpsQ.one rfl rfl rfl (by kernel_rfl) ?_
      refine OpsL.p (by subst_vars; decide) (aop_remN (by (first | (simp only [ASt.ev, tmPut, ↓reduceIte, Nat.reduceEqDiff, *]; rfl))) (by (first | (simp only [ASt.ev, tmPut, ↓reduceIte, Nat.reduceEqDiff, *]; rfl))) (by omega) (by omega)) ?_
      refine OpsL.nil ?_
      refine OpsQ.act (by kernel_rfl) (ActStep.walk rfl rfl ?_)
      refine OpsL.p (by subst_vars; decide) (aop_conv (k' := .u64) (by (first | (simp only [ASt.ev, tmPut, ↓reduceIte, Nat.reduceEqDiff, *]; rfl))) (by exact rfl) (by exact rfl)) ?_
      refine OpsL.nil ⟨fun _ _ _ => hKK, ?_⟩
      obtain ⟨u, hu, hu0⟩ : ∃ u : Int, IntKind.u64.wrap (((k0 + i : Nat) : Int) % 40) = u ∧ 0 ≤ u := ⟨_, rfl, by rw [IntWalk.u64_in _ (by omega)]; omega⟩
      rw [hu]
      refine OpsQ.one rfl rfl rfl (by kernel_rfl) ?_
      refine OpsL.p (by subst_vars; decide) (aop_shr (by (first | (simp only [ASt.ev, tmPut, ↓reduceIte, Nat.reduceEqDiff, *]; rfl))) (by (first | (simp only [ASt.ev, tmPut, ↓reduceIte, Nat.reduceEqDiff, *]; rfl))) hu0) ?_
      refine OpsL.nil ?_
      obtain ⟨y, hy⟩ : ∃ y : Int, Y.bits.fdiv (2 ^ (min u.toNat IntKind.i64.bits)) = y := ⟨_, rfl⟩
      rw [hy]
      refine OpsQ.one rfl rfl rfl (by kernel_rfl) ?_
      refine OpsL.p (by subst_vars; decide) (aop_and1 (by (first | (simp only [ASt.ev, tmPut, ↓reduceIte, Nat.reduceEqDiff, *]; rfl))) (by (first | (simp only [ASt.ev, tmPut, ↓reduceIte, Nat.reduceEqDiff, *]; rfl)))) ?_
      refine OpsL.nil ?_
      have hbb := bitF_bd y
      obtain ⟨bt, hbt⟩ : ∃ b, bitF y = b := ⟨_, rfl⟩
      rw [hbt] at hbb ⊢
      refine OpsQ.one rfl rfl rfl (by kernel_rfl) ?_
      refine OpsL.p (by subst_vars; decide) (aop_mulB (by (first | (simp only [ASt.ev, tmPut, ↓reduceIte, Nat.reduceEqDiff, *]; rfl))) (by (first | (simp only [ASt.ev, tmPut, ↓reduceIte, Nat.reduceEqDiff, *]; done))) hbb (by omega)) ?_
      refine OpsL.nil ?_
      obtain ⟨z, hz, hz2⟩ : ∃ z : Int, (m.of.length : Int) * bt = z ∧ (z = 0 ∨ z = m.of.length) := ⟨_, rfl, by rcases hbb with rfl | rfl <;> omega⟩
      rw [hz]
      clear hu hy hbt hz hbb
      refine OpsQ.one rfl rfl rfl (by kernel_rfl) ?_
      repeat (first | (refine OpsL.q (by exact oadd) ?_) | (refine OpsL.nil ?_; (skip)))
      refine OpsQ.act (by kernel_rfl) (ActStep.walk rfl rfl ?_)
      refine OpsL.litC (σ := σ) (enc := encN) (z := x1 + z) (el := 3) rfl (by (first | (simp only [ASt.ev, tmPut, ↓reduceIte, Nat.reduceEqDiff, *]; done))) (by kernel_rfl) (by subst_vars; decide) ?_
      intro σ2 x2 hu
      replace h := h.loc hI hW hR x2 (by simp)
      replace hre := RowI.keepL x2 (by simp) hre
      replace hr13 := RowI.keepL x2 (by simp) hr13
      replace hr14 := RowI.keepL x2 (by simp) hr14
      replace hr15 := Row2.keepL x2 (by simp) (fun jj hjj => by simp) hr15
      refine OpsL.nil ⟨fun k hk e => absurd hk (by subst e; simp), ?_⟩
      refine OpsQ.act (by kernel_rfl) (ActStep.walk rfl rfl ?_)
      refine OpsL.appC (bytes := 8) (z := [.int .i64 0]) encN_len encN_one hre hu (by exact rfl) (by exact rfl) (by exact rfl) (by exact rfl) (by exact rfl) rfl (by simp; omega) (by omega) (by (first | (simp only [ASt.ev, tmPut, ↓reduceIte, Nat.reduceEqDiff, *]; done))) (by (first | (simp only [ASt.ev, tmPut, ↓reduceIte, Nat.reduceEqDiff, *]; done))) (by subst_vars; decide) ?_
      intro v3 σ3 hre3 x3
      replace h := h.loc hI hW hR x3 (by simp [locT])
      replace hr13 := RowI.keepL x3 (by simp) hr13
      replace hr14 := RowI.keepL x3 (by simp) hr14
      replace hr15 := Row2.keepL x3 (by simp) (fun jj hjj => by simp; try omega) hr15
      refine OpsL.nil ⟨fun k hk e => absurd hk (by subst e; simp), ?_⟩
      refine OpsQ.act (by kernel_rfl) (ActStep.walk rfl rfl ?_)
      (first | (refine OpsL.q (by exact oasg) ?_))
      refine OpsL.nil ⟨fun k hk => absurd hk (by simp), ?_⟩
      refine OpsQ.nil ?_
      exact ⟨rfl, _, σ3, v3, z, rfl, ⟨by simp [tmPut, *], by simp [tmPut, *], by simp [tmPut, *], by simp [tmPut, *], by simp [tmPut, *], by simp [tmPut, *]⟩, by simp [tmPut, *], by simp [tmPut, *], by simp [tmPut, *], by simp [tmPut, *], by simp [tmPut, *], by simp [tmPut, *], by simp [tmPut, *], h, hr13, hr14, hr15, hre3, hz2⟩
    clear t2 t7 t8 t9 t10 t11 t12 t13 t14 t15 t18 t19 t20 h hr13 hr14 hr15 hre c1 cr g7 cq
    rintro e st ⟨rfl, tm, σ3, v3, z, rfl, ⟨t2, t7, t8, t9, t11, t12⟩, t10, t13, t14, t15, t18, t19, t20, h, hr13, hr14, hr15, hre3, hz2⟩
    have hov3 := hsn hz2
    clear hov hsn hre2
    (change Trip _ _ _ _ _)
    repeat (first | (refine OpsL.q (by first | exact omv | exact oadd | exact oasg) ?_) | (refine Trip.ops ?_) | (refine OpsL.nil ?_; ((repeat (refine blockExit_normal ?_)); first | (change Trip _ _ _ _ _) | (dsimp only))))
    repeat fail
    exact ⟨i + 1, ⟨_, σ3, v3, _, rfl, ⟨by simp [tmPut, *], by simp [tmPut, *], by simp [tmPut, *], by simp [tmPut, *], by simp [tmPut, *], by simp [tmPut, *]⟩, (by simp [tmPut, *] <;> omega), by simp [tmPut, *], by simp [tmPut, *], by simp [tmPut, *], by simp [tmPut, *], by simp [tmPut, *], by simp [tmPut, *], by omega, h, hr13, hr14, hr15, hre3, hov3⟩, by omega⟩
  · have hie : i = 2 * m.of.length := by omega
    rw [hie] at hov t10
    clear hsn hre2
    repeat (first | (refine Trip.exit ?_; ((repeat (refine blockExit_eq ?_)))))
    exact hQ _ σ v l ⟨by simp [tmPut, *], by simp [tmPut, *], by simp [tmPut, *], by simp [tmPut, *], by simp [tmPut, *], by simp [tmPut, *]⟩ (by simp [tmPut, *]) (by simp [tmPut, *]) (by simp [tmPut, *]) h hr13 hr14 (by simp [tmPut, *]) (by simp [tmPut, *]) (by simp [tmPut, *]) hr15 hre hov
set_option maxRecDepth 20000 in
set_option maxHeartbeats 16000000 in
theorem twRet (W0 : World) {σ0 σ : CH} {m : Mo} {VM V : MoV} {Y : TwX} {I W : List (List Int)} {R : List (List (List Int))} {s k0 n : Nat} {tm : Nat → Value} {v13 v14 : Value} {l13 l14 : List Int} (hmod : ModOk m) (hn0 : n = 217) (hn30 : m.of.length ≤ 30) (hFA : ∀ {N : Nat} {H' : Heap}, Ext σ0.nx σ0.H N H' → MoBox H' Y.A m VM ∧ MoIn H' m VM) (hp : Y.p < m.of.length) (hI : I.length = s) (hW : W.length = s) (hR : R.length = s) (hk0 : k0 ≤ 800000) (ht : TW m Y tm) (h10 : tm 10 = .int .i64 k0) (h13 : tm 13 = v13) (h14 : tm 14 = v14) (hr13 : RowI (.inn1 s) σ v13 l13) (hr14 : RowI (.low1 s) σ v14 l14) (h15 : tm 15 = .slice none 0 0) (h18 : tm 18 = .int .i64 0) (h : TwS σ0 σ m Y I W R V) {Q : AExit → ASt → Prop}
    (hQ : ∀ tm' σ' v' l k1, TW m Y tm' → tm' 10 = .int .i64 ((k1 : Nat) : Int) → k1 ≤ k0 + 1200 → tm' 13 = v13 → tm' 14 = v14 → TwS σ0 σ' m Y I W R V → RowI (.inn1 s) σ' v13 l13 → RowI (.low1 s) σ' v14 l14 → tm' 15 = v' → Row2 (.ret2 s) (.ret1 s) σ' v' l → OverL m.of.length l (m.ret.getD Y.p []) (m.ret.getD Y.p []).length → Q .normal ⟨tm', n, σ'.H, σ'.nx⟩) :
    Trip Try.prog W0 (subC [1, 1, 1, 1, 1, 1, 0, 1, 2, 2, 1, 0, 2, 1, 2, 2, 1, 0, 2, 1, 1, 1, 1, 0, 1] (bodyMk Try.f4)) ⟨tm, n, σ.H, σ.nx⟩ Q := by
  have hn1 := hmod.n.1
  have hfl : m.ret.length = m.of.length := hmod.rl
  have hlen : (m.ret.getD Y.p []).length ≤ 20 ∧ (0 < (m.ret.getD Y.p []).length → m.of.getD Y.p 0 ≠ 0) := by
    by_cases hz : m.of.getD Y.p 0 = 0
    · rw [hmod.ret0 _ hp hz]; simp
    · have := (hmod.ret1 _ hp hz).1; have := hmod.cl
      exact ⟨by omega, fun _ => hz⟩
  obtain ⟨hlen, hnz⟩ := hlen
  refine Trip.block ?_
  refine Trip.inv (fun (i : Nat) st => ∃ tm σ v l k1, st = ⟨tm, n, σ.H, σ.nx⟩ ∧ TW m Y tm ∧ tm 10 = .int .i64 ((k1 : Nat) : Int) ∧ k1 ≤ k0 + 60 * i ∧ tm 13 = v13 ∧ tm 14 = v14 ∧ tm 15 = v ∧ tm 18 = .int .i64 i ∧ i ≤ (m.ret.getD Y.p []).length ∧ TwS σ0 σ m Y I W R V ∧ RowI (.inn1 s) σ v13 l13 ∧ RowI (.low1 s) σ v14 l14 ∧ Row2 (.ret2 s) (.ret1 s) σ v l ∧ OverL m.of.length l (m.ret.getD Y.p []) i) (fun i => (m.ret.getD Y.p []).length - i) 0 ?_ ?_
  · exact ⟨tm, σ, _, [], k0, rfl, ht, h10, by omega, h13, h14, h15, h18, by omega, h, hr13, hr14, OwnLC.nil, OverL.zero⟩
  clear h ht h10 h13 h14 h15 h18 hr13 hr14
  rintro i st ⟨tm, σ, v, l, k1, rfl, ht, t10, hk1, t13, t14, t15, t18, hi, h, hr13, hr14, hr15, hov⟩
  obtain ⟨t2, t7, t8, t9, t11, t12⟩ := ht
  obtain ⟨hb, hG⟩ := hFA h.old.ext
  obtain ⟨qa, qc, qv⟩ := hG.ret.slice
  have hI2 := hG.ret
  have g7 := hb.c7
  rw [qv] at hI2 g7
  obtain ⟨pI, rfl, cI⟩ := L3At.addr hI2 (by omega)
  obtain ⟨rb, rk, cr, rr⟩ := cI Y.p (by omega)
  have hpr : Y.p < m.ret.length := by omega
  clear hb hG qv hI2 cI rr
  repeat (first | (refine OpsL.q (by first | exact omv | exact ofa | exact old | exact oixa | exact olen | exact olss) ?_) | (refine Trip.seq ?_) | (refine Trip.ops ?_) | (refine Trip.block ?_) | (refine Trip.itA (fun _ => ?_) (fun _ => ?_)) | (refine Trip.skip ?_; (change Trip _ _ _ _ _)) | (refine OpsL.nil ?_; (change Trip _ _ _ _ _)))
  · have hlt : i < (m.ret.getD Y.p []).length := by omega
    repeat fail
    (first | (refine OpsL.q (by exact oasg) ?_))
    refine OpsL.nil ?_
    (change Trip _ _ _ _ _)
    refine Trip.seq (Trip.seq ?_)
    refine Trip.ops ?_
    (first | (refine OpsL.q (by exact oasg) ?_))
    refine OpsL.nil ?_
    (change Trip _ _ _ _ _)
    refine Trip.mono (twR (j := i) (l15 := l) W0 hmod hn0 hn30 hFA hp hI hW hR (hnz (by omega)) hlt (show k1 ≤ 900000 by omega) ⟨by simp [tmPut, *], by simp [tmPut, *], by simp [tmPut, *], by simp [tmPut, *], by simp [tmPut, *], by simp [tmPut, *]⟩ (by simp [tmPut, *]) (by simp [tmPut, *]) (by simp [tmPut, *]) hr13 hr14 (by simp [tmPut, *]) (by simp [tmPut, *]) (by simp [tmPut, *]) (by simp [tmPut, *]) h hr15 hov.1 (Q := fun e st => e = .normal ∧ ∃ tm' σ' v' l', st = ⟨tm', n, σ'.H, σ'.nx⟩ ∧ TW m Y tm' ∧ tm' 10 = .int .i64 ((k1 + 2 * m.of.length : Nat) : Int) ∧ tm' 13 = v13 ∧ tm' 14 = v14 ∧ TwS σ0 σ' m Y I W R V ∧ RowI (.inn1 s) σ' v13 l13 ∧ RowI (.low1 s) σ' v14 l14 ∧ tm' 15 = v ∧ tm' 18 = .int .i64 i ∧ tm' 19 = v' ∧ Row2 (.ret2 s) (.ret1 s) σ' v l ∧ RowI (.ret2 s i) σ' v' l' ∧ OverC m.of.length l' ((m.ret.getD Y.p []).getD i [])) ?_) ?_
    · intro tm' σ' v' l' a1 a2 a3 a4 a5 a6 a7 a8 a9 a10 a11 a12 a13
      exact ⟨rfl, tm', σ', v', l', rfl, a1, a2, a3, a4, a5, a6, a7, a8, a9, a10, a11, a12, a13⟩
    clear t2 t7 t8 t9 t10 t11 t12 t13 t14 t15 t18 h hr13 hr14 hr15 g7 cr
    rintro e st ⟨rfl, tm, σ, vr, lr, rfl, ⟨t2, t7, t8, t9, t11, t12⟩, t10, t13, t14, h, hr13, hr14, t15, t18, t19, hr15, hr, hoc⟩
    (change Trip _ _ _ _ _)
    obtain ⟨ra, rk, hrv⟩ := OwnC.slice encN_len hr
    rw [hrv] at hr t19
    obtain ⟨vs, hvs, hall⟩ := hr15
    have hvl : vs.length = i := by have := hall.1; have := hov.1; omega
    repeat (first | (refine OpsL.q (by exact omv) ?_) | (refine Trip.ops ?_))
    refine OpsL.litC (σ := σ) (enc := encS) (z := (ra, lr.length, rk)) (el := 22) rfl (by (first | (simp only [ASt.ev, tmPut, ↓reduceIte, Nat.reduceEqDiff, *]; rfl))) (by kernel_rfl) (by subst_vars; decide) ?_
    intro σ2 x2 hu
    refine OpsL.appC (bytes := 24) (z := [.slice none 0 0]) encS_len encS_one (OwnC.keep x2 (by simp) hvs) hu (by exact rfl) (by exact rfl) (by exact rfl) (by exact rfl) (by exact rfl) rfl (by simp; omega) (by omega) (by (first | (simp only [ASt.ev, tmPut, ↓reduceIte, Nat.reduceEqDiff, *]; done))) (by (first | (simp only [ASt.ev, tmPut, ↓reduceIte, Nat.reduceEqDiff, *]; done))) (by subst_vars; decide) ?_
    intro v3 σ3 hvs3 x3
    have x23 : Chg [.ret1 s] σ σ3 := (x2.mono (by simp)).trans x3
    replace h := h.loc hI hW hR x23 (by simp [locT])
    replace hr13 := RowI.keepL x23 (by simp) hr13
    replace hr14 := RowI.keepL x23 (by simp) hr14
    have hall3 : AllC (fun jj => RowI (.ret2 s jj)) σ3 (vs ++ [(ra, lr.length, rk)]) (l ++ [lr]) :=
      AllC.push (hall.keep fun jj _ _ _ hr => RowI.keepL x23 (by simp) hr) (by rw [hov.1]; exact RowI.keepL x23 (by simp) hr)
    have hret3 : Row2 (.ret2 s) (.ret1 s) σ3 v3 (l ++ [lr]) := ⟨_, hvs3, hall3⟩
    have hov3 := hov.snoc hoc
    clear hov hall hall3 hvs hvs3 hu x2 x3 x23 hoc hr
    repeat (first | (refine OpsL.q (by first | exact omv | exact oasg) ?_) | (refine Trip.ops ?_) | (refine OpsL.nil ?_; ((repeat (refine blockExit_normal ?_)); change Trip _ _ _ _ _)))
    repeat (first | (refine OpsL.q (by first | exact oadd | exact oasg) ?_) | (refine OpsL.nil ?_; (dsimp only)))
    exact ⟨i + 1, ⟨_, σ3, v3, _, k1 + 2 * m.of.length, rfl, ⟨by simp [tmPut, *], by simp [tmPut, *], by simp [tmPut, *], by simp [tmPut, *], by simp [tmPut, *], by simp [tmPut, *]⟩, by simp [tmPut, *], by omega, by simp [tmPut, *], by simp [tmPut, *], by simp [tmPut, *], by simp [tmPut, *], by omega, h, hr13, hr14, hret3, hov3⟩, by omega⟩
  · have hie : i = (m.ret.getD Y.p []).length := by omega
    rw [hie] at hov
    repeat (first | (refine Trip.exit ?_; ((repeat (refine blockExit_eq ?_)); dsimp only)))
    exact hQ _ σ v l k1 ⟨by simp [tmPut, *], by simp [tmPut, *], by simp [tmPut, *], by simp [tmPut, *], by simp [tmPut, *], by simp [tmPut, *]⟩ (by simp [tmPut, *]) (by omega) (by simp [tmPut, *]) (by simp [tmPut, *]) h hr13 hr14 (by simp [tmPut, *]) hr15 hov
end Go.Proofs.Ytjgbcpagfghfnaa
