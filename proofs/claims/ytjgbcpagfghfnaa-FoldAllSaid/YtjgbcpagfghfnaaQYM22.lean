import Derived.Test.YtjgbcpagfghfnaaQYM21
import Derived.Test.YtjgbcpagfghfnaaQYM15
set_option linter.unusedVariables false
set_option linter.unusedSimpArgs false
set_option linter.unnecessarySimpa false
namespace Go.Proofs.Ytjgbcpagfghfnaa
open Go.Am Go.RowKit
attribute [local irreducible] aop OpsL Trip zt z1X z1E OpsR OpsQ
set_option maxRecDepth 20000 in
set_option maxHeartbeats 16000000 in
theorem mkR (W0 : World) {σ0 σ : CH} {X : MkX} {q : MkP} {D : MkD} {V : MoV} {tm : Nat → Value} {n : Nat} {p : Nat} {o : List Int} {vin vlow : Value} {lin llow : List Int} {j c4 : Nat} {vret : Value} {lret : List (List Int)} (hq : q.ok) (hn0 : n = 220) (ht : T1 tm X q) (h13 : tm 13 = .int .i64 p) (h15 : tm 15 = vin) (h16 : tm 16 = vlow) (hlen1 : D.I.length = p) (hlen2 : D.W.length = p) (hlen : D.R.length = p) (hL : D.L = o) (hol : o.length = q.n) (hT : D.T = (List.range q.k).map fun (c : Nat) => z2i o (c : Int)) (hok2 : ∀ x, x < q.n → 0 ≤ o.getD x 0 ∧ o.getD x 0 < q.k) (hne : ∀ c : Int, 0 ≤ c → c < q.k → z2i o c ≠ []) (hin : RowI (.inn1 p) σ vin lin) (hlow : RowI (.low1 p) σ vlow llow) (h : MkS σ0 σ X D V) (h17 : tm 17 = vret) (h20 : tm 20 = .int .i64 j) (h21 : tm 21 = .slice none 0 0) (h22 : tm 22 = .int .i64 0) (hj : lret.length = j) (hret : Row2 (.ret2 p) (.ret1 p) σ vret lret) (hc4 : D.cnt = c4) (hb4 : c4 ≤ 1000) {Q : AExit → ASt → Prop}
  (hQ : ∀ tm' σ' v', T1 tm' X q → tm' 13 = .int .i64 p → tm' 15 = vin → tm' 16 = vlow → tm' 17 = vret → tm' 20 = .int .i64 j → tm' 21 = v' → MkS σ0 σ' X { D with cnt := c4 + q.n } V → RowI (.inn1 p) σ' vin lin → RowI (.low1 p) σ' vlow llow → Row2 (.ret2 p) (.ret1 p) σ' vret lret → RowI (.ret2 p j) σ' v' (z0t X.ns (fun x => z2i o (o.getD x 0)) c4 q.n) → Q .normal ⟨tm', n, σ'.H, σ'.nx⟩) : Trip Try.prog W0 (z3t [1, 1, 1, 1, 1, 1, 1, 1, 1, 0, 1, 2, 2, 1, 0, 2, 1, 1, 1, 1, 1, 0, 1, 2, 2, 1, 0, 2, 1, 0, 1] (z0B Try.f7)) ⟨tm, n, σ.H, σ.nx⟩ Q := by
 obtain ⟨z1, z2, z3, z4, z5, z6⟩ := hq;refine Trip.block ?_;refine zG (fun (i : Nat) s => ∃ tm σ v, s = ⟨tm, n, σ.H, σ.nx⟩ ∧ T1 tm X q ∧ tm 13 = .int .i64 p ∧ tm 15 = vin ∧ tm 16 = vlow ∧ tm 17 = vret ∧ tm 20 = .int .i64 j ∧ tm 21 = v ∧ tm 22 = .int .i64 i ∧ i ≤ q.n ∧ MkS σ0 σ X { D with cnt := c4 + i } V ∧ RowI (.inn1 p) σ vin lin ∧ RowI (.low1 p) σ vlow llow ∧ Row2 (.ret2 p) (.ret1 p) σ vret lret ∧ RowI (.ret2 p j) σ v (z0t X.ns (fun x => z2i o (o.getD x 0)) c4 i)) (fun i => q.n - i) 0 ?_ ?_
 ·exact ⟨tm, σ, _, rfl, ht, h13, h15, h16, h17, h20, h21, h22, by omega, by rw [Nat.add_zero, ← hc4]; exact h, hin, hlow, hret, OwnC.nil⟩
 clear h ht h13 h15 h16 h17 h20 h21 h22 hin hlow hret hc4;rintro i s ⟨tm, σ, v, rfl, ⟨t4, t5, t6, t7, t8, t9⟩, t13, t15, t16, t17, t20, t21, t22, hi, h, hin, hlow, hret, hre⟩
 repeat (first | (refine zc (by first | exact omv | exact z24) ?_) | (refine Trip.seq ?_) | (refine zd ?_) | (refine Trip.block ?_) | (refine zJ (fun _ => ?_) (fun _ => ?_)) | (refine Trip.skip ?_; (change Trip _ _ _ _ _)) | (refine OpsL.nil ?_; (change Trip _ _ _ _ _)))
 ·have hlt : i < q.n := by omega
  obtain ⟨bo, hvo, hbo⟩ := h.of.block;replace hvo : V.o = .slice (some ⟨bo, 0, none⟩) D.L.length D.L.length := hvo;rw [hL, hol] at hvo;obtain ⟨c, hc⟩ : ∃ c, o.getD i 0 = c := ⟨_, rfl⟩;obtain ⟨R, hR⟩ : ∃ r, z2i o c = r := ⟨_, rfl⟩;obtain ⟨hc0, hc1⟩ := hok2 i hlt;have hne1 := hne _ hc0 hc1;rw [hc] at hc0 hc1 hne1;rw [hR] at hne1;have hRl : 0 < R.length := List.length_pos_iff.2 hne1;have hRl2 : R.length ≤ 100 := by have := z6g o c; rw [hR] at this; omega
  have hg := z4R X.ns (c4 + i + 1) (m := (R.length : Int)) (by omega);have g2 : zf σ.H ⟨X.A, 2, none⟩ V.o := h.a.cell rfl;rw [hvo] at g2
  have g3 : zf σ.H ⟨bo, 0 + i * 1, none⟩ (.int .i64 c) := by
   rw [Nat.zero_add, Nat.mul_one];refine hbo.cell ?_;show (D.L.map (Value.int .i64 ·))[i]? = _;rw [hL, List.getElem?_map, List.getElem?_eq_getElem (by omega), ← hc, List.getD_eq_getElem?_getD, List.getElem?_eq_getElem (by omega)];rfl
  obtain ⟨vs, bt, ta, tk, htv, hbt, hall, hvc, hrow⟩ := h.tb.row (c := c.toNat) (by show c.toNat < D.T.length; rw [hT]; simp; omega);have hTl : D.T.length = q.k := by rw [hT]; simp
  replace htv : X.tv = .slice (some ⟨bt, 0, none⟩) D.T.length D.T.length := htv;have hTc : D.T.getD c.toNat [] = R := by rw [hT, z0x (by omega), Int.toNat_of_nonneg hc0, hR]
  replace hvc : vs[c.toNat]? = some (ta, (D.T.getD c.toNat []).length, tk) := hvc;replace hrow : RowI (.tab c.toNat) σ (.slice ta (D.T.getD c.toNat []).length tk) (D.T.getD c.toNat []) := hrow;rw [hTc] at hvc hrow;rw [hTl] at htv;rw [htv] at t9
  have g4 : zf σ.H ⟨bt, 0 + c.toNat * 1, none⟩ (.slice ta R.length tk) := by
   rw [Nat.zero_add, Nat.mul_one];exact hbt.cell (by rw [List.getElem?_map, hvc]; rfl)
  clear hall hvc hbt;have hdr : z0t X.ns (fun x => z2i o (o.getD x 0)) c4 (i + 1) = z0t X.ns (fun x => z2i o (o.getD x 0)) c4 i ++ [R.getD (z6f X.ns (c4 + i + 1) R.length).toNat 0] := by rw [z3b, hc, hR]
  clear hc hR hTc
  repeat (first | (refine zc (by first | exact omv | exact ofa | exact old | exact z1j | exact z09 | exact z1g) ?_) | (refine zd ?_) | (refine OpsL.nil ?_; (change Trip _ _ _ _ _)))
  refine OpsL.c2 (hf := z3k) (hc := (zfy W0 h.b h.n (by omega) (by omega) (by show c4 + i ≤ _; omega))) (h := ?_);rintro vg nx1 H1 ⟨rfl, τ, rfl, rfl, hx, hb⟩;replace h := h.next hx hb;have hrow1 := zm hx (by simp) hrow;replace hre := zm hx (by simp) hre;replace hin := zm hx (by simp) hin;replace hlow := zm hx (by simp) hlow;replace hret := ze hx (by simp) (fun jj hjj => by simp; try omega) hret;obtain ⟨pp, rfl, hcc⟩ := (OwnC.ints hrow1).atI hg.1 hg.2;refine zcc ?_;refine z0i (σ := τ) (enc := z1L) (z := R.getD (z6f X.ns (c4 + i + 1) R.length).toNat 0) (el := 3) rfl evd krf sdc ?_;intro σ2 x2 hu;replace h := h.loc x2 (by simp);replace hre := zm x2 (by simp) hre;replace hin := zm x2 (by simp) hin;replace hlow := zm x2 (by simp) hlow;replace hret := ze x2 (by simp) (fun jj hjj => by simp; try omega) hret;refine zT (bytes := 8) (z := [.int .i64 0]) zR z0I hre hu xrf xrf xrf xrf xrf rfl (by simp [z0U]; omega) (by omega) evd evd sdc ?_;intro v3 σ3 hre3 x3;replace h := h.loc x3 (by simp [zdv, hlen]);replace hin := zm x3 (by simp) hin;replace hlow := zm x3 (by simp) hlow;replace hret := ze x3 (by simp) (fun jj hjj => by simp; try omega) hret;rw [← hdr] at hre3;refine zfF ?_;refine zfo ?_;exact ⟨i + 1, ⟨_, σ3, v3, rfl, ⟨stp, stp, stp, stp, stp, stp⟩, stp, stp, stp, stp, stp, stp, stp, by omega, h, hin, hlow, hret, hre3⟩, by omega⟩
 ·repeat (first | (refine Trip.exit ?_; ((repeat (refine zD ?_)))))
  have hi2 : i = q.n := by omega
  subst hi2;exact hQ _ σ v ⟨stp, stp, stp, stp, stp, stp⟩ stp stp stp stp stp stp h hin hlow hret hre
set_option maxRecDepth 20000 in
set_option maxHeartbeats 16000000 in
theorem zh8 (W0 : World) {σ0 σ : CH} {X : MkX} {q : MkP} {D : MkD} {V : MoV} {tm : Nat → Value} {n : Nat} {p : Nat} {o : List Int} {vin vlow : Value} {lin llow : List Int} {c3 : Nat} {c : Int} (hq : q.ok) (hn0 : n = 220) (ht : T1 tm X q) (h13 : tm 13 = .int .i64 p) (h15 : tm 15 = vin) (h16 : tm 16 = vlow) (hlen1 : D.I.length = p) (hlen2 : D.W.length = p) (hlen : D.R.length = p) (hL : D.L = o) (hol : o.length = q.n) (hT : D.T = (List.range q.k).map fun (c : Nat) => z2i o (c : Int)) (hok2 : ∀ x, x < q.n → 0 ≤ o.getD x 0 ∧ o.getD x 0 < q.k) (hne : ∀ c : Int, 0 ≤ c → c < q.k → z2i o c ≠ []) (hin : RowI (.inn1 p) σ vin lin) (hlow : RowI (.low1 p) σ vlow llow) (h : MkS σ0 σ X D V) (hp : p < q.n) (hc : o.getD p 0 = c) (hcl : X.cl = q.cl) (h17 : tm 17 = .slice none 0 0) (h20 : tm 20 = .int .i64 0) (hc3 : D.cnt = c3) (hb3 : c3 ≤ 500) {Q : AExit → ASt → Prop}
  (hQ : ∀ tm' σ' v', T1 tm' X q → tm' 13 = .int .i64 p → tm' 15 = vin → tm' 16 = vlow → tm' 17 = v' → MkS σ0 σ' X { D with cnt := c3 + (if c = 0 then 0 else q.cl) * q.n } V → RowI (.inn1 p) σ' vin lin → RowI (.low1 p) σ' vlow llow → Row2 (.ret2 p) (.ret1 p) σ' v' ((List.range (if c = 0 then 0 else q.cl)).map (zbY X.ns q o c3)) → Q .normal ⟨tm', n, σ'.H, σ'.nx⟩) : Trip Try.prog W0 (z3t [1, 1, 1, 1, 1, 1, 1, 1, 1, 0, 1, 2, 2, 1, 0, 2, 1, 1, 1, 1, 1, 0, 1] (z0B Try.f7)) ⟨tm, n, σ.H, σ.nx⟩ Q := by
 obtain ⟨z1, z2, z3, z4, z5, z6⟩ := hq;have hq : q.ok := ⟨z1, z2, z3, z4, z5, z6⟩;obtain ⟨lim, hlim⟩ : ∃ m, (if c = 0 then 0 else q.cl) = m := ⟨_, rfl⟩;rw [hlim] at hQ;have hlim2 : lim ≤ q.cl := by rw [← hlim]; split <;> omega
 refine Trip.block ?_;refine zG (fun (i : Nat) s => ∃ tm' σ v, s = ⟨tm', n, σ.H, σ.nx⟩ ∧ T1 tm' X q ∧ tm' 13 = .int .i64 p ∧ tm' 15 = vin ∧ tm' 16 = vlow ∧ tm' 17 = v ∧ tm' 20 = .int .i64 i ∧ i ≤ lim ∧ MkS σ0 σ X { D with cnt := c3 + i * q.n } V ∧ RowI (.inn1 p) σ vin lin ∧ RowI (.low1 p) σ vlow llow ∧ Row2 (.ret2 p) (.ret1 p) σ v ((List.range i).map (zbY X.ns q o c3))) (fun i => lim - i) 0 ?_ ?_
 ·exact ⟨tm, σ, _, rfl, ht, h13, h15, h16, h17, h20, by omega, by rw [Nat.zero_mul, Nat.add_zero, ← hc3]; exact h, hin, hlow, OwnLC.nil⟩
 clear h ht h13 h15 h16 h17 h20 hin hlow hc3;rintro i s ⟨tm, σ, v, rfl, ⟨t4, t5, t6, t7, t8, t9⟩, t13, t15, t16, t17, t20, hi, h, hin, hlow, hret⟩;have g1 : zf σ.H ⟨X.A, 1, none⟩ (.int .i64 X.cl) := h.a.cell rfl;rw [hcl] at g1;have g2 : zf σ.H ⟨X.A, 2, none⟩ V.o := h.a.cell rfl;obtain ⟨bo, hvo, hbo⟩ := h.of.block;replace hvo : V.o = .slice (some ⟨bo, 0, none⟩) D.L.length D.L.length := hvo;rw [hL, hol] at hvo;rw [hvo] at g2
 have g3 : zf σ.H ⟨bo, 0 + p * 1, none⟩ (.int .i64 c) := by
  rw [Nat.zero_add, Nat.mul_one];refine hbo.cell ?_;show (D.L.map (Value.int .i64 ·))[p]? = _;rw [hL, List.getElem?_map, List.getElem?_eq_getElem (by omega), ← hc, List.getD_eq_getElem?_getD, List.getElem?_eq_getElem (by omega)];rfl
 have hc0 : 0 ≤ c := by have := (hok2 p hp).1; omega
 refine Trip.seq (Trip.seq ?_);refine Trip.mono (Q := fun e st => e = .normal ∧ ∃ tm', st = ⟨tm', n, σ.H, σ.nx⟩ ∧ T1 tm' X q ∧ tm' 13 = .int .i64 p ∧ tm' 15 = vin ∧ tm' 16 = vlow ∧ tm' 17 = v ∧ tm' 20 = .int .i64 i ∧ tm' 171 = .bool (decide (i < lim))) ?_ ?_
 ·repeat (first | (refine zc (by first | exact omv | exact ofa | exact old) ?_) | (refine zd ?_))
  by_cases hic : i < q.cl
  ·refine z0y ?_
   repeat (first | (refine zc (by first | exact omv | exact ofa | exact old | exact z1j) ?_) | (refine zB ?_))
   by_cases h0 : c = 0
   ·refine z4f ?_;rw [if_pos h0] at hlim;subst hlim;have hd : decide (i < 0) = false := rfl;clear h0;refine zdy ?_;exact ⟨rfl, _, rfl, ⟨stp, stp, stp, stp, stp, stp⟩, stp, stp, stp, stp, stp, stp⟩
   ·refine z4e ?_;rw [if_neg h0] at hlim;subst hlim;have hd : decide (i < q.cl) = true := decide_eq_true hic;clear h0;refine zdy ?_;exact ⟨rfl, _, rfl, ⟨stp, stp, stp, stp, stp, stp⟩, stp, stp, stp, stp, stp, stp⟩
  ·refine z0z ?_;have hd : decide (i < lim) = false := decide_eq_false (by omega)
   repeat (first | (refine zc (by first | exact omv | exact z3u) ?_) | (refine OpsL.nil ?_; (dsimp only)) | (refine z0e ?_))
   exact ⟨rfl, _, rfl, ⟨stp, stp, stp, stp, stp, stp⟩, stp, stp, stp, stp, stp, stp⟩
 clear t4 t5 t6 t7 t8 t9 t13 t15 t16 t17 t20 g1 g2 g3 hbo;rintro e st ⟨rfl, tm, rfl, ⟨t4, t5, t6, t7, t8, t9⟩, t13, t15, t16, t17, t20, t171⟩
 (change Trip _ _ _ _ _)
 by_cases hlt : i < lim
 ·rw [decide_eq_true hlt] at t171;refine z07 ?_
  have hin8 : i * q.n ≤ 16 := by
   have := Nat.mul_le_mul (show i ≤ 2 by omega) (show q.n ≤ 8 by omega);omega
  repeat (first | (refine Trip.seq ?_) | (refine zd ?_) | (refine Trip.block ?_) | (refine Trip.skip ?_; (change Trip _ _ _ _ _)))
  (first | (refine zc (by exact z09) ?_))
  refine z0n ?_
  (change Trip _ _ _ _ _)
  refine Trip.seq (Trip.seq ?_);refine zd ?_
  (first | (refine zc (by exact z09) ?_))
  refine z0n ?_
  (change Trip _ _ _ _ _)
  refine Trip.mono (mkR (X := X) (q := q) (D := { D with cnt := c3 + i * q.n }) (V := V) (c4 := c3 + i * q.n) (p := p) (j := i) (o := o) W0 hq hn0 (tm := _) ⟨stp, stp, stp, stp, stp, stp⟩ stp stp stp hlen1 hlen2 hlen hL hol hT hok2 hne hin hlow h stp stp stp stp (by simp) hret rfl (by omega) (Q := fun e st => e = .normal ∧ ∃ tm' σ' v', st = ⟨tm', n, σ'.H, σ'.nx⟩ ∧ T1 tm' X q ∧ tm' 13 = .int .i64 p ∧ tm' 15 = vin ∧ tm' 16 = vlow ∧ tm' 17 = v ∧ tm' 20 = .int .i64 i ∧ tm' 21 = v' ∧ MkS σ0 σ' X { D with cnt := c3 + i * q.n + q.n } V ∧ RowI (.inn1 p) σ' vin lin ∧ RowI (.low1 p) σ' vlow llow ∧ Row2 (.ret2 p) (.ret1 p) σ' v ((List.range i).map (zbY X.ns q o c3)) ∧ RowI (.ret2 p i) σ' v' (zbY X.ns q o c3 i)) ?_) ?_
  ·intro tm' σ' v' a1 a2 a3 a4 a5 a6 a7 a8 a9 a10 a11 a12;exact ⟨rfl, tm', σ', v', rfl, a1, a2, a3, a4, a5, a6, a7, a8, a9, a10, a11, a12⟩
  clear t4 t5 t6 t7 t8 t9 t13 t15 t16 t17 t20 t171 h hin hlow hret;rintro e st ⟨rfl, tm, σ, vr, rfl, ⟨t4, t5, t6, t7, t8, t9⟩, t13, t15, t16, t17, t20, t21, h, hin, hlow, hret, hr⟩
  (change Trip _ _ _ _ _)
  obtain ⟨ra, rk, hrv⟩ := OwnC.slice zR hr;rw [hrv] at hr t21;obtain ⟨vs, hvs, hall⟩ := hret;have hvl : vs.length = i := by have := hall.1; simpa using this
  refine zfl ?_;refine z0i (σ := σ) (enc := z8E) (z := (ra, (zbY X.ns q o c3 i).length, rk)) (el := 22) rfl evr krf sdc ?_;intro σ2 x2 hu;refine zT (bytes := 24) (z := [.slice none 0 0]) z0b z1n (OwnC.keep x2 (by simp) hvs) hu xrf xrf xrf xrf xrf rfl (by simp; omega) (by omega) evd evd sdc ?_;intro v3 σ3 hvs3 x3;have x23 : Chg [.ret1 p] σ σ3 := (x2.mono (by simp)).trans x3;replace h := h.loc x23 (by simp [zdv, hlen]);replace hin := zm x23 (by simp) hin;replace hlow := zm x23 (by simp) hlow
  have hall3 : AllC (fun jj => RowI (.ret2 p jj)) σ3 (vs ++ [(ra, (zbY X.ns q o c3 i).length, rk)]) ((List.range i).map (zbY X.ns q o c3) ++ [zbY X.ns q o c3 i]) :=
   AllC.push (hall.keep fun jj _ _ _ hr => zm x23 (by simp) hr) (by rw [List.length_map, List.length_range]; exact zm x23 (by simp) hr)
  have hret3 : Row2 (.ret2 p) (.ret1 p) σ3 v3 ((List.range (i + 1)).map (zbY X.ns q o c3)) := by
   rw [List.range_succ, List.map_append];exact ⟨_, hvs3, hall3⟩
  refine zfF ?_;refine zfo ?_;exact ⟨i + 1, ⟨_, σ3, v3, rfl, ⟨stp, stp, stp, stp, stp, stp⟩, stp, stp, stp, stp, stp, by omega, by rw [Nat.add_mul, Nat.one_mul, ← Nat.add_assoc]; exact h, hin, hlow, hret3⟩, by omega⟩
 ·rw [decide_eq_false hlt] at t171;refine z2r ?_;refine zeD ?_;have hi2 : i = lim := by omega
  subst hi2;exact hQ _ σ v ⟨stp, stp, stp, stp, stp, stp⟩ stp stp stp stp h hin hlow hret
end Go.Proofs.Ytjgbcpagfghfnaa
