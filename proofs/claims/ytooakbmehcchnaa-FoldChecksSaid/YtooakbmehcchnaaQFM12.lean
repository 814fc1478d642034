import Derived.Test.YtooakbmehcchnaaQFM11
set_option linter.unusedSimpArgs false
set_option linter.unusedVariables false
set_option maxRecDepth 100000
set_option maxHeartbeats 16000000
namespace Go.Am
open Go.RowKit
def d2 (ns : List Int) (q : MkP) (i : Nat) : MkD :=
  ⟨(l1F ns q.k q.n).1 + i, (l1F ns q.k q.n).2.1, drawRow ns (fun c => tabF (l1F ns q.k q.n).2.1 c) (l1F ns q.k q.n).1 i ++ List.replicate (q.k - i) 0, (List.range q.k).map fun (c : Nat) => tabF (l1F ns q.k q.n).2.1 (c : Int), (l1F ns q.k q.n).2.2, [], [], []⟩
theorem d1_d2 (ns : List Int) (q : MkP) : d1 ns q q.n = d2 ns q 0 := by simp [d1, d2, drawRow]
end Go.Am
namespace Go.Proofs.Ytooakbmehcchnaa
open Go.Am Go.RowKit
attribute [local irreducible] aop OpsL Trip blockExit OpsD OpsK OpsR OpsQ
theorem mkL2 (W0 : World) {σ0 σ : CH} {X : MkX} {q : MkP} {V : MoV} {tm : Nat → Value} {n : Nat} (hq : q.ok) (hn0 : n = 220) (ht : T1 tm X q) (h12 : tm 12 = .int .i64 0) (h : MkS σ0 σ X (d2 X.ns q 0) V) {Q : AExit → ASt → Prop}
    (hQ : ∀ tm' σ' V', T1 tm' X q → MkS σ0 σ' X (d2 X.ns q q.k) V' → Q .normal ⟨tm', n, σ'.H, σ'.nx⟩) : Trip Try.prog W0 (subC [1, 1, 1, 1, 1, 1, 1, 1, 0, 1] (bodyMk Try.f21)) ⟨tm, n, σ.H, σ.nx⟩ Q := by
  obtain ⟨z1, z2, z3, z4, z5, z6⟩ := hq
  refine Trip.block ?_
  refine Trip.inv (fun (i : Nat) s => ∃ tm σ V, s = ⟨tm, n, σ.H, σ.nx⟩ ∧ T1 tm X q ∧ tm 12 = .int .i64 i ∧ i ≤ q.k ∧ MkS σ0 σ X (d2 X.ns q i) V) (fun i => q.k - i) 0 ?_ ?_
  · exact ⟨tm, σ, V, rfl, ht, h12, by omega, h⟩
  clear h ht h12
  rintro i s ⟨tm, σ, V, rfl, ⟨t4, t5, t6, t7, t8, t9⟩, t12, hi, h⟩
  obtain ⟨hl1, hl2, hl3⟩ := l1F_len X.ns q.k q.n
  have hne : ∀ c : Int, 0 ≤ c → c < q.k → tabF (l1F X.ns q.k q.n).2.1 c ≠ [] := fun c h0 h1 => makeQ_tab (ns := X.ns) ⟨z1, z2, z3, z4, z5, z6⟩ c h0 h1
  repeat (first | (refine OpsL.q (by first | exact omv | exact olss) ?_) | (refine Trip.seq ?_) | (refine Trip.ops ?_) | (refine Trip.block ?_) | (refine Trip.itA (fun _ => ?_) (fun _ => ?_)) | (refine Trip.skip ?_; (change Trip _ _ _ _ _)) | (refine OpsL.nil ?_; (change Trip _ _ _ _ _)))
  · have hlt : i < q.k := by omega
    have hne := hne i (by omega) (by omega)
    obtain ⟨o, ho⟩ : ∃ o, (l1F X.ns q.k q.n).2.1 = o := ⟨_, rfl⟩
    obtain ⟨cnt, hcnt⟩ : ∃ c, (l1F X.ns q.k q.n).1 = c := ⟨_, rfl⟩
    obtain ⟨f, hf⟩ : ∃ c, (l1F X.ns q.k q.n).2.2 = c := ⟨_, rfl⟩
    obtain ⟨E, hE⟩ : ∃ c, drawRow X.ns (fun c => tabF o c) cnt i = c := ⟨_, rfl⟩
    have hEl : E.length = i := by rw [← hE]; exact drawRow_len _ _ _ _
    obtain ⟨R, hR⟩ : ∃ r, tabF o (i : Int) = r := ⟨_, rfl⟩
    have hd : d2 X.ns q i = ⟨cnt + i, o, E ++ List.replicate (q.k - i) 0, (List.range q.k).map fun (c : Nat) => tabF o (c : Int), f, [], [], []⟩ := by rw [← hE, ← ho, ← hcnt, ← hf]; rfl
    have hd' : d2 X.ns q (i + 1) = ⟨cnt + i + 1, o, (E ++ [R.getD (getF X.ns (cnt + i + 1) R.length).toNat 0]) ++ List.replicate (q.k - (i + 1)) 0, (List.range q.k).map fun (c' : Nat) => tabF o (c' : Int), f, [], [], []⟩ := by
      rw [← hR, ← hE, ← ho, ← hcnt, ← hf]
      unfold d2
      rw [drawRow_succ]
      rfl
    rw [ho, hR] at hne
    have hRl : 0 < R.length := List.length_pos_iff.2 hne
    have hRl2 : R.length ≤ 100 := by have := tabF_len o (i : Int); rw [hR] at this; rw [← ho] at this; omega
    have hg := getF_bd X.ns (cnt + i + 1) (m := (R.length : Int)) (by omega)
    have hcb : cnt ≤ 100 := by omega
    rw [hd] at h
    clear hf hcnt hl1 hl2 hl3 ho hE hd
    obtain ⟨vs, bt, ta, tk, htv, hbt, hall, hvc, hrow⟩ := h.tb.row (c := i) (by simp; omega)
    rw [map_range_getD hlt, hR] at hvc hrow
    have hTl : ((List.range q.k).map fun (c : Nat) => tabF o (c : Int)).length = q.k := by simp
    rw [hTl] at htv
    rw [htv] at t9
    obtain ⟨bo, hvo, hbo⟩ := h.en.block
    have hlen : (E ++ List.replicate (q.k - i) (0 : Int)).length = q.k := by rw [List.length_append, List.length_replicate]; omega
    have g3 : cellAt σ.H ⟨X.A, 3, none⟩ V.e := h.a.cell rfl
    rw [hlen] at hvo
    rw [hvo] at g3
    have g4 : cellAt σ.H ⟨bt, 0 + i * 1, none⟩ (.slice ta R.length tk) := by
      rw [Nat.zero_add, Nat.mul_one]
      exact hbt.cell (by rw [List.getElem?_map, hvc]; rfl)
    clear hall hvc hR
    repeat fail
    refine Trip.mono (Q := fun e st => e = .normal ∧ ∃ tm' σ' V', st = ⟨tm', n, σ'.H, σ'.nx⟩ ∧ T1 tm' X q ∧ tm' 12 = .int .i64 i ∧ MkS σ0 σ' X (d2 X.ns q (i + 1)) V') ?_ ?_
    · refine OpsQ.drawn [13, 17] (K := fun j nx H => j = 17 → cellAt H ⟨X.A, 3, none⟩ (.slice (some ⟨bo, 0, none⟩) q.k q.k) ∧ cellAt H ⟨bt, 0 + i * 1, none⟩ (.slice ta R.length tk)) mixed13 (by kernel_rfl) (by kernel_rfl) [0, 1, 2, 3, 4, 5, 6, 7, 8, 9, 10, 11, 12, 13, 14, 15, 16, 17] (by kernel_rfl) (fun _ _ _ => ⟨g3, g4⟩) ?_
      refine OpsQ.one rfl rfl rfl (by kernel_rfl) ?_
      repeat (first | (refine OpsL.q (by exact ofa) ?_) | (refine OpsL.nil ?_; (dsimp only)))
      refine OpsQ.sp 17 rfl (by kernel_rfl) (by subst_vars; decide) (fun _ => ⟨g3, g4⟩) (fun H2 nx2 hK => aop_load (by (first | (simp only [ASt.ev, tmPut, ↓reduceIte, Nat.reduceEqDiff, *]; rfl))) (by exact rfl) rfl (hK rfl).1) ?_
      refine OpsQ.one rfl rfl rfl (by kernel_rfl) ?_
      repeat (first | (refine OpsL.q (by exact omv) ?_) | (refine OpsL.nil ?_; (skip)))
      refine OpsQ.one rfl rfl rfl (by kernel_rfl) ?_
      repeat (first | (refine OpsL.q (by exact omv) ?_) | (refine OpsL.nil ?_; (skip)))
      refine OpsQ.one rfl rfl rfl (by kernel_rfl) ?_
      repeat (first | (refine OpsL.q (by exact omv) ?_) | (refine OpsL.nil ?_; (skip)))
      refine OpsQ.one rfl rfl rfl (by kernel_rfl) ?_
      repeat (first | (refine OpsL.q (by exact oixa) ?_) | (refine OpsL.nil ?_; (dsimp only)))
      refine OpsQ.sp 17 rfl (by kernel_rfl) (by subst_vars; decide) (fun _ => ⟨g3, g4⟩) (fun H2 nx2 hK => aop_load (by (first | (simp only [ASt.ev, tmPut, ↓reduceIte, Nat.reduceEqDiff, *]; rfl))) (by exact rfl) rfl (hK rfl).2) ?_
      refine OpsQ.one rfl rfl rfl (by kernel_rfl) ?_
      repeat (first | (refine OpsL.q (by exact omv) ?_) | (refine OpsL.nil ?_; (skip)))
      refine OpsQ.one rfl rfl rfl (by kernel_rfl) ?_
      repeat (first | (refine OpsL.q (by exact omv) ?_) | (refine OpsL.nil ?_; (skip)))
      refine OpsQ.one rfl rfl rfl (by kernel_rfl) ?_
      repeat (first | (refine OpsL.q (by exact omv) ?_) | (refine OpsL.nil ?_; (skip)))
      refine OpsQ.one rfl rfl rfl (by kernel_rfl) ?_
      repeat (first | (refine OpsL.q (by exact oixa) ?_) | (refine OpsL.nil ?_; (dsimp only)))
      refine OpsQ.one rfl rfl rfl (by kernel_rfl) ?_
      repeat (first | (refine OpsL.q (by exact old) ?_) | (refine OpsL.nil ?_; (skip)))
      refine OpsQ.one rfl rfl rfl (by kernel_rfl) ?_
      repeat (first | (refine OpsL.q (by exact olen) ?_) | (refine OpsL.nil ?_; (skip)))
      refine OpsQ.act (by kernel_rfl) (ActStep.walk rfl rfl ?_)
      refine OpsL.c2 (hf := entersGet) (hc := (getC W0 h.b h.n (by omega) (by omega) (by show cnt + i ≤ _; omega))) (h := ?_)
      rintro v nx1 H1 ⟨rfl, τ, rfl, rfl, hx, hb⟩
      have hx3 := h.a.keep hx (by simp)
      replace g3 : cellAt τ.H ⟨X.A, 3, none⟩ V.e := hx3.cell rfl
      rw [hvo] at g3
      have hbt1 := (hbt.keep hx (by simp)).2.2
      replace g4 : cellAt τ.H ⟨bt, 0 + i * 1, none⟩ (.slice ta R.length tk) := cell_same (hbt1.trans hbt.2.2.symm) g4
      replace h := h.next hx hb
      replace hrow := RowI.keepL hx (by simp) hrow
      replace hbo := hbo.keep hx (by simp)
      refine OpsL.nil ⟨fun _ _ _ => ⟨g3, g4⟩, ?_⟩
      obtain ⟨p, rfl, hc⟩ := (OwnC.ints hrow).atI hg.1 hg.2
      refine OpsQ.one rfl rfl rfl (by kernel_rfl) ?_
      repeat (first | (refine OpsL.q (by exact oixa) ?_) | (refine OpsL.nil ?_; (dsimp only)))
      refine OpsQ.one rfl rfl rfl (by kernel_rfl) ?_
      repeat (first | (refine OpsL.q (by exact old) ?_) | (refine OpsL.nil ?_; (skip)))
      refine OpsQ.one rfl rfl rfl (by kernel_rfl) ?_
      repeat (first | (refine OpsL.q (by exact oixa) ?_) | (refine OpsL.nil ?_; (dsimp only)))
      refine OpsQ.act (by kernel_rfl) (ActStep.walk rfl rfl ?_)
      refine OpsL.setC (k := i) (v := .int .i64 (R.getD (getF X.ns (cnt + i + 1) R.length).toNat 0)) (cs' := ((E ++ [R.getD (getF X.ns (cnt + i + 1) R.length).toNat 0]) ++ List.replicate (q.k - (i + 1)) 0).map (.int .i64 ·)) hbo (by rw [List.length_map, hlen]; exact hlt) (by rw [set_ints, set_snoc hEl hlt]) (by exact rfl) rfl rfl (by (first | (simp only [ASt.ev, tmPut, ↓reduceIte, Nat.reduceEqDiff, *]; rfl))) (by (first | (simp only [ASt.ev, tmPut, ↓reduceIte, Nat.reduceEqDiff, *]; done))) (by show Addr.mk _ (0 + (i : Int).toNat * 1) _ = _; simp) ?_
      rintro σ7 hbo7 x7 -
      have hlen2 : ((E ++ [R.getD (getF X.ns (cnt + i + 1) R.length).toNat 0]) ++ List.replicate (q.k - (i + 1)) (0 : Int)).length = q.k := by simp; omega
      replace h := h.setEn x7 ⟨bo, (by rw [hvo, List.length_map, hlen2]), hbo7⟩
      rw [hd']
      refine OpsL.nil ⟨fun k hk => by simp at hk, ?_⟩
      refine OpsQ.nil ?_
      exact ⟨rfl, _, σ7, _, rfl, ⟨by simp [tmPut, *], by simp [tmPut, *], by simp [tmPut, *], by simp [tmPut, *], by simp [tmPut, *], by simp [tmPut, *]⟩, by simp [tmPut, *], h⟩
    · clear t4 t5 t6 t7 t8 t9 t12 h
      rintro e st ⟨rfl, tm, σ, V, rfl, ⟨t4, t5, t6, t7, t8, t9⟩, t12, h⟩
      ((repeat (refine blockExit_normal ?_)); change Trip _ _ _ _ _)
      repeat (first | (refine OpsL.q (by first | exact omv | exact oadd | exact oasg) ?_) | (refine Trip.ops ?_) | (refine OpsL.nil ?_; (dsimp only)))
      exact ⟨i + 1, ⟨_, σ, V, rfl, ⟨by simp [tmPut, *], by simp [tmPut, *], by simp [tmPut, *], by simp [tmPut, *], by simp [tmPut, *], by simp [tmPut, *]⟩, by simp [tmPut, *], by omega, h⟩, by omega⟩
  · repeat (first | (refine Trip.exit ?_; ((repeat (refine blockExit_eq ?_)))))
    have hi2 : i = q.k := by omega
    subst hi2
    exact hQ _ σ V ⟨by simp [tmPut, *], by simp [tmPut, *], by simp [tmPut, *], by simp [tmPut, *], by simp [tmPut, *], by simp [tmPut, *]⟩ h
end Go.Proofs.Ytooakbmehcchnaa
namespace Go.Proofs.Ytooakbmehcchnaa
open Go.Am Go.RowKit
attribute [local irreducible] aop OpsL Trip blockExit OpsD OpsK OpsR OpsQ
theorem mkIn (W0 : World) {σ0 σ : CH} {X : MkX} {q : MkP} {D : MkD} {V : MoV} {tm : Nat → Value} {n : Nat} {p c3 : Nat} {c : Int} {R : List Int} {lv : Value} (hq : q.ok) (hn0 : n = 220) (hpl : X.pl = q.pl) (ht : T1 tm X q) (h13 : tm 13 = .int .i64 p) (h14 : tm 14 = lv) (h15 : tm 15 = .slice none 0 0) (h16 : tm 16 = .slice none 0 0) (h17 : tm 17 = .slice none 0 0) (h18 : tm 18 = .int .i64 0)
    (hlen : D.I.length = p) (hc3 : D.cnt = c3) (hb3 : c3 ≤ 1000) (hR : R ≠ []) (hRl : R.length ≤ 1000) (hrow : RowI (.tab c.toNat) σ lv R) (h : MkS σ0 σ X D V) {Q : AExit → ASt → Prop}
    (hQ : ∀ tm' σ' v', T1 tm' X q → tm' 13 = .int .i64 p → tm' 14 = lv → tm' 15 = v' → tm' 16 = .slice none 0 0 → tm' 17 = .slice none 0 0 → MkS σ0 σ' X { D with cnt := c3 + q.pl } V → RowI (.tab c.toNat) σ' lv R → RowI (.inn1 p) σ' v' (drawRow X.ns (fun _ => R) c3 q.pl) → Q .normal ⟨tm', n, σ'.H, σ'.nx⟩) : Trip Try.prog W0 (subC [1, 1, 1, 1, 1, 1, 1, 1, 1, 0, 1, 2, 2, 1, 0, 2, 1, 1, 1, 0, 1] (bodyMk Try.f21)) ⟨tm, n, σ.H, σ.nx⟩ Q := by
  obtain ⟨z1, z2, z3, z4, z5, z6⟩ := hq
  have hR0 : 0 < R.length := List.length_pos_iff.2 hR
  refine Trip.block ?_
  refine Trip.inv (fun (i : Nat) s => ∃ tm σ v, s = ⟨tm, n, σ.H, σ.nx⟩ ∧ T1 tm X q ∧ tm 13 = .int .i64 p ∧ tm 14 = lv ∧ tm 15 = v ∧ tm 16 = .slice none 0 0 ∧ tm 17 = .slice none 0 0 ∧ tm 18 = .int .i64 i ∧ i ≤ q.pl ∧ MkS σ0 σ X { D with cnt := c3 + i } V ∧ RowI (.tab c.toNat) σ lv R ∧ RowI (.inn1 p) σ v (drawRow X.ns (fun _ => R) c3 i)) (fun i => q.pl - i) 0 ?_ ?_
  · exact ⟨tm, σ, _, rfl, ht, h13, h14, h15, h16, h17, h18, by omega, by rw [Nat.add_zero, ← hc3]; exact h, hrow, OwnC.nil⟩
  clear h ht h13 h14 h15 h16 h17 h18 hrow hc3
  rintro i s ⟨tm, σ, v, rfl, ⟨t4, t5, t6, t7, t8, t9⟩, t13, t14, t15, t16, t17, t18, hi, h, hrow, hre⟩
  have g0 : cellAt σ.H ⟨X.A, 0, none⟩ (.int .i64 X.pl) := h.a.cell rfl
  rw [hpl] at g0
  repeat (first | (refine OpsL.q (by first | exact omv | exact olss | exact ofa | exact old) ?_) | (refine Trip.seq ?_) | (refine Trip.ops ?_) | (refine Trip.block ?_) | (refine Trip.itA (fun _ => ?_) (fun _ => ?_)) | (refine Trip.skip ?_; (change Trip _ _ _ _ _)) | (refine OpsL.nil ?_; (change Trip _ _ _ _ _)))
  · have hlt : i < q.pl := by omega
    have hg := getF_bd X.ns (c3 + i + 1) (m := (R.length : Int)) (by omega)
    obtain ⟨ra, rk, hrv⟩ := OwnC.slice encN_len hrow
    rw [hrv] at hrow t14
    repeat (first | (refine OpsL.q (by exact olen) ?_))
    refine OpsL.c2 (hf := entersGet) (hc := (getC W0 h.b h.n (by omega) (by omega) (by show c3 + i ≤ _; omega))) (h := ?_)
    rintro vg nx1 H1 ⟨rfl, τ, rfl, rfl, hx, hb⟩
    replace h := h.next hx hb
    have hrow1 := RowI.keepL hx (by simp) hrow
    replace hre := RowI.keepL hx (by simp) hre
    obtain ⟨pp, rfl, hcc⟩ := (OwnC.ints hrow1).atI hg.1 hg.2
    repeat (first | (refine OpsL.q (by first | exact oixa | exact old) ?_))
    refine OpsL.litC (σ := τ) (enc := encN) (z := R.getD (getF X.ns (c3 + i + 1) R.length).toNat 0) (el := 3) rfl (by (first | (simp only [ASt.ev, tmPut, ↓reduceIte, Nat.reduceEqDiff, *]; done))) (by kernel_rfl) (by subst_vars; decide) ?_
    intro σ2 x2 hu
    replace h := h.loc x2 (by simp)
    replace hre := RowI.keepL x2 (by simp) hre
    have hrow2 := RowI.keepL x2 (by simp) hrow1
    refine OpsL.appC (bytes := 8) (z := [.int .i64 0]) encN_len encN_one hre hu (by exact rfl) (by exact rfl) (by exact rfl) (by exact rfl) (by exact rfl) rfl (by simp [drawRow_len]; omega) (by omega) (by (first | (simp only [ASt.ev, tmPut, ↓reduceIte, Nat.reduceEqDiff, *]; done))) (by (first | (simp only [ASt.ev, tmPut, ↓reduceIte, Nat.reduceEqDiff, *]; done))) (by subst_vars; decide) ?_
    intro v3 σ3 hre3 x3
    replace h := h.loc x3 (by simp [locB, hlen])
    have hrow3 := RowI.keepL x3 (by simp) hrow2
    repeat (first | (refine OpsL.q (by first | exact omv | exact oasg) ?_) | (refine Trip.ops ?_) | (refine OpsL.nil ?_; ((repeat (refine blockExit_normal ?_)); change Trip _ _ _ _ _)))
    rw [← drawRow_succ X.ns (fun _ => R)] at hre3
    repeat (first | (refine OpsL.q (by first | exact oadd | exact oasg) ?_) | (refine OpsL.nil ?_; (dsimp only)))
    exact ⟨i + 1, ⟨_, σ3, v3, rfl, ⟨by simp [tmPut, *], by simp [tmPut, *], by simp [tmPut, *], by simp [tmPut, *], by simp [tmPut, *], by simp [tmPut, *]⟩, by simp [tmPut, *], by simp [tmPut, *], by simp [tmPut, *], by simp [tmPut, *], by simp [tmPut, *], by simp [tmPut, *], by omega, h, by rw [hrv]; exact hrow3, hre3⟩, by omega⟩
  · repeat (first | (refine Trip.exit ?_; ((repeat (refine blockExit_eq ?_)); dsimp only)))
    have hi2 : i = q.pl := by omega
    subst hi2
    exact hQ _ σ v ⟨by simp [tmPut, *], by simp [tmPut, *], by simp [tmPut, *], by simp [tmPut, *], by simp [tmPut, *], by simp [tmPut, *]⟩ (by simp [tmPut, *]) (by simp [tmPut, *]) (by simp [tmPut, *]) (by simp [tmPut, *]) (by simp [tmPut, *]) h hrow hre
theorem mkLow (W0 : World) {σ0 σ : CH} {X : MkX} {q : MkP} {D : MkD} {V : MoV} {tm : Nat → Value} {n : Nat} {p c3 : Nat} {c : Int} {R : List Int} {lv : Value} {vin : Value} {lin : List Int} (hq : q.ok) (hn0 : n = 220) (hcl : X.cl = q.cl) (ht : T1 tm X q) (h13 : tm 13 = .int .i64 p) (h14 : tm 14 = lv) (h15 : tm 15 = vin) (h16 : tm 16 = .slice none 0 0) (h17 : tm 17 = .slice none 0 0) (h19 : tm 19 = .int .i64 0)
    (hlen1 : D.I.length = p) (hlen : D.W.length = p) (hL : D.L.length = q.n) (hp : p < q.n) (hc : D.L.getD p 0 = c) (hc3 : D.cnt = c3) (hb3 : c3 ≤ 1000) (hR : R ≠ []) (hRl : R.length ≤ 1000) (hrow : RowI (.tab c.toNat) σ lv R) (hin : RowI (.inn1 p) σ vin lin) (h : MkS σ0 σ X D V) {Q : AExit → ASt → Prop}
    (hQ : ∀ tm' σ' v', T1 tm' X q → tm' 13 = .int .i64 p → tm' 14 = lv → tm' 15 = vin → tm' 16 = v' → tm' 17 = .slice none 0 0 → MkS σ0 σ' X { D with cnt := c3 + (if c = 0 then q.cl else 0) } V → RowI (.tab c.toNat) σ' lv R → RowI (.inn1 p) σ' vin lin → RowI (.low1 p) σ' v' (drawRow X.ns (fun _ => R) c3 (if c = 0 then q.cl else 0)) → Q .normal ⟨tm', n, σ'.H, σ'.nx⟩) : Trip Try.prog W0 (subC [1, 1, 1, 1, 1, 1, 1, 1, 1, 0, 1, 2, 2, 1, 0, 2, 1, 1, 1, 1, 0, 1] (bodyMk Try.f21)) ⟨tm, n, σ.H, σ.nx⟩ Q := by
  obtain ⟨z1, z2, z3, z4, z5, z6⟩ := hq
  have hR0 : 0 < R.length := List.length_pos_iff.2 hR
  obtain ⟨lim, hlim⟩ : ∃ m, (if c = 0 then q.cl else 0) = m := ⟨_, rfl⟩
  rw [hlim] at hQ
  have hlim2 : lim ≤ q.cl := by rw [← hlim]; split <;> omega
  refine Trip.block ?_
  refine Trip.inv (fun (i : Nat) s => ∃ tm σ v, s = ⟨tm, n, σ.H, σ.nx⟩ ∧ T1 tm X q ∧ tm 13 = .int .i64 p ∧ tm 14 = lv ∧ tm 15 = vin ∧ tm 16 = v ∧ tm 17 = .slice none 0 0 ∧ tm 19 = .int .i64 i ∧ i ≤ lim ∧ MkS σ0 σ X { D with cnt := c3 + i } V ∧ RowI (.tab c.toNat) σ lv R ∧ RowI (.inn1 p) σ vin lin ∧ RowI (.low1 p) σ v (drawRow X.ns (fun _ => R) c3 i)) (fun i => lim - i) 0 ?_ ?_
  · exact ⟨tm, σ, _, rfl, ht, h13, h14, h15, h16, h17, h19, by omega, by rw [Nat.add_zero, ← hc3]; exact h, hrow, hin, OwnC.nil⟩
  clear h ht h13 h14 h15 h16 h17 h19 hrow hc3 hin
  rintro i s ⟨tm, σ, v, rfl, ⟨t4, t5, t6, t7, t8, t9⟩, t13, t14, t15, t16, t17, t19, hi, h, hrow, hin, hre⟩
  have g1 : cellAt σ.H ⟨X.A, 1, none⟩ (.int .i64 X.cl) := h.a.cell rfl
  rw [hcl] at g1
  have g2 : cellAt σ.H ⟨X.A, 2, none⟩ V.o := h.a.cell rfl
  obtain ⟨bo, hvo, hbo⟩ := h.of.block
  replace hvo : V.o = .slice (some ⟨bo, 0, none⟩) D.L.length D.L.length := hvo
  rw [hvo] at g2
  have g3 : cellAt σ.H ⟨bo, 0 + p * 1, none⟩ (.int .i64 c) := by
    rw [Nat.zero_add, Nat.mul_one]
    refine hbo.cell ?_
    show (D.L.map (Value.int .i64 ·))[p]? = _
    rw [List.getElem?_map, List.getElem?_eq_getElem (by omega), ← hc, List.getD_eq_getElem?_getD, List.getElem?_eq_getElem (by omega)]
    rfl
  refine Trip.seq (Trip.seq ?_)
  refine Trip.mono (Q := fun e st => e = .normal ∧ ∃ tm', st = ⟨tm', n, σ.H, σ.nx⟩ ∧ T1 tm' X q ∧ tm' 13 = .int .i64 p ∧ tm' 14 = lv ∧ tm' 15 = vin ∧ tm' 16 = v ∧ tm' 17 = .slice none 0 0 ∧ tm' 19 = .int .i64 i ∧ tm' 147 = .bool (decide (i < lim))) ?_ ?_
  · repeat (first | (refine OpsL.q (by first | exact omv | exact ofa | exact old) ?_) | (refine Trip.ops ?_))
    by_cases hic : i < q.cl
    · refine OpsL.lssT ?_
      repeat (first | (refine OpsL.q (by first | exact omv | exact ofa | exact old | exact oixa) ?_) | (refine OpsL.ung ?_))
      by_cases h0 : c = 0
      · refine OpsL.eqlT ?_ (c := h0)
        rw [if_pos h0] at hlim
        subst hlim
        have hd : decide (i < q.cl) = true := decide_eq_true hic
        clear h0
        repeat (first | (refine OpsL.q (by exact opkT) ?_) | (refine OpsL.nil ?_; (dsimp only)))
        exact ⟨rfl, _, rfl, ⟨by simp [tmPut, *], by simp [tmPut, *], by simp [tmPut, *], by simp [tmPut, *], by simp [tmPut, *], by simp [tmPut, *]⟩, by simp [tmPut, *], by simp [tmPut, *], by simp [tmPut, *], by simp [tmPut, *], by simp [tmPut, *], by simp [tmPut, *], by simp [tmPut, *]⟩
      · refine OpsL.eqlF ?_ (c := h0)
        rw [if_neg h0] at hlim
        subst hlim
        have hd : decide (i < 0) = false := rfl
        clear h0
        repeat (first | (refine OpsL.q (by exact opkT) ?_) | (refine OpsL.nil ?_; (dsimp only)))
        exact ⟨rfl, _, rfl, ⟨by simp [tmPut, *], by simp [tmPut, *], by simp [tmPut, *], by simp [tmPut, *], by simp [tmPut, *], by simp [tmPut, *]⟩, by simp [tmPut, *], by simp [tmPut, *], by simp [tmPut, *], by simp [tmPut, *], by simp [tmPut, *], by simp [tmPut, *], by simp [tmPut, *]⟩
    · refine OpsL.lssF ?_
      have hd : decide (i < lim) = false := decide_eq_false (by omega)
      repeat (first | (refine OpsL.q (by first | exact omv | exact opkF) ?_) | (refine OpsL.nil ?_; (dsimp only)) | (refine OpsL.skp ?_))
      exact ⟨rfl, _, rfl, ⟨by simp [tmPut, *], by simp [tmPut, *], by simp [tmPut, *], by simp [tmPut, *], by simp [tmPut, *], by simp [tmPut, *]⟩, by simp [tmPut, *], by simp [tmPut, *], by simp [tmPut, *], by simp [tmPut, *], by simp [tmPut, *], by simp [tmPut, *], by simp [tmPut, *]⟩
  clear t4 t5 t6 t7 t8 t9 t13 t14 t15 t16 t17 t19
  rintro e st ⟨rfl, tm, rfl, ⟨t4, t5, t6, t7, t8, t9⟩, t13, t14, t15, t16, t17, t19, t147⟩
  (change Trip _ _ _ _ _)
  by_cases hlt : i < lim
  · rw [decide_eq_true hlt] at t147
    refine Trip.ifT ?_
    repeat (first | (refine OpsL.q (by exact omv) ?_) | (refine Trip.seq ?_) | (refine Trip.ops ?_) | (refine Trip.block ?_) | (refine Trip.skip ?_; (change Trip _ _ _ _ _)))
    have hg := getF_bd X.ns (c3 + i + 1) (m := (R.length : Int)) (by omega)
    obtain ⟨ra, rk, hrv⟩ := OwnC.slice encN_len hrow
    rw [hrv] at hrow t14
    repeat (first | (refine OpsL.q (by exact olen) ?_))
    refine OpsL.c2 (hf := entersGet) (hc := (getC W0 h.b h.n (by omega) (by omega) (by show c3 + i ≤ _; omega))) (h := ?_)
    rintro vg nx1 H1 ⟨rfl, τ, rfl, rfl, hx, hb⟩
    replace h := h.next hx hb
    replace hin := RowI.keepL hx (by simp) hin
    have hrow1 := RowI.keepL hx (by simp) hrow
    replace hre := RowI.keepL hx (by simp) hre
    obtain ⟨pp, rfl, hcc⟩ := (OwnC.ints hrow1).atI hg.1 hg.2
    repeat (first | (refine OpsL.q (by first | exact oixa | exact old) ?_))
    refine OpsL.litC (σ := τ) (enc := encN) (z := R.getD (getF X.ns (c3 + i + 1) R.length).toNat 0) (el := 3) rfl (by (first | (simp only [ASt.ev, tmPut, ↓reduceIte, Nat.reduceEqDiff, *]; done))) (by kernel_rfl) (by subst_vars; decide) ?_
    intro σ2 x2 hu
    replace h := h.loc x2 (by simp)
    replace hin := RowI.keepL x2 (by simp) hin
    replace hre := RowI.keepL x2 (by simp) hre
    have hrow2 := RowI.keepL x2 (by simp) hrow1
    refine OpsL.appC (bytes := 8) (z := [.int .i64 0]) encN_len encN_one hre hu (by exact rfl) (by exact rfl) (by exact rfl) (by exact rfl) (by exact rfl) rfl (by simp [drawRow_len]; omega) (by omega) (by (first | (simp only [ASt.ev, tmPut, ↓reduceIte, Nat.reduceEqDiff, *]; done))) (by (first | (simp only [ASt.ev, tmPut, ↓reduceIte, Nat.reduceEqDiff, *]; done))) (by subst_vars; decide) ?_
    intro v3 σ3 hre3 x3
    replace h := h.loc x3 (by simp [locB, hlen])
    replace hin := RowI.keepL x3 (by simp) hin
    have hrow3 := RowI.keepL x3 (by simp) hrow2
    repeat (first | (refine OpsL.q (by first | exact omv | exact oasg) ?_) | (refine Trip.ops ?_) | (refine OpsL.nil ?_; ((repeat (refine blockExit_normal ?_)); change Trip _ _ _ _ _)))
    rw [← drawRow_succ X.ns (fun _ => R)] at hre3
    repeat (first | (refine OpsL.q (by first | exact oadd | exact oasg) ?_) | (refine OpsL.nil ?_; (dsimp only)))
    exact ⟨i + 1, ⟨_, σ3, v3, rfl, ⟨by simp [tmPut, *], by simp [tmPut, *], by simp [tmPut, *], by simp [tmPut, *], by simp [tmPut, *], by simp [tmPut, *]⟩, by simp [tmPut, *], by simp [tmPut, *], by simp [tmPut, *], by simp [tmPut, *], by simp [tmPut, *], by simp [tmPut, *], by omega, h, by rw [hrv]; exact hrow3, hin, hre3⟩, by omega⟩
  · rw [decide_eq_false hlt] at t147
    refine Trip.ifF ?_
    repeat (first | (refine Trip.exit ?_; ((repeat (refine blockExit_eq ?_)))))
    have hi2 : i = lim := by omega
    subst hi2
    exact hQ _ σ v ⟨by simp [tmPut, *], by simp [tmPut, *], by simp [tmPut, *], by simp [tmPut, *], by simp [tmPut, *], by simp [tmPut, *]⟩ (by simp [tmPut, *]) (by simp [tmPut, *]) (by simp [tmPut, *]) (by simp [tmPut, *]) (by simp [tmPut, *]) h hrow hin hre
end Go.Proofs.Ytooakbmehcchnaa
namespace Go.Proofs.Ytooakbmehcchnaa
open Go.Am Go.RowKit
attribute [local irreducible] aop OpsL Trip blockExit OpsD OpsK OpsR OpsQ
theorem mkR (W0 : World) {σ0 σ : CH} {X : MkX} {q : MkP} {D : MkD} {V : MoV} {tm : Nat → Value} {n : Nat} {p : Nat} {o : List Int} {vin vlow : Value} {lin llow : List Int} {j c4 : Nat} {vret : Value} {lret : List (List Int)} (hq : q.ok) (hn0 : n = 220) (ht : T1 tm X q) (h13 : tm 13 = .int .i64 p) (h15 : tm 15 = vin) (h16 : tm 16 = vlow) (hlen1 : D.I.length = p) (hlen2 : D.W.length = p) (hlen : D.R.length = p) (hL : D.L = o) (hol : o.length = q.n) (hT : D.T = (List.range q.k).map fun (c : Nat) => tabF o (c : Int)) (hok2 : ∀ x, x < q.n → 0 ≤ o.getD x 0 ∧ o.getD x 0 < q.k) (hne : ∀ c : Int, 0 ≤ c → c < q.k → tabF o c ≠ []) (hin : RowI (.inn1 p) σ vin lin) (hlow : RowI (.low1 p) σ vlow llow) (h : MkS σ0 σ X D V) (h17 : tm 17 = vret) (h20 : tm 20 = .int .i64 j) (h21 : tm 21 = .slice none 0 0) (h22 : tm 22 = .int .i64 0) (hj : lret.length = j) (hret : Row2 (.ret2 p) (.ret1 p) σ vret lret) (hc4 : D.cnt = c4) (hb4 : c4 ≤ 1000) {Q : AExit → ASt → Prop}
    (hQ : ∀ tm' σ' v', T1 tm' X q → tm' 13 = .int .i64 p → tm' 15 = vin → tm' 16 = vlow → tm' 17 = vret → tm' 20 = .int .i64 j → tm' 21 = v' → MkS σ0 σ' X { D with cnt := c4 + q.n } V → RowI (.inn1 p) σ' vin lin → RowI (.low1 p) σ' vlow llow → Row2 (.ret2 p) (.ret1 p) σ' vret lret → RowI (.ret2 p j) σ' v' (drawRow X.ns (fun x => tabF o (o.getD x 0)) c4 q.n) → Q .normal ⟨tm', n, σ'.H, σ'.nx⟩) : Trip Try.prog W0 (subC [1, 1, 1, 1, 1, 1, 1, 1, 1, 0, 1, 2, 2, 1, 0, 2, 1, 1, 1, 1, 1, 0, 1, 2, 2, 1, 0, 2, 1, 0, 1] (bodyMk Try.f21)) ⟨tm, n, σ.H, σ.nx⟩ Q := by
  obtain ⟨z1, z2, z3, z4, z5, z6⟩ := hq
  refine Trip.block ?_
  refine Trip.inv (fun (i : Nat) s => ∃ tm σ v, s = ⟨tm, n, σ.H, σ.nx⟩ ∧ T1 tm X q ∧ tm 13 = .int .i64 p ∧ tm 15 = vin ∧ tm 16 = vlow ∧ tm 17 = vret ∧ tm 20 = .int .i64 j ∧ tm 21 = v ∧ tm 22 = .int .i64 i ∧ i ≤ q.n ∧ MkS σ0 σ X { D with cnt := c4 + i } V ∧ RowI (.inn1 p) σ vin lin ∧ RowI (.low1 p) σ vlow llow ∧ Row2 (.ret2 p) (.ret1 p) σ vret lret ∧ RowI (.ret2 p j) σ v (drawRow X.ns (fun x => tabF o (o.getD x 0)) c4 i)) (fun i => q.n - i) 0 ?_ ?_
  · exact ⟨tm, σ, _, rfl, ht, h13, h15, h16, h17, h20, h21, h22, by omega, by rw [Nat.add_zero, ← hc4]; exact h, hin, hlow, hret, OwnC.nil⟩
  clear h ht h13 h15 h16 h17 h20 h21 h22 hin hlow hret hc4
  rintro i s ⟨tm, σ, v, rfl, ⟨t4, t5, t6, t7, t8, t9⟩, t13, t15, t16, t17, t20, t21, t22, hi, h, hin, hlow, hret, hre⟩
  repeat (first | (refine OpsL.q (by first | exact omv | exact olss) ?_) | (refine Trip.seq ?_) | (refine Trip.ops ?_) | (refine Trip.block ?_) | (refine Trip.itA (fun _ => ?_) (fun _ => ?_)) | (refine Trip.skip ?_; (change Trip _ _ _ _ _)) | (refine OpsL.nil ?_; (change Trip _ _ _ _ _)))
  · have hlt : i < q.n := by omega
    obtain ⟨bo, hvo, hbo⟩ := h.of.block
    replace hvo : V.o = .slice (some ⟨bo, 0, none⟩) D.L.length D.L.length := hvo
    rw [hL, hol] at hvo
    obtain ⟨c, hc⟩ : ∃ c, o.getD i 0 = c := ⟨_, rfl⟩
    obtain ⟨R, hR⟩ : ∃ r, tabF o c = r := ⟨_, rfl⟩
    obtain ⟨hc0, hc1⟩ := hok2 i hlt
    have hne1 := hne _ hc0 hc1
    rw [hc] at hc0 hc1 hne1
    rw [hR] at hne1
    have hRl : 0 < R.length := List.length_pos_iff.2 hne1
    have hRl2 : R.length ≤ 100 := by have := tabF_len o c; rw [hR] at this; omega
    have hg := getF_bd X.ns (c4 + i + 1) (m := (R.length : Int)) (by omega)
    have g2 : cellAt σ.H ⟨X.A, 2, none⟩ V.o := h.a.cell rfl
    rw [hvo] at g2
    have g3 : cellAt σ.H ⟨bo, 0 + i * 1, none⟩ (.int .i64 c) := by
      rw [Nat.zero_add, Nat.mul_one]
      refine hbo.cell ?_
      show (D.L.map (Value.int .i64 ·))[i]? = _
      rw [hL, List.getElem?_map, List.getElem?_eq_getElem (by omega), ← hc, List.getD_eq_getElem?_getD, List.getElem?_eq_getElem (by omega)]
      rfl
    obtain ⟨vs, bt, ta, tk, htv, hbt, hall, hvc, hrow⟩ := h.tb.row (c := c.toNat) (by show c.toNat < D.T.length; rw [hT]; simp; omega)
    have hTl : D.T.length = q.k := by rw [hT]; simp
    replace htv : X.tv = .slice (some ⟨bt, 0, none⟩) D.T.length D.T.length := htv
    have hTc : D.T.getD c.toNat [] = R := by rw [hT, map_range_getD (by omega), Int.toNat_of_nonneg hc0, hR]
    replace hvc : vs[c.toNat]? = some (ta, (D.T.getD c.toNat []).length, tk) := hvc
    replace hrow : RowI (.tab c.toNat) σ (.slice ta (D.T.getD c.toNat []).length tk) (D.T.getD c.toNat []) := hrow
    rw [hTc] at hvc hrow
    rw [hTl] at htv
    rw [htv] at t9
    have g4 : cellAt σ.H ⟨bt, 0 + c.toNat * 1, none⟩ (.slice ta R.length tk) := by
      rw [Nat.zero_add, Nat.mul_one]
      exact hbt.cell (by rw [List.getElem?_map, hvc]; rfl)
    clear hall hvc hbt
    have hdr : drawRow X.ns (fun x => tabF o (o.getD x 0)) c4 (i + 1) = drawRow X.ns (fun x => tabF o (o.getD x 0)) c4 i ++ [R.getD (getF X.ns (c4 + i + 1) R.length).toNat 0] := by rw [drawRow_succ, hc, hR]
    clear hc hR hTc
    repeat (first | (refine OpsL.q (by first | exact omv | exact ofa | exact old | exact oixa | exact oasg | exact olen) ?_) | (refine Trip.ops ?_) | (refine OpsL.nil ?_; (change Trip _ _ _ _ _)))
    refine OpsL.c2 (hf := entersGet) (hc := (getC W0 h.b h.n (by omega) (by omega) (by show c4 + i ≤ _; omega))) (h := ?_)
    rintro vg nx1 H1 ⟨rfl, τ, rfl, rfl, hx, hb⟩
    replace h := h.next hx hb
    have hrow1 := RowI.keepL hx (by simp) hrow
    replace hre := RowI.keepL hx (by simp) hre
    replace hin := RowI.keepL hx (by simp) hin
    replace hlow := RowI.keepL hx (by simp) hlow
    replace hret := Row2.keepL hx (by simp) (fun jj hjj => by simp; try omega) hret
    obtain ⟨pp, rfl, hcc⟩ := (OwnC.ints hrow1).atI hg.1 hg.2
    repeat (first | (refine OpsL.q (by first | exact oixa | exact old) ?_))
    refine OpsL.litC (σ := τ) (enc := encN) (z := R.getD (getF X.ns (c4 + i + 1) R.length).toNat 0) (el := 3) rfl (by (first | (simp only [ASt.ev, tmPut, ↓reduceIte, Nat.reduceEqDiff, *]; done))) (by kernel_rfl) (by subst_vars; decide) ?_
    intro σ2 x2 hu
    replace h := h.loc x2 (by simp)
    replace hre := RowI.keepL x2 (by simp) hre
    replace hin := RowI.keepL x2 (by simp) hin
    replace hlow := RowI.keepL x2 (by simp) hlow
    replace hret := Row2.keepL x2 (by simp) (fun jj hjj => by simp; try omega) hret
    refine OpsL.appC (bytes := 8) (z := [.int .i64 0]) encN_len encN_one hre hu (by exact rfl) (by exact rfl) (by exact rfl) (by exact rfl) (by exact rfl) rfl (by simp [drawRow_len]; omega) (by omega) (by (first | (simp only [ASt.ev, tmPut, ↓reduceIte, Nat.reduceEqDiff, *]; done))) (by (first | (simp only [ASt.ev, tmPut, ↓reduceIte, Nat.reduceEqDiff, *]; done))) (by subst_vars; decide) ?_
    intro v3 σ3 hre3 x3
    replace h := h.loc x3 (by simp [locB, hlen])
    replace hin := RowI.keepL x3 (by simp) hin
    replace hlow := RowI.keepL x3 (by simp) hlow
    replace hret := Row2.keepL x3 (by simp) (fun jj hjj => by simp; try omega) hret
    rw [← hdr] at hre3
    repeat (first | (refine OpsL.q (by first | exact omv | exact oasg) ?_) | (refine Trip.ops ?_) | (refine OpsL.nil ?_; ((repeat (refine blockExit_normal ?_)); change Trip _ _ _ _ _)))
    repeat (first | (refine OpsL.q (by first | exact oadd | exact oasg) ?_) | (refine OpsL.nil ?_; (dsimp only)))
    exact ⟨i + 1, ⟨_, σ3, v3, rfl, ⟨by simp [tmPut, *], by simp [tmPut, *], by simp [tmPut, *], by simp [tmPut, *], by simp [tmPut, *], by simp [tmPut, *]⟩, by simp [tmPut, *], by simp [tmPut, *], by simp [tmPut, *], by simp [tmPut, *], by simp [tmPut, *], by simp [tmPut, *], by simp [tmPut, *], by omega, h, hin, hlow, hret, hre3⟩, by omega⟩
  · repeat (first | (refine Trip.exit ?_; ((repeat (refine blockExit_eq ?_)))))
    have hi2 : i = q.n := by omega
    subst hi2
    exact hQ _ σ v ⟨by simp [tmPut, *], by simp [tmPut, *], by simp [tmPut, *], by simp [tmPut, *], by simp [tmPut, *], by simp [tmPut, *]⟩ (by simp [tmPut, *]) (by simp [tmPut, *]) (by simp [tmPut, *]) (by simp [tmPut, *]) (by simp [tmPut, *]) (by simp [tmPut, *]) h hin hlow hret hre
theorem mkRet (W0 : World) {σ0 σ : CH} {X : MkX} {q : MkP} {D : MkD} {V : MoV} {tm : Nat → Value} {n : Nat} {p : Nat} {o : List Int} {vin vlow : Value} {lin llow : List Int} {c3 : Nat} {c : Int} (hq : q.ok) (hn0 : n = 220) (ht : T1 tm X q) (h13 : tm 13 = .int .i64 p) (h15 : tm 15 = vin) (h16 : tm 16 = vlow) (hlen1 : D.I.length = p) (hlen2 : D.W.length = p) (hlen : D.R.length = p) (hL : D.L = o) (hol : o.length = q.n) (hT : D.T = (List.range q.k).map fun (c : Nat) => tabF o (c : Int)) (hok2 : ∀ x, x < q.n → 0 ≤ o.getD x 0 ∧ o.getD x 0 < q.k) (hne : ∀ c : Int, 0 ≤ c → c < q.k → tabF o c ≠ []) (hin : RowI (.inn1 p) σ vin lin) (hlow : RowI (.low1 p) σ vlow llow) (h : MkS σ0 σ X D V) (hp : p < q.n) (hc : o.getD p 0 = c) (hcl : X.cl = q.cl) (h17 : tm 17 = .slice none 0 0) (h20 : tm 20 = .int .i64 0) (hc3 : D.cnt = c3) (hb3 : c3 ≤ 500) {Q : AExit → ASt → Prop}
    (hQ : ∀ tm' σ' v', T1 tm' X q → tm' 13 = .int .i64 p → tm' 15 = vin → tm' 16 = vlow → tm' 17 = v' → MkS σ0 σ' X { D with cnt := c3 + (if c = 0 then 0 else q.cl) * q.n } V → RowI (.inn1 p) σ' vin lin → RowI (.low1 p) σ' vlow llow → Row2 (.ret2 p) (.ret1 p) σ' v' ((List.range (if c = 0 then 0 else q.cl)).map (retR X.ns q o c3)) → Q .normal ⟨tm', n, σ'.H, σ'.nx⟩) : Trip Try.prog W0 (subC [1, 1, 1, 1, 1, 1, 1, 1, 1, 0, 1, 2, 2, 1, 0, 2, 1, 1, 1, 1, 1, 0, 1] (bodyMk Try.f21)) ⟨tm, n, σ.H, σ.nx⟩ Q := by
  obtain ⟨z1, z2, z3, z4, z5, z6⟩ := hq
  have hq : q.ok := ⟨z1, z2, z3, z4, z5, z6⟩
  obtain ⟨lim, hlim⟩ : ∃ m, (if c = 0 then 0 else q.cl) = m := ⟨_, rfl⟩
  rw [hlim] at hQ
  have hlim2 : lim ≤ q.cl := by rw [← hlim]; split <;> omega
  refine Trip.block ?_
  refine Trip.inv (fun (i : Nat) s => ∃ tm' σ v, s = ⟨tm', n, σ.H, σ.nx⟩ ∧ T1 tm' X q ∧ tm' 13 = .int .i64 p ∧ tm' 15 = vin ∧ tm' 16 = vlow ∧ tm' 17 = v ∧ tm' 20 = .int .i64 i ∧ i ≤ lim ∧ MkS σ0 σ X { D with cnt := c3 + i * q.n } V ∧ RowI (.inn1 p) σ vin lin ∧ RowI (.low1 p) σ vlow llow ∧ Row2 (.ret2 p) (.ret1 p) σ v ((List.range i).map (retR X.ns q o c3))) (fun i => lim - i) 0 ?_ ?_
  · exact ⟨tm, σ, _, rfl, ht, h13, h15, h16, h17, h20, by omega, by rw [Nat.zero_mul, Nat.add_zero, ← hc3]; exact h, hin, hlow, OwnLC.nil⟩
  clear h ht h13 h15 h16 h17 h20 hin hlow hc3
  rintro i s ⟨tm, σ, v, rfl, ⟨t4, t5, t6, t7, t8, t9⟩, t13, t15, t16, t17, t20, hi, h, hin, hlow, hret⟩
  have g1 : cellAt σ.H ⟨X.A, 1, none⟩ (.int .i64 X.cl) := h.a.cell rfl
  rw [hcl] at g1
  have g2 : cellAt σ.H ⟨X.A, 2, none⟩ V.o := h.a.cell rfl
  obtain ⟨bo, hvo, hbo⟩ := h.of.block
  replace hvo : V.o = .slice (some ⟨bo, 0, none⟩) D.L.length D.L.length := hvo
  rw [hL, hol] at hvo
  rw [hvo] at g2
  have g3 : cellAt σ.H ⟨bo, 0 + p * 1, none⟩ (.int .i64 c) := by
    rw [Nat.zero_add, Nat.mul_one]
    refine hbo.cell ?_
    show (D.L.map (Value.int .i64 ·))[p]? = _
    rw [hL, List.getElem?_map, List.getElem?_eq_getElem (by omega), ← hc, List.getD_eq_getElem?_getD, List.getElem?_eq_getElem (by omega)]
    rfl
  have hc0 : 0 ≤ c := by have := (hok2 p hp).1; omega
  refine Trip.seq (Trip.seq ?_)
  refine Trip.mono (Q := fun e st => e = .normal ∧ ∃ tm', st = ⟨tm', n, σ.H, σ.nx⟩ ∧ T1 tm' X q ∧ tm' 13 = .int .i64 p ∧ tm' 15 = vin ∧ tm' 16 = vlow ∧ tm' 17 = v ∧ tm' 20 = .int .i64 i ∧ tm' 171 = .bool (decide (i < lim))) ?_ ?_
  · repeat (first | (refine OpsL.q (by first | exact omv | exact ofa | exact old) ?_) | (refine Trip.ops ?_))
    by_cases hic : i < q.cl
    · refine OpsL.lssT ?_
      repeat (first | (refine OpsL.q (by first | exact omv | exact ofa | exact old | exact oixa) ?_) | (refine OpsL.ung ?_))
      by_cases h0 : c = 0
      · refine OpsL.gtrF ?_
        rw [if_pos h0] at hlim
        subst hlim
        have hd : decide (i < 0) = false := rfl
        clear h0
        repeat (first | (refine OpsL.q (by exact opkT) ?_) | (refine OpsL.nil ?_; (dsimp only)))
        exact ⟨rfl, _, rfl, ⟨by simp [tmPut, *], by simp [tmPut, *], by simp [tmPut, *], by simp [tmPut, *], by simp [tmPut, *], by simp [tmPut, *]⟩, by simp [tmPut, *], by simp [tmPut, *], by simp [tmPut, *], by simp [tmPut, *], by simp [tmPut, *], by simp [tmPut, *]⟩
      · refine OpsL.gtrT ?_
        rw [if_neg h0] at hlim
        subst hlim
        have hd : decide (i < q.cl) = true := decide_eq_true hic
        clear h0
        repeat (first | (refine OpsL.q (by exact opkT) ?_) | (refine OpsL.nil ?_; (dsimp only)))
        exact ⟨rfl, _, rfl, ⟨by simp [tmPut, *], by simp [tmPut, *], by simp [tmPut, *], by simp [tmPut, *], by simp [tmPut, *], by simp [tmPut, *]⟩, by simp [tmPut, *], by simp [tmPut, *], by simp [tmPut, *], by simp [tmPut, *], by simp [tmPut, *], by simp [tmPut, *]⟩
    · refine OpsL.lssF ?_
      have hd : decide (i < lim) = false := decide_eq_false (by omega)
      repeat (first | (refine OpsL.q (by first | exact omv | exact opkF) ?_) | (refine OpsL.nil ?_; (dsimp only)) | (refine OpsL.skp ?_))
      exact ⟨rfl, _, rfl, ⟨by simp [tmPut, *], by simp [tmPut, *], by simp [tmPut, *], by simp [tmPut, *], by simp [tmPut, *], by simp [tmPut, *]⟩, by simp [tmPut, *], by simp [tmPut, *], by simp [tmPut, *], by simp [tmPut, *], by simp [tmPut, *], by simp [tmPut, *]⟩
  clear t4 t5 t6 t7 t8 t9 t13 t15 t16 t17 t20 g1 g2 g3 hbo
  rintro e st ⟨rfl, tm, rfl, ⟨t4, t5, t6, t7, t8, t9⟩, t13, t15, t16, t17, t20, t171⟩
  (change Trip _ _ _ _ _)
  by_cases hlt : i < lim
  · rw [decide_eq_true hlt] at t171
    refine Trip.ifT ?_
    have hin8 : i * q.n ≤ 16 := by
      have := Nat.mul_le_mul (show i ≤ 2 by omega) (show q.n ≤ 8 by omega)
      omega
    repeat (first | (refine Trip.seq ?_) | (refine Trip.ops ?_) | (refine Trip.block ?_) | (refine Trip.skip ?_; (change Trip _ _ _ _ _)))
    (first | (refine OpsL.q (by exact oasg) ?_))
    refine OpsL.nil ?_
    (change Trip _ _ _ _ _)
    refine Trip.seq (Trip.seq ?_)
    refine Trip.ops ?_
    (first | (refine OpsL.q (by exact oasg) ?_))
    refine OpsL.nil ?_
    (change Trip _ _ _ _ _)
    refine Trip.mono (mkR (X := X) (q := q) (D := { D with cnt := c3 + i * q.n }) (V := V) (c4 := c3 + i * q.n) (p := p) (j := i) (o := o) W0 hq hn0 (tm := _) ⟨by simp [tmPut, *], by simp [tmPut, *], by simp [tmPut, *], by simp [tmPut, *], by simp [tmPut, *], by simp [tmPut, *]⟩ (by simp [tmPut, *]) (by simp [tmPut, *]) (by simp [tmPut, *]) hlen1 hlen2 hlen hL hol hT hok2 hne hin hlow h (by simp [tmPut, *]) (by simp [tmPut, *]) (by simp [tmPut, *]) (by simp [tmPut, *]) (by simp) hret rfl (by omega) (Q := fun e st => e = .normal ∧ ∃ tm' σ' v', st = ⟨tm', n, σ'.H, σ'.nx⟩ ∧ T1 tm' X q ∧ tm' 13 = .int .i64 p ∧ tm' 15 = vin ∧ tm' 16 = vlow ∧ tm' 17 = v ∧ tm' 20 = .int .i64 i ∧ tm' 21 = v' ∧ MkS σ0 σ' X { D with cnt := c3 + i * q.n + q.n } V ∧ RowI (.inn1 p) σ' vin lin ∧ RowI (.low1 p) σ' vlow llow ∧ Row2 (.ret2 p) (.ret1 p) σ' v ((List.range i).map (retR X.ns q o c3)) ∧ RowI (.ret2 p i) σ' v' (retR X.ns q o c3 i)) ?_) ?_
    · intro tm' σ' v' a1 a2 a3 a4 a5 a6 a7 a8 a9 a10 a11 a12
      exact ⟨rfl, tm', σ', v', rfl, a1, a2, a3, a4, a5, a6, a7, a8, a9, a10, a11, a12⟩
    clear t4 t5 t6 t7 t8 t9 t13 t15 t16 t17 t20 t171 h hin hlow hret
    rintro e st ⟨rfl, tm, σ, vr, rfl, ⟨t4, t5, t6, t7, t8, t9⟩, t13, t15, t16, t17, t20, t21, h, hin, hlow, hret, hr⟩
    (change Trip _ _ _ _ _)
    obtain ⟨ra, rk, hrv⟩ := OwnC.slice encN_len hr
    rw [hrv] at hr t21
    obtain ⟨vs, hvs, hall⟩ := hret
    have hvl : vs.length = i := by have := hall.1; simpa using this
    repeat (first | (refine OpsL.q (by exact omv) ?_) | (refine Trip.ops ?_))
    refine OpsL.litC (σ := σ) (enc := encS) (z := (ra, (retR X.ns q o c3 i).length, rk)) (el := 23) rfl (by (first | (simp only [ASt.ev, tmPut, ↓reduceIte, Nat.reduceEqDiff, *]; rfl))) (by kernel_rfl) (by subst_vars; decide) ?_
    intro σ2 x2 hu
    refine OpsL.appC (bytes := 24) (z := [.slice none 0 0]) encS_len encS_one (OwnC.keep x2 (by simp) hvs) hu (by exact rfl) (by exact rfl) (by exact rfl) (by exact rfl) (by exact rfl) rfl (by simp; omega) (by omega) (by (first | (simp only [ASt.ev, tmPut, ↓reduceIte, Nat.reduceEqDiff, *]; done))) (by (first | (simp only [ASt.ev, tmPut, ↓reduceIte, Nat.reduceEqDiff, *]; done))) (by subst_vars; decide) ?_
    intro v3 σ3 hvs3 x3
    have x23 : Chg [.ret1 p] σ σ3 := (x2.mono (by simp)).trans x3
    replace h := h.loc x23 (by simp [locB, hlen])
    replace hin := RowI.keepL x23 (by simp) hin
    replace hlow := RowI.keepL x23 (by simp) hlow
    have hall3 : AllC (fun jj => RowI (.ret2 p jj)) σ3 (vs ++ [(ra, (retR X.ns q o c3 i).length, rk)]) ((List.range i).map (retR X.ns q o c3) ++ [retR X.ns q o c3 i]) :=
      AllC.push (hall.keep fun jj _ _ _ hr => RowI.keepL x23 (by simp) hr) (by rw [List.length_map, List.length_range]; exact RowI.keepL x23 (by simp) hr)
    have hret3 : Row2 (.ret2 p) (.ret1 p) σ3 v3 ((List.range (i + 1)).map (retR X.ns q o c3)) := by
      rw [List.range_succ, List.map_append]
      exact ⟨_, hvs3, hall3⟩
    repeat (first | (refine OpsL.q (by first | exact omv | exact oasg) ?_) | (refine Trip.ops ?_) | (refine OpsL.nil ?_; ((repeat (refine blockExit_normal ?_)); change Trip _ _ _ _ _)))
    repeat (first | (refine OpsL.q (by first | exact oadd | exact oasg) ?_) | (refine OpsL.nil ?_; (dsimp only)))
    exact ⟨i + 1, ⟨_, σ3, v3, rfl, ⟨by simp [tmPut, *], by simp [tmPut, *], by simp [tmPut, *], by simp [tmPut, *], by simp [tmPut, *], by simp [tmPut, *]⟩, by simp [tmPut, *], by simp [tmPut, *], by simp [tmPut, *], by simp [tmPut, *], by simp [tmPut, *], by omega, by rw [Nat.add_mul, Nat.one_mul, ← Nat.add_assoc]; exact h, hin, hlow, hret3⟩, by omega⟩
  · rw [decide_eq_false hlt] at t171
    refine Trip.ifF ?_
    repeat (first | (refine Trip.exit ?_; ((repeat (refine blockExit_eq ?_)))))
    have hi2 : i = lim := by omega
    subst hi2
    exact hQ _ σ v ⟨by simp [tmPut, *], by simp [tmPut, *], by simp [tmPut, *], by simp [tmPut, *], by simp [tmPut, *], by simp [tmPut, *]⟩ (by simp [tmPut, *]) (by simp [tmPut, *]) (by simp [tmPut, *]) (by simp [tmPut, *]) h hin hlow hret
end Go.Proofs.Ytooakbmehcchnaa
namespace Go.Proofs.Ytooakbmehcchnaa
open Go.Am Go.RowKit
attribute [local irreducible] aop OpsL Trip blockExit OpsD OpsK OpsR OpsQ
def LitAt (el : TypeId) (σ : CH) (v : Value) (s : SV) : Prop := ∃ b, v = .slice (some ⟨b, 0, none⟩) 1 1 ∧ ObC .tmp σ b (.cells [slV s] 1 none false (some el))
theorem LitAt.keep {el : TypeId} {S : List Co} {σ τ : CH} {v : Value} {s : SV} (h : Chg S σ τ) (hc : Co.tmp ∉ S) (ho : LitAt el σ v s) : LitAt el τ v s := by
  obtain ⟨b, h1, h2⟩ := ho
  exact ⟨b, h1, h2.keep h hc⟩
theorem LitAt.rows {el : TypeId} {σ : CH} {v : Value} {s : SV} (h : LitAt el σ v s) : RowsAt encS 1 σ.H v [s] := by
  obtain ⟨b, rfl, h2⟩ := h
  refine .inr ⟨⟨b, 0, none⟩, 1, rfl, fun i hi => ?_⟩
  have hi0 : i = 0 := by simpa using hi
  subst hi0
  exact getc_all h2.2.2 rfl
structure J9 (σ0 : CH) (X : MkX) (q : MkP) (D : MkD) (V : MoV) (p : Nat) (lin llow : List Int) (lret : List (List Int)) (si sl sr : SV) (l : List Nat) (tm : Nat → Value) (σ : CH) : Prop where
  old : OldC σ0 σ
  a : ObC .self σ X.A (mObj X.pl X.cl ⟨V.o, V.e, V.f, if 16 ∈ l then V.i else tm 205, if 18 ∈ l then V.l else tm 210, if 20 ∈ l then V.r else tm 215⟩)
  b : ObC .next σ X.B (nextO X.nv D.cnt)
  r : ∃ cs, cs.length = 8 ∧ ObC .tmp σ X.a4 (.cells cs 0 none false (some 28))
  n : IntsC .old σ X.nv X.ns
  of : PlainC 3 .of σ V.o (D.L.map (.int .i64 ·))
  en : PlainC 3 .entry σ V.e (D.E.map (.int .i64 ·))
  tb : TabC σ X.tv D.T
  fi : OwnC encBo 4 .final σ V.f D.f
  t1 : T1 tm X q
  t13 : tm 13 = .int .i64 p
  t202 : tm 202 = V.i
  t203 : tm 203 = slV si
  t207 : tm 207 = V.l
  t208 : tm 208 = slV sl
  t212 : tm 212 = V.r
  t213 : tm 213 = slV sr
  t216 : 15 ∉ l → tm 216 = .pointer (some ⟨X.A, 0 + 5, none⟩)
  t217 : 17 ∉ l → tm 217 = .pointer (some ⟨X.A, 0 + 6, none⟩)
  t218 : 19 ∉ l → tm 218 = .pointer (some ⟨X.A, 0 + 7, none⟩)
  cA : 4 ∈ l → 16 ∈ l
  cB : 14 ∈ l → 16 ∈ l
  cC : 9 ∈ l → 18 ∈ l
  cD : 16 ∈ l → 18 ∈ l
  cE : 18 ∈ l → 20 ∈ l
  rin : RowI (.inn1 p) σ (slV si) lin
  rlow : RowI (.low1 p) σ (slV sl) llow
  rret : Row2 (.ret2 p) (.ret1 p) σ (slV sr) lret
  i0 : 4 ∈ l → Row2 .inn1 .inn σ V.i D.I
  i1 : 4 ∉ l → Row2 .inn1 .inn σ (tm 205) (D.I ++ [lin])
  l0 : 9 ∈ l → Row2 .low1 .low σ V.l D.W
  l1 : 9 ∉ l → Row2 .low1 .low σ (tm 210) (D.W ++ [llow])
  r0 : 14 ∈ l → Row3 σ V.r D.R
  r1 : 14 ∉ l → Row3 σ (tm 215) (D.R ++ [lret])
  b3 : 3 ∉ l → LitAt 23 σ (tm 204) si
  b8 : 8 ∉ l → LitAt 23 σ (tm 209) sl
  b13 : 13 ∉ l → LitAt 25 σ (tm 214) sr
theorem mkApp (W0 : World) {σ0 σ : CH} {X : MkX} {q : MkP} {D : MkD} {V : MoV} {tm : Nat → Value} {n : Nat} {p : Nat} {lin llow : List Int} {lret : List (List Int)} {vin vlow vret : Value} (hn0 : n = 220) (ht : T1 tm X q) (h13 : tm 13 = .int .i64 p) (h15 : tm 15 = vin) (h16 : tm 16 = vlow) (h17 : tm 17 = vret) (hlen1 : D.I.length = p) (hlen2 : D.W.length = p) (hlen3 : D.R.length = p) (hp : p ≤ 1000) (hin : RowI (.inn1 p) σ vin lin) (hlow : RowI (.low1 p) σ vlow llow) (hret : Row2 (.ret2 p) (.ret1 p) σ vret lret) (h : MkS σ0 σ X D V) {Q : AExit → ASt → Prop}
    (hQ : ∀ tm' σ' V', T1 tm' X q → tm' 13 = .int .i64 p → MkS σ0 σ' X { D with I := D.I ++ [lin], W := D.W ++ [llow], R := D.R ++ [lret] } V' → Q .normal ⟨tm', n, σ'.H, σ'.nx⟩) : Trip Try.prog W0 (subC [1, 1, 1, 1, 1, 1, 1, 1, 1, 0, 1, 2, 2, 1, 0, 2, 1, 1, 1, 1, 1, 1] (bodyMk Try.f21)) ⟨tm, n, σ.H, σ.nx⟩ Q := by
  obtain ⟨t4, t5, t6, t7, t8, t9⟩ := ht
  obtain ⟨ia, ik, hvi⟩ := OwnC.slice encN_len hin
  obtain ⟨la, lk, hvl⟩ := OwnC.slice encN_len hlow
  obtain ⟨ra, rk, hvr⟩ : ∃ a k, vret = .slice a lret.length k := by
    obtain ⟨vs, q1, q2⟩ := hret
    obtain ⟨a, k, q3⟩ := OwnC.slice encS_len q1
    exact ⟨a, k, by rw [q3, q2.1]⟩
  have g5 : cellAt σ.H ⟨X.A, 5, none⟩ V.i := h.a.cell rfl
  have g6 : cellAt σ.H ⟨X.A, 6, none⟩ V.l := h.a.cell rfl
  have g7 : cellAt σ.H ⟨X.A, 7, none⟩ V.r := h.a.cell rfl
  have hg : ∀ k ∈ ([0, 1, 2, 5, 6, 7, 10, 11, 12, 3, 4, 8, 9, 13, 14, 15, 16, 17, 18, 19, 20] : List Nat), (k = 4 → cellAt σ.H ⟨X.A, 5, none⟩ V.i) ∧ (k = 9 → cellAt σ.H ⟨X.A, 6, none⟩ V.l) ∧ (k = 14 → cellAt σ.H ⟨X.A, 7, none⟩ V.r) := fun k _ => ⟨fun _ => g5, fun _ => g6, fun _ => g7⟩
  refine OpsQ.drawn [3, 4, 8, 9, 13, 14, 15, 16, 17, 18, 19, 20] (K := fun j nx H => (j = 4 → cellAt H ⟨X.A, 5, none⟩ V.i) ∧ (j = 9 → cellAt H ⟨X.A, 6, none⟩ V.l) ∧ (j = 14 → cellAt H ⟨X.A, 7, none⟩ V.r)) mixed13 (by kernel_rfl) (by kernel_rfl) [0, 1, 2, 5, 6, 7, 10, 11, 12, 3, 4, 8, 9, 13, 14, 15, 16, 17, 18, 19, 20] (by kernel_rfl) hg ?_
  refine OpsQ.one rfl rfl rfl (by kernel_rfl) ?_
  repeat (first | (refine OpsL.q (by exact ofa) ?_) | (refine OpsL.nil ?_; (dsimp only)))
  refine OpsQ.sp 4 (v := V.i) rfl (by kernel_rfl) (by subst_vars; decide) (hg 4 (by simp)) (fun H2 nx2 hK => aop_load (by (first | (simp only [ASt.ev, tmPut, ↓reduceIte, Nat.reduceEqDiff, *]; rfl))) (by exact rfl) rfl (hK.1 rfl)) ?_
  refine OpsQ.one rfl rfl rfl (by kernel_rfl) ?_
  repeat (first | (refine OpsL.q (by exact omv) ?_) | (refine OpsL.nil ?_; (skip)))
  refine OpsQ.one rfl rfl rfl (by kernel_rfl) ?_
  repeat (first | (refine OpsL.q (by exact ofa) ?_) | (refine OpsL.nil ?_; (dsimp only)))
  refine OpsQ.sp 9 (v := V.l) rfl (by kernel_rfl) (by subst_vars; decide) (hg 9 (by simp)) (fun H2 nx2 hK => aop_load (by (first | (simp only [ASt.ev, tmPut, ↓reduceIte, Nat.reduceEqDiff, *]; rfl))) (by exact rfl) rfl (hK.2.1 rfl)) ?_
  refine OpsQ.one rfl rfl rfl (by kernel_rfl) ?_
  repeat (first | (refine OpsL.q (by exact omv) ?_) | (refine OpsL.nil ?_; (skip)))
  refine OpsQ.one rfl rfl rfl (by kernel_rfl) ?_
  repeat (first | (refine OpsL.q (by exact ofa) ?_) | (refine OpsL.nil ?_; (dsimp only)))
  refine OpsQ.sp 14 (v := V.r) rfl (by kernel_rfl) (by subst_vars; decide) (hg 14 (by simp)) (fun H2 nx2 hK => aop_load (by (first | (simp only [ASt.ev, tmPut, ↓reduceIte, Nat.reduceEqDiff, *]; rfl))) (by exact rfl) rfl (hK.2.2 rfl)) ?_
  refine OpsQ.one rfl rfl rfl (by kernel_rfl) ?_
  repeat (first | (refine OpsL.q (by exact omv) ?_) | (refine OpsL.nil ?_; (skip)))
  refine OpsQ.uni (L0 := [3, 4, 8, 9, 13, 14, 15, 16, 17, 18, 19, 20]) (J := fun l st => ∃ tm σ, st = ⟨tm, n, σ.H, σ.nx⟩ ∧ J9 σ0 X q D V p lin llow lret (ia, lin.length, ik) (la, llow.length, lk) (ra, lret.length, rk) l tm σ) ?_ ?_ ?_ _ _ _ (Nat.le_refl _) (fun _ h => h) (by decide) ?_
  · rintro l st ⟨tm, σ, rfl, h⟩ k hk
    refine ⟨fun e => ?_, fun e => ?_, fun e => ?_⟩
    · subst e
      have q := h.a
      rw [if_pos (h.cA hk)] at q
      exact q.cell rfl
    · subst e
      have q := h.a
      rw [if_pos (h.cC hk)] at q
      exact q.cell rfl
    · subst e
      have q := h.a
      rw [if_pos (h.cE (h.cD (h.cB hk)))] at q
      exact q.cell rfl
  · rintro l st j hsub hnd ⟨tm, σ, rfl, h⟩ hj hfr
    have hmem : ∀ k, k ∈ l.erase j ↔ k ≠ j ∧ k ∈ l := fun k => by rw [hnd.mem_erase_iff]
    have hdep : ∀ k, depD _ j k = true → k ≠ j → k ∉ l := fun k hd hk hkl => by
      have := front_iff.1 hfr k ((hmem k).2 ⟨hk, hkl⟩)
      rw [hd] at this
      cases this
    have hj9 := hsub j hj
    simp only [List.mem_cons, List.not_mem_nil, or_false] at hj9
    rcases hj9 with rfl | rfl | rfl | rfl | rfl | rfl | rfl | rfl | rfl | rfl | rfl | rfl
    · have e1 := h.t203
      refine ActStep.walk rfl rfl ?_
      refine OpsL.newC .tmp (aop_buildSlice (l := [(0, slV (ia, lin.length, ik))]) (r := (.slice (some ⟨σ.nx, 0, none⟩) 1 1, .new (.cells [slV (ia, lin.length, ik)] 1 none false (some 23)))) (by simp [evParts, ASt.ev, e1]) (by kernel_rfl)) (by subst_vars; decide) ?_
      intro τ hb hx
      refine OpsL.nil ⟨trivial, _, τ, rfl, ⟨(h.old.keep hx (by simp)), ((by have q := h.a.keep hx (by simp); simpa [mObj, hmem, tmPut] using q)), (h.b.keep hx (by simp)), ((by obtain ⟨cs, q1, q2⟩ := h.r; exact ⟨cs, q1, q2.keep hx (by simp)⟩)), (h.n.keep hx (by simp)), (h.of.keep hx (by simp)), (h.en.keep hx (by simp)), (h.tb.keep hx (by simp) (fun _ _ => by simp)), (h.fi.keep hx (by simp)), ⟨by simpa [tmPut] using h.t1.t4, by simpa [tmPut] using h.t1.t5, by simpa [tmPut] using h.t1.t6, by simpa [tmPut] using h.t1.t7, by simpa [tmPut] using h.t1.t8, by simpa [tmPut] using h.t1.t9⟩, (by simpa [tmPut] using h.t13), (by simpa [tmPut] using h.t202), (by simpa [tmPut] using h.t203), (by simpa [tmPut] using h.t207), (by simpa [tmPut] using h.t208), (by simpa [tmPut] using h.t212), (by simpa [tmPut] using h.t213), (fun hk => by have q := h.t216 (fun q => hk ((hmem 15).2 ⟨by decide, q⟩)); simpa [tmPut] using q), (fun hk => by have q := h.t217 (fun q => hk ((hmem 17).2 ⟨by decide, q⟩)); simpa [tmPut] using q), (fun hk => by have q := h.t218 (fun q => hk ((hmem 19).2 ⟨by decide, q⟩)); simpa [tmPut] using q), (fun q => (hmem 16).2 ⟨by decide, h.cA ((hmem 4).1 q).2⟩), (fun q => (hmem 16).2 ⟨by decide, h.cB ((hmem 14).1 q).2⟩), (fun q => (hmem 18).2 ⟨by decide, h.cC ((hmem 9).1 q).2⟩), (fun q => (hmem 18).2 ⟨by decide, h.cD ((hmem 16).1 q).2⟩), (fun q => (hmem 20).2 ⟨by decide, h.cE ((hmem 18).1 q).2⟩), (RowI.keepL hx (by simp) h.rin), (RowI.keepL hx (by simp) h.rlow), (Row2.keepL hx (by simp) (fun _ _ => by simp) h.rret), (fun hk => Row2.keepL hx (by simp) (fun jj hjj => by simp) (h.i0 (by have := hk; simp only [hmem] at this; exact this.2))), (fun hk => (by have q := Row2.keepL hx (by simp) (fun jj hjj => by simp) (h.i1 (fun q => hk ((hmem 4).2 ⟨by decide, q⟩))); simpa [tmPut] using q)), (fun hk => Row2.keepL hx (by simp) (fun jj hjj => by simp) (h.l0 (by have := hk; simp only [hmem] at this; exact this.2))), (fun hk => (by have q := Row2.keepL hx (by simp) (fun jj hjj => by simp) (h.l1 (fun q => hk ((hmem 9).2 ⟨by decide, q⟩))); simpa [tmPut] using q)), (fun hk => Row3.keepL hx (by simp) (fun jj hjj => by simp) (fun jj j2 hjj => by simp) (h.r0 (by have := hk; simp only [hmem] at this; exact this.2))), (fun hk => (by have q := Row3.keepL hx (by simp) (fun jj hjj => by simp) (fun jj j2 hjj => by simp) (h.r1 (fun q => hk ((hmem 14).2 ⟨by decide, q⟩))); simpa [tmPut] using q)), (fun _ => ⟨σ.nx, by simp [tmPut], hb⟩), (fun hk => (by have q := LitAt.keep hx (by simp) (h.b8 (fun q => hk ((hmem 8).2 ⟨by decide, q⟩))); simpa [tmPut] using q)), (fun hk => (by have q := LitAt.keep hx (by simp) (h.b13 (fun q => hk ((hmem 13).2 ⟨by decide, q⟩))); simpa [tmPut] using q))⟩⟩
    · have hd3 : 3 ∉ l := hdep 3 (by kernel_rfl) (by decide)
      have e1 := h.t202
      obtain ⟨vs, hvs, hall⟩ := h.i0 hj
      have hlit := (h.b3 hd3).rows
      refine ActStep.walk rfl rfl ?_
      refine OpsL.appC (bytes := 24) (z := [.slice none 0 0]) (u := tm 204) encS_len encS_one hvs hlit (by exact rfl) (by exact rfl) (by exact rfl) (by exact rfl) (by exact rfl) rfl (by have := hall.1; simp; omega) (by omega) (by (first | (simp only [ASt.ev, tmPut, ↓reduceIte, Nat.reduceEqDiff, *]; done))) (by rfl) (by subst_vars; decide) ?_
      intro v3 τ hvs3 hx
      have hnew : Row2 .inn1 .inn τ v3 (D.I ++ [lin]) := ⟨_, hvs3, AllC.push (hall.keep fun jj _ _ _ hr => RowI.keepL hx (by simp) hr) (by rw [hlen1]; exact RowI.keepL hx (by simp) h.rin)⟩
      refine OpsL.nil ⟨trivial, _, τ, rfl, ⟨(h.old.keep hx (by simp)), ((by have m1 := h.cA hj; have m2 := h.cD m1; have m3 := h.cE m2; have q := h.a.keep hx (by simp); simpa [mObj, hmem, tmPut, m1, m2, m3] using q)), (h.b.keep hx (by simp)), ((by obtain ⟨cs, q1, q2⟩ := h.r; exact ⟨cs, q1, q2.keep hx (by simp)⟩)), (h.n.keep hx (by simp)), (h.of.keep hx (by simp)), (h.en.keep hx (by simp)), (h.tb.keep hx (by simp) (fun _ _ => by simp)), (h.fi.keep hx (by simp)), ⟨by simpa [tmPut] using h.t1.t4, by simpa [tmPut] using h.t1.t5, by simpa [tmPut] using h.t1.t6, by simpa [tmPut] using h.t1.t7, by simpa [tmPut] using h.t1.t8, by simpa [tmPut] using h.t1.t9⟩, (by simpa [tmPut] using h.t13), (by simpa [tmPut] using h.t202), (by simpa [tmPut] using h.t203), (by simpa [tmPut] using h.t207), (by simpa [tmPut] using h.t208), (by simpa [tmPut] using h.t212), (by simpa [tmPut] using h.t213), (fun hk => by have q := h.t216 (fun q => hk ((hmem 15).2 ⟨by decide, q⟩)); simpa [tmPut] using q), (fun hk => by have q := h.t217 (fun q => hk ((hmem 17).2 ⟨by decide, q⟩)); simpa [tmPut] using q), (fun hk => by have q := h.t218 (fun q => hk ((hmem 19).2 ⟨by decide, q⟩)); simpa [tmPut] using q), (fun q => (hmem 16).2 ⟨by decide, h.cA ((hmem 4).1 q).2⟩), (fun q => (hmem 16).2 ⟨by decide, h.cB ((hmem 14).1 q).2⟩), (fun q => (hmem 18).2 ⟨by decide, h.cC ((hmem 9).1 q).2⟩), (fun q => (hmem 18).2 ⟨by decide, h.cD ((hmem 16).1 q).2⟩), (fun q => (hmem 20).2 ⟨by decide, h.cE ((hmem 18).1 q).2⟩), (RowI.keepL hx (by simp) h.rin), (RowI.keepL hx (by simp) h.rlow), (Row2.keepL hx (by simp) (fun _ _ => by simp) h.rret), (fun hk => absurd ((hmem 4).1 hk).1 (by simp)), (fun _ => (by simpa [tmPut] using hnew)), (fun hk => Row2.keepL hx (by simp) (fun jj hjj => by simp) (h.l0 (by have := hk; simp only [hmem] at this; exact this.2))), (fun hk => (by have q := Row2.keepL hx (by simp) (fun jj hjj => by simp) (h.l1 (fun q => hk ((hmem 9).2 ⟨by decide, q⟩))); simpa [tmPut] using q)), (fun hk => Row3.keepL hx (by simp) (fun jj hjj => by simp) (fun jj j2 hjj => by simp) (h.r0 (by have := hk; simp only [hmem] at this; exact this.2))), (fun hk => (by have q := Row3.keepL hx (by simp) (fun jj hjj => by simp) (fun jj j2 hjj => by simp) (h.r1 (fun q => hk ((hmem 14).2 ⟨by decide, q⟩))); simpa [tmPut] using q)), (fun hk => (by have q := LitAt.keep hx (by simp) (h.b3 (fun q => hk ((hmem 3).2 ⟨by decide, q⟩))); simpa [tmPut] using q)), (fun hk => (by have q := LitAt.keep hx (by simp) (h.b8 (fun q => hk ((hmem 8).2 ⟨by decide, q⟩))); simpa [tmPut] using q)), (fun hk => (by have q := LitAt.keep hx (by simp) (h.b13 (fun q => hk ((hmem 13).2 ⟨by decide, q⟩))); simpa [tmPut] using q))⟩⟩
    · have e1 := h.t208
      refine ActStep.walk rfl rfl ?_
      refine OpsL.newC .tmp (aop_buildSlice (l := [(0, slV (la, llow.length, lk))]) (r := (.slice (some ⟨σ.nx, 0, none⟩) 1 1, .new (.cells [slV (la, llow.length, lk)] 1 none false (some 23)))) (by simp [evParts, ASt.ev, e1]) (by kernel_rfl)) (by subst_vars; decide) ?_
      intro τ hb hx
      refine OpsL.nil ⟨trivial, _, τ, rfl, ⟨(h.old.keep hx (by simp)), ((by have q := h.a.keep hx (by simp); simpa [mObj, hmem, tmPut] using q)), (h.b.keep hx (by simp)), ((by obtain ⟨cs, q1, q2⟩ := h.r; exact ⟨cs, q1, q2.keep hx (by simp)⟩)), (h.n.keep hx (by simp)), (h.of.keep hx (by simp)), (h.en.keep hx (by simp)), (h.tb.keep hx (by simp) (fun _ _ => by simp)), (h.fi.keep hx (by simp)), ⟨by simpa [tmPut] using h.t1.t4, by simpa [tmPut] using h.t1.t5, by simpa [tmPut] using h.t1.t6, by simpa [tmPut] using h.t1.t7, by simpa [tmPut] using h.t1.t8, by simpa [tmPut] using h.t1.t9⟩, (by simpa [tmPut] using h.t13), (by simpa [tmPut] using h.t202), (by simpa [tmPut] using h.t203), (by simpa [tmPut] using h.t207), (by simpa [tmPut] using h.t208), (by simpa [tmPut] using h.t212), (by simpa [tmPut] using h.t213), (fun hk => by have q := h.t216 (fun q => hk ((hmem 15).2 ⟨by decide, q⟩)); simpa [tmPut] using q), (fun hk => by have q := h.t217 (fun q => hk ((hmem 17).2 ⟨by decide, q⟩)); simpa [tmPut] using q), (fun hk => by have q := h.t218 (fun q => hk ((hmem 19).2 ⟨by decide, q⟩)); simpa [tmPut] using q), (fun q => (hmem 16).2 ⟨by decide, h.cA ((hmem 4).1 q).2⟩), (fun q => (hmem 16).2 ⟨by decide, h.cB ((hmem 14).1 q).2⟩), (fun q => (hmem 18).2 ⟨by decide, h.cC ((hmem 9).1 q).2⟩), (fun q => (hmem 18).2 ⟨by decide, h.cD ((hmem 16).1 q).2⟩), (fun q => (hmem 20).2 ⟨by decide, h.cE ((hmem 18).1 q).2⟩), (RowI.keepL hx (by simp) h.rin), (RowI.keepL hx (by simp) h.rlow), (Row2.keepL hx (by simp) (fun _ _ => by simp) h.rret), (fun hk => Row2.keepL hx (by simp) (fun jj hjj => by simp) (h.i0 (by have := hk; simp only [hmem] at this; exact this.2))), (fun hk => (by have q := Row2.keepL hx (by simp) (fun jj hjj => by simp) (h.i1 (fun q => hk ((hmem 4).2 ⟨by decide, q⟩))); simpa [tmPut] using q)), (fun hk => Row2.keepL hx (by simp) (fun jj hjj => by simp) (h.l0 (by have := hk; simp only [hmem] at this; exact this.2))), (fun hk => (by have q := Row2.keepL hx (by simp) (fun jj hjj => by simp) (h.l1 (fun q => hk ((hmem 9).2 ⟨by decide, q⟩))); simpa [tmPut] using q)), (fun hk => Row3.keepL hx (by simp) (fun jj hjj => by simp) (fun jj j2 hjj => by simp) (h.r0 (by have := hk; simp only [hmem] at this; exact this.2))), (fun hk => (by have q := Row3.keepL hx (by simp) (fun jj hjj => by simp) (fun jj j2 hjj => by simp) (h.r1 (fun q => hk ((hmem 14).2 ⟨by decide, q⟩))); simpa [tmPut] using q)), (fun hk => (by have q := LitAt.keep hx (by simp) (h.b3 (fun q => hk ((hmem 3).2 ⟨by decide, q⟩))); simpa [tmPut] using q)), (fun _ => ⟨σ.nx, by simp [tmPut], hb⟩), (fun hk => (by have q := LitAt.keep hx (by simp) (h.b13 (fun q => hk ((hmem 13).2 ⟨by decide, q⟩))); simpa [tmPut] using q))⟩⟩
    · have hd3 : 8 ∉ l := hdep 8 (by kernel_rfl) (by decide)
      have e1 := h.t207
      obtain ⟨vs, hvs, hall⟩ := h.l0 hj
      have hlit := (h.b8 hd3).rows
      refine ActStep.walk rfl rfl ?_
      refine OpsL.appC (bytes := 24) (z := [.slice none 0 0]) (u := tm 209) encS_len encS_one hvs hlit (by exact rfl) (by exact rfl) (by exact rfl) (by exact rfl) (by exact rfl) rfl (by have := hall.1; simp; omega) (by omega) (by (first | (simp only [ASt.ev, tmPut, ↓reduceIte, Nat.reduceEqDiff, *]; done))) (by rfl) (by subst_vars; decide) ?_
      intro v3 τ hvs3 hx
      have hnew : Row2 .low1 .low τ v3 (D.W ++ [llow]) := ⟨_, hvs3, AllC.push (hall.keep fun jj _ _ _ hr => RowI.keepL hx (by simp) hr) (by rw [hlen2]; exact RowI.keepL hx (by simp) h.rlow)⟩
      refine OpsL.nil ⟨trivial, _, τ, rfl, ⟨(h.old.keep hx (by simp)), ((by have m2 := h.cC hj; have m3 := h.cE m2; have q := h.a.keep hx (by simp); simpa [mObj, hmem, tmPut, m2, m3] using q)), (h.b.keep hx (by simp)), ((by obtain ⟨cs, q1, q2⟩ := h.r; exact ⟨cs, q1, q2.keep hx (by simp)⟩)), (h.n.keep hx (by simp)), (h.of.keep hx (by simp)), (h.en.keep hx (by simp)), (h.tb.keep hx (by simp) (fun _ _ => by simp)), (h.fi.keep hx (by simp)), ⟨by simpa [tmPut] using h.t1.t4, by simpa [tmPut] using h.t1.t5, by simpa [tmPut] using h.t1.t6, by simpa [tmPut] using h.t1.t7, by simpa [tmPut] using h.t1.t8, by simpa [tmPut] using h.t1.t9⟩, (by simpa [tmPut] using h.t13), (by simpa [tmPut] using h.t202), (by simpa [tmPut] using h.t203), (by simpa [tmPut] using h.t207), (by simpa [tmPut] using h.t208), (by simpa [tmPut] using h.t212), (by simpa [tmPut] using h.t213), (fun hk => by have q := h.t216 (fun q => hk ((hmem 15).2 ⟨by decide, q⟩)); simpa [tmPut] using q), (fun hk => by have q := h.t217 (fun q => hk ((hmem 17).2 ⟨by decide, q⟩)); simpa [tmPut] using q), (fun hk => by have q := h.t218 (fun q => hk ((hmem 19).2 ⟨by decide, q⟩)); simpa [tmPut] using q), (fun q => (hmem 16).2 ⟨by decide, h.cA ((hmem 4).1 q).2⟩), (fun q => (hmem 16).2 ⟨by decide, h.cB ((hmem 14).1 q).2⟩), (fun q => (hmem 18).2 ⟨by decide, h.cC ((hmem 9).1 q).2⟩), (fun q => (hmem 18).2 ⟨by decide, h.cD ((hmem 16).1 q).2⟩), (fun q => (hmem 20).2 ⟨by decide, h.cE ((hmem 18).1 q).2⟩), (RowI.keepL hx (by simp) h.rin), (RowI.keepL hx (by simp) h.rlow), (Row2.keepL hx (by simp) (fun _ _ => by simp) h.rret), (fun hk => Row2.keepL hx (by simp) (fun jj hjj => by simp) (h.i0 (by have := hk; simp only [hmem] at this; exact this.2))), (fun hk => (by have q := Row2.keepL hx (by simp) (fun jj hjj => by simp) (h.i1 (fun q => hk ((hmem 4).2 ⟨by decide, q⟩))); simpa [tmPut] using q)), (fun hk => absurd ((hmem 9).1 hk).1 (by simp)), (fun _ => (by simpa [tmPut] using hnew)), (fun hk => Row3.keepL hx (by simp) (fun jj hjj => by simp) (fun jj j2 hjj => by simp) (h.r0 (by have := hk; simp only [hmem] at this; exact this.2))), (fun hk => (by have q := Row3.keepL hx (by simp) (fun jj hjj => by simp) (fun jj j2 hjj => by simp) (h.r1 (fun q => hk ((hmem 14).2 ⟨by decide, q⟩))); simpa [tmPut] using q)), (fun hk => (by have q := LitAt.keep hx (by simp) (h.b3 (fun q => hk ((hmem 3).2 ⟨by decide, q⟩))); simpa [tmPut] using q)), (fun hk => (by have q := LitAt.keep hx (by simp) (h.b8 (fun q => hk ((hmem 8).2 ⟨by decide, q⟩))); simpa [tmPut] using q)), (fun hk => (by have q := LitAt.keep hx (by simp) (h.b13 (fun q => hk ((hmem 13).2 ⟨by decide, q⟩))); simpa [tmPut] using q))⟩⟩
    · have e1 := h.t213
      refine ActStep.walk rfl rfl ?_
      refine OpsL.newC .tmp (aop_buildSlice (l := [(0, slV (ra, lret.length, rk))]) (r := (.slice (some ⟨σ.nx, 0, none⟩) 1 1, .new (.cells [slV (ra, lret.length, rk)] 1 none false (some 25)))) (by simp [evParts, ASt.ev, e1]) (by kernel_rfl)) (by subst_vars; decide) ?_
      intro τ hb hx
      refine OpsL.nil ⟨trivial, _, τ, rfl, ⟨(h.old.keep hx (by simp)), ((by have q := h.a.keep hx (by simp); simpa [mObj, hmem, tmPut] using q)), (h.b.keep hx (by simp)), ((by obtain ⟨cs, q1, q2⟩ := h.r; exact ⟨cs, q1, q2.keep hx (by simp)⟩)), (h.n.keep hx (by simp)), (h.of.keep hx (by simp)), (h.en.keep hx (by simp)), (h.tb.keep hx (by simp) (fun _ _ => by simp)), (h.fi.keep hx (by simp)), ⟨by simpa [tmPut] using h.t1.t4, by simpa [tmPut] using h.t1.t5, by simpa [tmPut] using h.t1.t6, by simpa [tmPut] using h.t1.t7, by simpa [tmPut] using h.t1.t8, by simpa [tmPut] using h.t1.t9⟩, (by simpa [tmPut] using h.t13), (by simpa [tmPut] using h.t202), (by simpa [tmPut] using h.t203), (by simpa [tmPut] using h.t207), (by simpa [tmPut] using h.t208), (by simpa [tmPut] using h.t212), (by simpa [tmPut] using h.t213), (fun hk => by have q := h.t216 (fun q => hk ((hmem 15).2 ⟨by decide, q⟩)); simpa [tmPut] using q), (fun hk => by have q := h.t217 (fun q => hk ((hmem 17).2 ⟨by decide, q⟩)); simpa [tmPut] using q), (fun hk => by have q := h.t218 (fun q => hk ((hmem 19).2 ⟨by decide, q⟩)); simpa [tmPut] using q), (fun q => (hmem 16).2 ⟨by decide, h.cA ((hmem 4).1 q).2⟩), (fun q => (hmem 16).2 ⟨by decide, h.cB ((hmem 14).1 q).2⟩), (fun q => (hmem 18).2 ⟨by decide, h.cC ((hmem 9).1 q).2⟩), (fun q => (hmem 18).2 ⟨by decide, h.cD ((hmem 16).1 q).2⟩), (fun q => (hmem 20).2 ⟨by decide, h.cE ((hmem 18).1 q).2⟩), (RowI.keepL hx (by simp) h.rin), (RowI.keepL hx (by simp) h.rlow), (Row2.keepL hx (by simp) (fun _ _ => by simp) h.rret), (fun hk => Row2.keepL hx (by simp) (fun jj hjj => by simp) (h.i0 (by have := hk; simp only [hmem] at this; exact this.2))), (fun hk => (by have q := Row2.keepL hx (by simp) (fun jj hjj => by simp) (h.i1 (fun q => hk ((hmem 4).2 ⟨by decide, q⟩))); simpa [tmPut] using q)), (fun hk => Row2.keepL hx (by simp) (fun jj hjj => by simp) (h.l0 (by have := hk; simp only [hmem] at this; exact this.2))), (fun hk => (by have q := Row2.keepL hx (by simp) (fun jj hjj => by simp) (h.l1 (fun q => hk ((hmem 9).2 ⟨by decide, q⟩))); simpa [tmPut] using q)), (fun hk => Row3.keepL hx (by simp) (fun jj hjj => by simp) (fun jj j2 hjj => by simp) (h.r0 (by have := hk; simp only [hmem] at this; exact this.2))), (fun hk => (by have q := Row3.keepL hx (by simp) (fun jj hjj => by simp) (fun jj j2 hjj => by simp) (h.r1 (fun q => hk ((hmem 14).2 ⟨by decide, q⟩))); simpa [tmPut] using q)), (fun hk => (by have q := LitAt.keep hx (by simp) (h.b3 (fun q => hk ((hmem 3).2 ⟨by decide, q⟩))); simpa [tmPut] using q)), (fun hk => (by have q := LitAt.keep hx (by simp) (h.b8 (fun q => hk ((hmem 8).2 ⟨by decide, q⟩))); simpa [tmPut] using q)), (fun _ => ⟨σ.nx, by simp [tmPut], hb⟩)⟩⟩
    · have hd3 : 13 ∉ l := hdep 13 (by kernel_rfl) (by decide)
      have e1 := h.t212
      obtain ⟨vs, hvs, hall⟩ := h.r0 hj
      have hlit := (h.b13 hd3).rows
      refine ActStep.walk rfl rfl ?_
      refine OpsL.appC (bytes := 24) (z := [.slice none 0 0]) (u := tm 214) encS_len encS_one hvs hlit (by exact rfl) (by exact rfl) (by exact rfl) (by exact rfl) (by exact rfl) rfl (by have := hall.1; simp; omega) (by omega) (by (first | (simp only [ASt.ev, tmPut, ↓reduceIte, Nat.reduceEqDiff, *]; done))) (by rfl) (by subst_vars; decide) ?_
      intro v3 τ hvs3 hx
      have hnew : Row3 τ v3 (D.R ++ [lret]) := ⟨_, hvs3, AllC.push (hall.keep fun jj _ _ _ hr => Row2.keepL hx (by simp) (fun j2 hj2 => by simp) hr) (by rw [hlen3]; exact Row2.keepL hx (by simp) (fun j2 hj2 => by simp) h.rret)⟩
      refine OpsL.nil ⟨trivial, _, τ, rfl, ⟨(h.old.keep hx (by simp)), ((by have m1 := h.cB hj; have m2 := h.cD m1; have m3 := h.cE m2; have q := h.a.keep hx (by simp); simpa [mObj, hmem, tmPut, m1, m2, m3] using q)), (h.b.keep hx (by simp)), ((by obtain ⟨cs, q1, q2⟩ := h.r; exact ⟨cs, q1, q2.keep hx (by simp)⟩)), (h.n.keep hx (by simp)), (h.of.keep hx (by simp)), (h.en.keep hx (by simp)), (h.tb.keep hx (by simp) (fun _ _ => by simp)), (h.fi.keep hx (by simp)), ⟨by simpa [tmPut] using h.t1.t4, by simpa [tmPut] using h.t1.t5, by simpa [tmPut] using h.t1.t6, by simpa [tmPut] using h.t1.t7, by simpa [tmPut] using h.t1.t8, by simpa [tmPut] using h.t1.t9⟩, (by simpa [tmPut] using h.t13), (by simpa [tmPut] using h.t202), (by simpa [tmPut] using h.t203), (by simpa [tmPut] using h.t207), (by simpa [tmPut] using h.t208), (by simpa [tmPut] using h.t212), (by simpa [tmPut] using h.t213), (fun hk => by have q := h.t216 (fun q => hk ((hmem 15).2 ⟨by decide, q⟩)); simpa [tmPut] using q), (fun hk => by have q := h.t217 (fun q => hk ((hmem 17).2 ⟨by decide, q⟩)); simpa [tmPut] using q), (fun hk => by have q := h.t218 (fun q => hk ((hmem 19).2 ⟨by decide, q⟩)); simpa [tmPut] using q), (fun q => (hmem 16).2 ⟨by decide, h.cA ((hmem 4).1 q).2⟩), (fun q => (hmem 16).2 ⟨by decide, h.cB ((hmem 14).1 q).2⟩), (fun q => (hmem 18).2 ⟨by decide, h.cC ((hmem 9).1 q).2⟩), (fun q => (hmem 18).2 ⟨by decide, h.cD ((hmem 16).1 q).2⟩), (fun q => (hmem 20).2 ⟨by decide, h.cE ((hmem 18).1 q).2⟩), (RowI.keepL hx (by simp) h.rin), (RowI.keepL hx (by simp) h.rlow), (Row2.keepL hx (by simp) (fun _ _ => by simp) h.rret), (fun hk => Row2.keepL hx (by simp) (fun jj hjj => by simp) (h.i0 (by have := hk; simp only [hmem] at this; exact this.2))), (fun hk => (by have q := Row2.keepL hx (by simp) (fun jj hjj => by simp) (h.i1 (fun q => hk ((hmem 4).2 ⟨by decide, q⟩))); simpa [tmPut] using q)), (fun hk => Row2.keepL hx (by simp) (fun jj hjj => by simp) (h.l0 (by have := hk; simp only [hmem] at this; exact this.2))), (fun hk => (by have q := Row2.keepL hx (by simp) (fun jj hjj => by simp) (h.l1 (fun q => hk ((hmem 9).2 ⟨by decide, q⟩))); simpa [tmPut] using q)), (fun hk => absurd ((hmem 14).1 hk).1 (by simp)), (fun _ => (by simpa [tmPut] using hnew)), (fun hk => (by have q := LitAt.keep hx (by simp) (h.b3 (fun q => hk ((hmem 3).2 ⟨by decide, q⟩))); simpa [tmPut] using q)), (fun hk => (by have q := LitAt.keep hx (by simp) (h.b8 (fun q => hk ((hmem 8).2 ⟨by decide, q⟩))); simpa [tmPut] using q)), (fun hk => (by have q := LitAt.keep hx (by simp) (h.b13 (fun q => hk ((hmem 13).2 ⟨by decide, q⟩))); simpa [tmPut] using q))⟩⟩
    · have e5 := h.t1.t5
      have hx : Chg [] σ σ := Chg.refl
      refine ActStep.walk rfl rfl ?_
      refine OpsL.p (by subst_vars; decide) (aop_fieldAddr (v := .pointer (some ⟨X.A, 0 + 5, none⟩)) (by (first | (simp only [ASt.ev, tmPut, ↓reduceIte, Nat.reduceEqDiff, *]; rfl))) (by exact rfl)) ?_
      refine OpsL.nil ⟨trivial, _, σ, rfl, ⟨(h.old.keep hx (by simp)), ((by have q := h.a.keep hx (by simp); simpa [mObj, hmem, tmPut] using q)), (h.b.keep hx (by simp)), ((by obtain ⟨cs, q1, q2⟩ := h.r; exact ⟨cs, q1, q2.keep hx (by simp)⟩)), (h.n.keep hx (by simp)), (h.of.keep hx (by simp)), (h.en.keep hx (by simp)), (h.tb.keep hx (by simp) (fun _ _ => by simp)), (h.fi.keep hx (by simp)), ⟨by simpa [tmPut] using h.t1.t4, by simpa [tmPut] using h.t1.t5, by simpa [tmPut] using h.t1.t6, by simpa [tmPut] using h.t1.t7, by simpa [tmPut] using h.t1.t8, by simpa [tmPut] using h.t1.t9⟩, (by simpa [tmPut] using h.t13), (by simpa [tmPut] using h.t202), (by simpa [tmPut] using h.t203), (by simpa [tmPut] using h.t207), (by simpa [tmPut] using h.t208), (by simpa [tmPut] using h.t212), (by simpa [tmPut] using h.t213), (fun _ => by simp [tmPut, h.t1.t5]), (fun hk => by have q := h.t217 (fun q => hk ((hmem 17).2 ⟨by decide, q⟩)); simpa [tmPut] using q), (fun hk => by have q := h.t218 (fun q => hk ((hmem 19).2 ⟨by decide, q⟩)); simpa [tmPut] using q), (fun q => (hmem 16).2 ⟨by decide, h.cA ((hmem 4).1 q).2⟩), (fun q => (hmem 16).2 ⟨by decide, h.cB ((hmem 14).1 q).2⟩), (fun q => (hmem 18).2 ⟨by decide, h.cC ((hmem 9).1 q).2⟩), (fun q => (hmem 18).2 ⟨by decide, h.cD ((hmem 16).1 q).2⟩), (fun q => (hmem 20).2 ⟨by decide, h.cE ((hmem 18).1 q).2⟩), (RowI.keepL hx (by simp) h.rin), (RowI.keepL hx (by simp) h.rlow), (Row2.keepL hx (by simp) (fun _ _ => by simp) h.rret), (fun hk => Row2.keepL hx (by simp) (fun jj hjj => by simp) (h.i0 (by have := hk; simp only [hmem] at this; exact this.2))), (fun hk => (by have q := Row2.keepL hx (by simp) (fun jj hjj => by simp) (h.i1 (fun q => hk ((hmem 4).2 ⟨by decide, q⟩))); simpa [tmPut] using q)), (fun hk => Row2.keepL hx (by simp) (fun jj hjj => by simp) (h.l0 (by have := hk; simp only [hmem] at this; exact this.2))), (fun hk => (by have q := Row2.keepL hx (by simp) (fun jj hjj => by simp) (h.l1 (fun q => hk ((hmem 9).2 ⟨by decide, q⟩))); simpa [tmPut] using q)), (fun hk => Row3.keepL hx (by simp) (fun jj hjj => by simp) (fun jj j2 hjj => by simp) (h.r0 (by have := hk; simp only [hmem] at this; exact this.2))), (fun hk => (by have q := Row3.keepL hx (by simp) (fun jj hjj => by simp) (fun jj j2 hjj => by simp) (h.r1 (fun q => hk ((hmem 14).2 ⟨by decide, q⟩))); simpa [tmPut] using q)), (fun hk => (by have q := LitAt.keep hx (by simp) (h.b3 (fun q => hk ((hmem 3).2 ⟨by decide, q⟩))); simpa [tmPut] using q)), (fun hk => (by have q := LitAt.keep hx (by simp) (h.b8 (fun q => hk ((hmem 8).2 ⟨by decide, q⟩))); simpa [tmPut] using q)), (fun hk => (by have q := LitAt.keep hx (by simp) (h.b13 (fun q => hk ((hmem 13).2 ⟨by decide, q⟩))); simpa [tmPut] using q))⟩⟩
    · have hown := h.i1 (hdep 4 (by kernel_rfl) (by decide))
      obtain ⟨vsl, hsl⟩ : ∃ x : SV, tm 205 = slV x := by
        obtain ⟨vs, q1, q2⟩ := hown
        obtain ⟨a, kk, q3⟩ := OwnC.slice encS_len q1
        exact ⟨(a, _, kk), q3⟩
      have e1 := h.t216 (hdep 15 (by kernel_rfl) (by decide))
      have ha := h.a
      rw [if_pos hj, if_pos (h.cD hj), if_pos (h.cE (h.cD hj))] at ha
      refine ActStep.walk rfl rfl ?_
      refine OpsL.setC (k := 5) (v := slV vsl) (cs' := moC X.pl X.cl ⟨V.o, V.e, V.f, slV vsl, V.l, V.r⟩) ha (by simp [moC]) rfl (by exact rfl) rfl rfl (by (first | (simp only [ASt.ev, tmPut, ↓reduceIte, Nat.reduceEqDiff, *]; done))) (by (first | (simp only [ASt.ev, tmPut, ↓reduceIte, Nat.reduceEqDiff, *]; done))) rfl ?_
      rintro τ ha7 hx -
      refine OpsL.nil ⟨trivial, _, τ, rfl, ⟨(h.old.keep hx (by simp)), ((by have q := ha7; have m0 := h.cD hj; have m1 := h.cE (h.cD hj); simpa [mObj, hmem, tmPut, hsl, m0, m1] using q)), (h.b.keep hx (by simp)), ((by obtain ⟨cs, q1, q2⟩ := h.r; exact ⟨cs, q1, q2.keep hx (by simp)⟩)), (h.n.keep hx (by simp)), (h.of.keep hx (by simp)), (h.en.keep hx (by simp)), (h.tb.keep hx (by simp) (fun _ _ => by simp)), (h.fi.keep hx (by simp)), ⟨by simpa [tmPut] using h.t1.t4, by simpa [tmPut] using h.t1.t5, by simpa [tmPut] using h.t1.t6, by simpa [tmPut] using h.t1.t7, by simpa [tmPut] using h.t1.t8, by simpa [tmPut] using h.t1.t9⟩, (by simpa [tmPut] using h.t13), (by simpa [tmPut] using h.t202), (by simpa [tmPut] using h.t203), (by simpa [tmPut] using h.t207), (by simpa [tmPut] using h.t208), (by simpa [tmPut] using h.t212), (by simpa [tmPut] using h.t213), (fun hk => by have q := h.t216 (fun q => hk ((hmem 15).2 ⟨by decide, q⟩)); simpa [tmPut] using q), (fun hk => by have q := h.t217 (fun q => hk ((hmem 17).2 ⟨by decide, q⟩)); simpa [tmPut] using q), (fun hk => by have q := h.t218 (fun q => hk ((hmem 19).2 ⟨by decide, q⟩)); simpa [tmPut] using q), (fun q => absurd ((hmem 4).1 q).2 (hdep 4 (by kernel_rfl) (by decide))), (fun q => absurd ((hmem 14).1 q).2 (hdep 14 (by kernel_rfl) (by decide))), (fun q => (hmem 18).2 ⟨by decide, h.cC ((hmem 9).1 q).2⟩), (fun q => (hmem 18).2 ⟨by decide, h.cD ((hmem 16).1 q).2⟩), (fun q => (hmem 20).2 ⟨by decide, h.cE ((hmem 18).1 q).2⟩), (RowI.keepL hx (by simp) h.rin), (RowI.keepL hx (by simp) h.rlow), (Row2.keepL hx (by simp) (fun _ _ => by simp) h.rret), (fun hk => Row2.keepL hx (by simp) (fun jj hjj => by simp) (h.i0 (by have := hk; simp only [hmem] at this; exact this.2))), (fun hk => (by have q := Row2.keepL hx (by simp) (fun jj hjj => by simp) (h.i1 (fun q => hk ((hmem 4).2 ⟨by decide, q⟩))); simpa [tmPut] using q)), (fun hk => Row2.keepL hx (by simp) (fun jj hjj => by simp) (h.l0 (by have := hk; simp only [hmem] at this; exact this.2))), (fun hk => (by have q := Row2.keepL hx (by simp) (fun jj hjj => by simp) (h.l1 (fun q => hk ((hmem 9).2 ⟨by decide, q⟩))); simpa [tmPut] using q)), (fun hk => Row3.keepL hx (by simp) (fun jj hjj => by simp) (fun jj j2 hjj => by simp) (h.r0 (by have := hk; simp only [hmem] at this; exact this.2))), (fun hk => (by have q := Row3.keepL hx (by simp) (fun jj hjj => by simp) (fun jj j2 hjj => by simp) (h.r1 (fun q => hk ((hmem 14).2 ⟨by decide, q⟩))); simpa [tmPut] using q)), (fun hk => (by have q := LitAt.keep hx (by simp) (h.b3 (fun q => hk ((hmem 3).2 ⟨by decide, q⟩))); simpa [tmPut] using q)), (fun hk => (by have q := LitAt.keep hx (by simp) (h.b8 (fun q => hk ((hmem 8).2 ⟨by decide, q⟩))); simpa [tmPut] using q)), (fun hk => (by have q := LitAt.keep hx (by simp) (h.b13 (fun q => hk ((hmem 13).2 ⟨by decide, q⟩))); simpa [tmPut] using q))⟩⟩
    · have e5 := h.t1.t5
      have hx : Chg [] σ σ := Chg.refl
      refine ActStep.walk rfl rfl ?_
      refine OpsL.p (by subst_vars; decide) (aop_fieldAddr (v := .pointer (some ⟨X.A, 0 + 6, none⟩)) (by (first | (simp only [ASt.ev, tmPut, ↓reduceIte, Nat.reduceEqDiff, *]; rfl))) (by exact rfl)) ?_
      refine OpsL.nil ⟨trivial, _, σ, rfl, ⟨(h.old.keep hx (by simp)), ((by have q := h.a.keep hx (by simp); simpa [mObj, hmem, tmPut] using q)), (h.b.keep hx (by simp)), ((by obtain ⟨cs, q1, q2⟩ := h.r; exact ⟨cs, q1, q2.keep hx (by simp)⟩)), (h.n.keep hx (by simp)), (h.of.keep hx (by simp)), (h.en.keep hx (by simp)), (h.tb.keep hx (by simp) (fun _ _ => by simp)), (h.fi.keep hx (by simp)), ⟨by simpa [tmPut] using h.t1.t4, by simpa [tmPut] using h.t1.t5, by simpa [tmPut] using h.t1.t6, by simpa [tmPut] using h.t1.t7, by simpa [tmPut] using h.t1.t8, by simpa [tmPut] using h.t1.t9⟩, (by simpa [tmPut] using h.t13), (by simpa [tmPut] using h.t202), (by simpa [tmPut] using h.t203), (by simpa [tmPut] using h.t207), (by simpa [tmPut] using h.t208), (by simpa [tmPut] using h.t212), (by simpa [tmPut] using h.t213), (fun hk => by have q := h.t216 (fun q => hk ((hmem 15).2 ⟨by decide, q⟩)); simpa [tmPut] using q), (fun _ => by simp [tmPut, h.t1.t5]), (fun hk => by have q := h.t218 (fun q => hk ((hmem 19).2 ⟨by decide, q⟩)); simpa [tmPut] using q), (fun q => (hmem 16).2 ⟨by decide, h.cA ((hmem 4).1 q).2⟩), (fun q => (hmem 16).2 ⟨by decide, h.cB ((hmem 14).1 q).2⟩), (fun q => (hmem 18).2 ⟨by decide, h.cC ((hmem 9).1 q).2⟩), (fun q => (hmem 18).2 ⟨by decide, h.cD ((hmem 16).1 q).2⟩), (fun q => (hmem 20).2 ⟨by decide, h.cE ((hmem 18).1 q).2⟩), (RowI.keepL hx (by simp) h.rin), (RowI.keepL hx (by simp) h.rlow), (Row2.keepL hx (by simp) (fun _ _ => by simp) h.rret), (fun hk => Row2.keepL hx (by simp) (fun jj hjj => by simp) (h.i0 (by have := hk; simp only [hmem] at this; exact this.2))), (fun hk => (by have q := Row2.keepL hx (by simp) (fun jj hjj => by simp) (h.i1 (fun q => hk ((hmem 4).2 ⟨by decide, q⟩))); simpa [tmPut] using q)), (fun hk => Row2.keepL hx (by simp) (fun jj hjj => by simp) (h.l0 (by have := hk; simp only [hmem] at this; exact this.2))), (fun hk => (by have q := Row2.keepL hx (by simp) (fun jj hjj => by simp) (h.l1 (fun q => hk ((hmem 9).2 ⟨by decide, q⟩))); simpa [tmPut] using q)), (fun hk => Row3.keepL hx (by simp) (fun jj hjj => by simp) (fun jj j2 hjj => by simp) (h.r0 (by have := hk; simp only [hmem] at this; exact this.2))), (fun hk => (by have q := Row3.keepL hx (by simp) (fun jj hjj => by simp) (fun jj j2 hjj => by simp) (h.r1 (fun q => hk ((hmem 14).2 ⟨by decide, q⟩))); simpa [tmPut] using q)), (fun hk => (by have q := LitAt.keep hx (by simp) (h.b3 (fun q => hk ((hmem 3).2 ⟨by decide, q⟩))); simpa [tmPut] using q)), (fun hk => (by have q := LitAt.keep hx (by simp) (h.b8 (fun q => hk ((hmem 8).2 ⟨by decide, q⟩))); simpa [tmPut] using q)), (fun hk => (by have q := LitAt.keep hx (by simp) (h.b13 (fun q => hk ((hmem 13).2 ⟨by decide, q⟩))); simpa [tmPut] using q))⟩⟩
    · have hown := h.l1 (hdep 9 (by kernel_rfl) (by decide))
      obtain ⟨vsl, hsl⟩ : ∃ x : SV, tm 210 = slV x := by
        obtain ⟨vs, q1, q2⟩ := hown
        obtain ⟨a, kk, q3⟩ := OwnC.slice encS_len q1
        exact ⟨(a, _, kk), q3⟩
      have e1 := h.t217 (hdep 17 (by kernel_rfl) (by decide))
      have ha := h.a
      rw [if_neg (hdep 16 (by kernel_rfl) (by decide)), if_pos hj, if_pos (h.cE hj)] at ha
      refine ActStep.walk rfl rfl ?_
      refine OpsL.setC (k := 6) (v := slV vsl) (cs' := moC X.pl X.cl ⟨V.o, V.e, V.f, tm 205, slV vsl, V.r⟩) ha (by simp [moC]) rfl (by exact rfl) rfl rfl (by (first | (simp only [ASt.ev, tmPut, ↓reduceIte, Nat.reduceEqDiff, *]; done))) (by (first | (simp only [ASt.ev, tmPut, ↓reduceIte, Nat.reduceEqDiff, *]; done))) rfl ?_
      rintro τ ha7 hx -
      refine OpsL.nil ⟨trivial, _, τ, rfl, ⟨(h.old.keep hx (by simp)), ((by have q := ha7; have m0 := h.cE hj; have m1 := hdep 16 (by kernel_rfl) (by decide); simpa [mObj, hmem, tmPut, hsl, m0, m1] using q)), (h.b.keep hx (by simp)), ((by obtain ⟨cs, q1, q2⟩ := h.r; exact ⟨cs, q1, q2.keep hx (by simp)⟩)), (h.n.keep hx (by simp)), (h.of.keep hx (by simp)), (h.en.keep hx (by simp)), (h.tb.keep hx (by simp) (fun _ _ => by simp)), (h.fi.keep hx (by simp)), ⟨by simpa [tmPut] using h.t1.t4, by simpa [tmPut] using h.t1.t5, by simpa [tmPut] using h.t1.t6, by simpa [tmPut] using h.t1.t7, by simpa [tmPut] using h.t1.t8, by simpa [tmPut] using h.t1.t9⟩, (by simpa [tmPut] using h.t13), (by simpa [tmPut] using h.t202), (by simpa [tmPut] using h.t203), (by simpa [tmPut] using h.t207), (by simpa [tmPut] using h.t208), (by simpa [tmPut] using h.t212), (by simpa [tmPut] using h.t213), (fun hk => by have q := h.t216 (fun q => hk ((hmem 15).2 ⟨by decide, q⟩)); simpa [tmPut] using q), (fun hk => by have q := h.t217 (fun q => hk ((hmem 17).2 ⟨by decide, q⟩)); simpa [tmPut] using q), (fun hk => by have q := h.t218 (fun q => hk ((hmem 19).2 ⟨by decide, q⟩)); simpa [tmPut] using q), (fun q => (hmem 16).2 ⟨by decide, h.cA ((hmem 4).1 q).2⟩), (fun q => (hmem 16).2 ⟨by decide, h.cB ((hmem 14).1 q).2⟩), (fun q => absurd ((hmem 9).1 q).2 (hdep 9 (by kernel_rfl) (by decide))), (fun q => absurd ((hmem 16).1 q).2 (hdep 16 (by kernel_rfl) (by decide))), (fun q => (hmem 20).2 ⟨by decide, h.cE ((hmem 18).1 q).2⟩), (RowI.keepL hx (by simp) h.rin), (RowI.keepL hx (by simp) h.rlow), (Row2.keepL hx (by simp) (fun _ _ => by simp) h.rret), (fun hk => Row2.keepL hx (by simp) (fun jj hjj => by simp) (h.i0 (by have := hk; simp only [hmem] at this; exact this.2))), (fun hk => (by have q := Row2.keepL hx (by simp) (fun jj hjj => by simp) (h.i1 (fun q => hk ((hmem 4).2 ⟨by decide, q⟩))); simpa [tmPut] using q)), (fun hk => Row2.keepL hx (by simp) (fun jj hjj => by simp) (h.l0 (by have := hk; simp only [hmem] at this; exact this.2))), (fun hk => (by have q := Row2.keepL hx (by simp) (fun jj hjj => by simp) (h.l1 (fun q => hk ((hmem 9).2 ⟨by decide, q⟩))); simpa [tmPut] using q)), (fun hk => Row3.keepL hx (by simp) (fun jj hjj => by simp) (fun jj j2 hjj => by simp) (h.r0 (by have := hk; simp only [hmem] at this; exact this.2))), (fun hk => (by have q := Row3.keepL hx (by simp) (fun jj hjj => by simp) (fun jj j2 hjj => by simp) (h.r1 (fun q => hk ((hmem 14).2 ⟨by decide, q⟩))); simpa [tmPut] using q)), (fun hk => (by have q := LitAt.keep hx (by simp) (h.b3 (fun q => hk ((hmem 3).2 ⟨by decide, q⟩))); simpa [tmPut] using q)), (fun hk => (by have q := LitAt.keep hx (by simp) (h.b8 (fun q => hk ((hmem 8).2 ⟨by decide, q⟩))); simpa [tmPut] using q)), (fun hk => (by have q := LitAt.keep hx (by simp) (h.b13 (fun q => hk ((hmem 13).2 ⟨by decide, q⟩))); simpa [tmPut] using q))⟩⟩
    · have e5 := h.t1.t5
      have hx : Chg [] σ σ := Chg.refl
      refine ActStep.walk rfl rfl ?_
      refine OpsL.p (by subst_vars; decide) (aop_fieldAddr (v := .pointer (some ⟨X.A, 0 + 7, none⟩)) (by (first | (simp only [ASt.ev, tmPut, ↓reduceIte, Nat.reduceEqDiff, *]; rfl))) (by exact rfl)) ?_
      refine OpsL.nil ⟨trivial, _, σ, rfl, ⟨(h.old.keep hx (by simp)), ((by have q := h.a.keep hx (by simp); simpa [mObj, hmem, tmPut] using q)), (h.b.keep hx (by simp)), ((by obtain ⟨cs, q1, q2⟩ := h.r; exact ⟨cs, q1, q2.keep hx (by simp)⟩)), (h.n.keep hx (by simp)), (h.of.keep hx (by simp)), (h.en.keep hx (by simp)), (h.tb.keep hx (by simp) (fun _ _ => by simp)), (h.fi.keep hx (by simp)), ⟨by simpa [tmPut] using h.t1.t4, by simpa [tmPut] using h.t1.t5, by simpa [tmPut] using h.t1.t6, by simpa [tmPut] using h.t1.t7, by simpa [tmPut] using h.t1.t8, by simpa [tmPut] using h.t1.t9⟩, (by simpa [tmPut] using h.t13), (by simpa [tmPut] using h.t202), (by simpa [tmPut] using h.t203), (by simpa [tmPut] using h.t207), (by simpa [tmPut] using h.t208), (by simpa [tmPut] using h.t212), (by simpa [tmPut] using h.t213), (fun hk => by have q := h.t216 (fun q => hk ((hmem 15).2 ⟨by decide, q⟩)); simpa [tmPut] using q), (fun hk => by have q := h.t217 (fun q => hk ((hmem 17).2 ⟨by decide, q⟩)); simpa [tmPut] using q), (fun _ => by simp [tmPut, h.t1.t5]), (fun q => (hmem 16).2 ⟨by decide, h.cA ((hmem 4).1 q).2⟩), (fun q => (hmem 16).2 ⟨by decide, h.cB ((hmem 14).1 q).2⟩), (fun q => (hmem 18).2 ⟨by decide, h.cC ((hmem 9).1 q).2⟩), (fun q => (hmem 18).2 ⟨by decide, h.cD ((hmem 16).1 q).2⟩), (fun q => (hmem 20).2 ⟨by decide, h.cE ((hmem 18).1 q).2⟩), (RowI.keepL hx (by simp) h.rin), (RowI.keepL hx (by simp) h.rlow), (Row2.keepL hx (by simp) (fun _ _ => by simp) h.rret), (fun hk => Row2.keepL hx (by simp) (fun jj hjj => by simp) (h.i0 (by have := hk; simp only [hmem] at this; exact this.2))), (fun hk => (by have q := Row2.keepL hx (by simp) (fun jj hjj => by simp) (h.i1 (fun q => hk ((hmem 4).2 ⟨by decide, q⟩))); simpa [tmPut] using q)), (fun hk => Row2.keepL hx (by simp) (fun jj hjj => by simp) (h.l0 (by have := hk; simp only [hmem] at this; exact this.2))), (fun hk => (by have q := Row2.keepL hx (by simp) (fun jj hjj => by simp) (h.l1 (fun q => hk ((hmem 9).2 ⟨by decide, q⟩))); simpa [tmPut] using q)), (fun hk => Row3.keepL hx (by simp) (fun jj hjj => by simp) (fun jj j2 hjj => by simp) (h.r0 (by have := hk; simp only [hmem] at this; exact this.2))), (fun hk => (by have q := Row3.keepL hx (by simp) (fun jj hjj => by simp) (fun jj j2 hjj => by simp) (h.r1 (fun q => hk ((hmem 14).2 ⟨by decide, q⟩))); simpa [tmPut] using q)), (fun hk => (by have q := LitAt.keep hx (by simp) (h.b3 (fun q => hk ((hmem 3).2 ⟨by decide, q⟩))); simpa [tmPut] using q)), (fun hk => (by have q := LitAt.keep hx (by simp) (h.b8 (fun q => hk ((hmem 8).2 ⟨by decide, q⟩))); simpa [tmPut] using q)), (fun hk => (by have q := LitAt.keep hx (by simp) (h.b13 (fun q => hk ((hmem 13).2 ⟨by decide, q⟩))); simpa [tmPut] using q))⟩⟩
    · have hown := h.r1 (hdep 14 (by kernel_rfl) (by decide))
      obtain ⟨vsl, hsl⟩ : ∃ x : SV, tm 215 = slV x := by
        obtain ⟨vs, q1, q2⟩ := hown
        obtain ⟨a, kk, q3⟩ := OwnC.slice encS_len q1
        exact ⟨(a, _, kk), q3⟩
      have e1 := h.t218 (hdep 19 (by kernel_rfl) (by decide))
      have ha := h.a
      rw [if_neg (fun q => (hdep 18 (by kernel_rfl) (by decide)) (h.cD q)), if_neg (hdep 18 (by kernel_rfl) (by decide)), if_pos hj] at ha
      refine ActStep.walk rfl rfl ?_
      refine OpsL.setC (k := 7) (v := slV vsl) (cs' := moC X.pl X.cl ⟨V.o, V.e, V.f, tm 205, tm 210, slV vsl⟩) ha (by simp [moC]) rfl (by exact rfl) rfl rfl (by (first | (simp only [ASt.ev, tmPut, ↓reduceIte, Nat.reduceEqDiff, *]; done))) (by (first | (simp only [ASt.ev, tmPut, ↓reduceIte, Nat.reduceEqDiff, *]; done))) rfl ?_
      rintro τ ha7 hx -
      refine OpsL.nil ⟨trivial, _, τ, rfl, ⟨(h.old.keep hx (by simp)), ((by have q := ha7; have m0 := hdep 18 (by kernel_rfl) (by decide); have m1 : ¬ 16 ∈ l := fun q => (hdep 18 (by kernel_rfl) (by decide)) (h.cD q); simpa [mObj, hmem, tmPut, hsl, m0, m1] using q)), (h.b.keep hx (by simp)), ((by obtain ⟨cs, q1, q2⟩ := h.r; exact ⟨cs, q1, q2.keep hx (by simp)⟩)), (h.n.keep hx (by simp)), (h.of.keep hx (by simp)), (h.en.keep hx (by simp)), (h.tb.keep hx (by simp) (fun _ _ => by simp)), (h.fi.keep hx (by simp)), ⟨by simpa [tmPut] using h.t1.t4, by simpa [tmPut] using h.t1.t5, by simpa [tmPut] using h.t1.t6, by simpa [tmPut] using h.t1.t7, by simpa [tmPut] using h.t1.t8, by simpa [tmPut] using h.t1.t9⟩, (by simpa [tmPut] using h.t13), (by simpa [tmPut] using h.t202), (by simpa [tmPut] using h.t203), (by simpa [tmPut] using h.t207), (by simpa [tmPut] using h.t208), (by simpa [tmPut] using h.t212), (by simpa [tmPut] using h.t213), (fun hk => by have q := h.t216 (fun q => hk ((hmem 15).2 ⟨by decide, q⟩)); simpa [tmPut] using q), (fun hk => by have q := h.t217 (fun q => hk ((hmem 17).2 ⟨by decide, q⟩)); simpa [tmPut] using q), (fun hk => by have q := h.t218 (fun q => hk ((hmem 19).2 ⟨by decide, q⟩)); simpa [tmPut] using q), (fun q => (hmem 16).2 ⟨by decide, h.cA ((hmem 4).1 q).2⟩), (fun q => (hmem 16).2 ⟨by decide, h.cB ((hmem 14).1 q).2⟩), (fun q => (hmem 18).2 ⟨by decide, h.cC ((hmem 9).1 q).2⟩), (fun q => (hmem 18).2 ⟨by decide, h.cD ((hmem 16).1 q).2⟩), (fun q => absurd ((hmem 18).1 q).2 (hdep 18 (by kernel_rfl) (by decide))), (RowI.keepL hx (by simp) h.rin), (RowI.keepL hx (by simp) h.rlow), (Row2.keepL hx (by simp) (fun _ _ => by simp) h.rret), (fun hk => Row2.keepL hx (by simp) (fun jj hjj => by simp) (h.i0 (by have := hk; simp only [hmem] at this; exact this.2))), (fun hk => (by have q := Row2.keepL hx (by simp) (fun jj hjj => by simp) (h.i1 (fun q => hk ((hmem 4).2 ⟨by decide, q⟩))); simpa [tmPut] using q)), (fun hk => Row2.keepL hx (by simp) (fun jj hjj => by simp) (h.l0 (by have := hk; simp only [hmem] at this; exact this.2))), (fun hk => (by have q := Row2.keepL hx (by simp) (fun jj hjj => by simp) (h.l1 (fun q => hk ((hmem 9).2 ⟨by decide, q⟩))); simpa [tmPut] using q)), (fun hk => Row3.keepL hx (by simp) (fun jj hjj => by simp) (fun jj j2 hjj => by simp) (h.r0 (by have := hk; simp only [hmem] at this; exact this.2))), (fun hk => (by have q := Row3.keepL hx (by simp) (fun jj hjj => by simp) (fun jj j2 hjj => by simp) (h.r1 (fun q => hk ((hmem 14).2 ⟨by decide, q⟩))); simpa [tmPut] using q)), (fun hk => (by have q := LitAt.keep hx (by simp) (h.b3 (fun q => hk ((hmem 3).2 ⟨by decide, q⟩))); simpa [tmPut] using q)), (fun hk => (by have q := LitAt.keep hx (by simp) (h.b8 (fun q => hk ((hmem 8).2 ⟨by decide, q⟩))); simpa [tmPut] using q)), (fun hk => (by have q := LitAt.keep hx (by simp) (h.b13 (fun q => hk ((hmem 13).2 ⟨by decide, q⟩))); simpa [tmPut] using q))⟩⟩
  · rintro st ⟨tm, σ, rfl, h⟩
    have ha := h.a
    rw [if_neg (by simp), if_neg (by simp), if_neg (by simp)] at ha
    exact hQ tm σ ⟨V.o, V.e, V.f, tm 205, tm 210, tm 215⟩ h.t1 h.t13 ⟨h.old, ha, h.b, h.r, h.n, h.of, h.en, h.tb, h.fi, h.i1 (by simp), h.l1 (by simp), h.r1 (by simp)⟩
  · rw [hvi] at hin h15
    rw [hvl] at hlow h16
    rw [hvr] at hret h17
    exact ⟨_, σ, rfl, ⟨h.old, (by have ha := h.a; simpa using ha), h.b, h.r, h.n, h.of, h.en, h.tb, h.fi, ⟨by simp [tmPut, *], by simp [tmPut, *], by simp [tmPut, *], by simp [tmPut, *], by simp [tmPut, *], by simp [tmPut, *]⟩, by simp [tmPut, *], by simp [tmPut, *], by simp [tmPut, slV, *], by simp [tmPut, *], by simp [tmPut, slV, *], by simp [tmPut, *], by simp [tmPut, slV, *], fun q => absurd q (by simp), fun q => absurd q (by simp), fun q => absurd q (by simp), by simp, by simp, by simp, by simp, by simp, hin, hlow, hret, fun _ => h.inn, fun q => absurd q (by simp), fun _ => h.low, fun q => absurd q (by simp), fun _ => h.ret, fun q => absurd q (by simp), fun q => absurd q (by simp), fun q => absurd q (by simp), fun q => absurd q (by simp)⟩⟩
end Go.Proofs.Ytooakbmehcchnaa
namespace Go.Am
open Go.RowKit
def d3 (ns : List Int) (q : MkP) (p : Nat) : MkD :=
  ⟨cntF (l1F ns q.k q.n).2.1 q.pl q.cl q.n ((l1F ns q.k q.n).1 + q.k) p, (l1F ns q.k q.n).2.1, drawRow ns (fun c => tabF (l1F ns q.k q.n).2.1 c) (l1F ns q.k q.n).1 q.k, (List.range q.k).map fun (c : Nat) => tabF (l1F ns q.k q.n).2.1 (c : Int), (l1F ns q.k q.n).2.2,
    (List.range p).map (innD ns q (l1F ns q.k q.n).2.1 ((l1F ns q.k q.n).1 + q.k)), (List.range p).map (lowD ns q (l1F ns q.k q.n).2.1 ((l1F ns q.k q.n).1 + q.k)), (List.range p).map (retD ns q (l1F ns q.k q.n).2.1 ((l1F ns q.k q.n).1 + q.k))⟩
theorem d2_d3 (ns : List Int) (q : MkP) : d2 ns q q.k = d3 ns q 0 := by simp [d2, d3, cntF]
theorem d3_succ (ns : List Int) (q : MkP) (p : Nat) {o : List Int} {c3 c2 : Nat} {c : Int} (ho : (l1F ns q.k q.n).2.1 = o) (h2 : (l1F ns q.k q.n).1 + q.k = c2) (h3 : cntF o q.pl q.cl q.n c2 p = c3) (hc : o.getD p 0 = c) :
    { d3 ns q p with cnt := c3 + q.pl + (if c = 0 then q.cl else 0) + (if c = 0 then 0 else q.cl) * q.n, I := (d3 ns q p).I ++ [drawRow ns (fun _ => tabF o c) c3 q.pl], W := (d3 ns q p).W ++ [drawRow ns (fun _ => tabF o c) (c3 + q.pl) (if c = 0 then q.cl else 0)], R := (d3 ns q p).R ++ [(List.range (if c = 0 then 0 else q.cl)).map (retR ns q o (c3 + q.pl + (if c = 0 then q.cl else 0)))] } = d3 ns q (p + 1) := by
  subst ho h2 h3 hc
  unfold d3
  simp only [List.range_succ, List.map_append, List.map_singleton, cntF, innD, lowD, retD, MkD.mk.injEq, true_and, and_true]
  split
  · simp
  · simp [drawRow]
end Go.Am
namespace Go.Proofs.Ytooakbmehcchnaa
open Go.Am Go.RowKit
attribute [local irreducible] aop OpsL Trip blockExit OpsD OpsK OpsR OpsQ
theorem mkL3 (W0 : World) {σ0 σ : CH} {X : MkX} {q : MkP} {V : MoV} {tm : Nat → Value} {n : Nat} (hq : q.ok) (hn0 : n = 220) (hpl : X.pl = q.pl) (hcl : X.cl = q.cl) (ht : T1 tm X q) (h13 : tm 13 = .int .i64 0) (h : MkS σ0 σ X (d3 X.ns q 0) V) {Q : AExit → ASt → Prop}
    (hQ : ∀ tm' σ' V', T1 tm' X q → MkS σ0 σ' X (d3 X.ns q q.n) V' → Q .normal ⟨tm', n, σ'.H, σ'.nx⟩) : Trip Try.prog W0 (subC [1, 1, 1, 1, 1, 1, 1, 1, 1, 0, 1] (bodyMk Try.f21)) ⟨tm, n, σ.H, σ.nx⟩ Q := by
  obtain ⟨z1, z2, z3, z4, z5, z6⟩ := hq
  have hq : q.ok := ⟨z1, z2, z3, z4, z5, z6⟩
  refine Trip.block ?_
  refine Trip.inv (fun (p : Nat) s => ∃ tm σ V, s = ⟨tm, n, σ.H, σ.nx⟩ ∧ T1 tm X q ∧ tm 13 = .int .i64 p ∧ p ≤ q.n ∧ MkS σ0 σ X (d3 X.ns q p) V) (fun p => q.n - p) 0 ?_ ?_
  · exact ⟨tm, σ, V, rfl, ht, h13, by omega, h⟩
  clear h ht h13
  rintro p s ⟨tm, σ, V, rfl, ⟨t4, t5, t6, t7, t8, t9⟩, t13, hi, h⟩
  obtain ⟨hl1, hl2, hl3⟩ := l1F_len X.ns q.k q.n
  have hof := l1F_get X.ns (show 0 < q.k by omega) q.n
  have hne : ∀ c : Int, 0 ≤ c → c < q.k → tabF (l1F X.ns q.k q.n).2.1 c ≠ [] := fun c h0 h1 => makeQ_tab (ns := X.ns) hq c h0 h1
  repeat (first | (refine OpsL.q (by first | exact omv | exact olss) ?_) | (refine Trip.seq ?_) | (refine Trip.ops ?_) | (refine Trip.block ?_) | (refine Trip.itA (fun _ => ?_) (fun _ => ?_)) | (refine Trip.skip ?_; (change Trip _ _ _ _ _)) | (refine OpsL.nil ?_; (change Trip _ _ _ _ _)))
  · have hlt : p < q.n := by omega
    obtain ⟨o, ho⟩ : ∃ o, (l1F X.ns q.k q.n).2.1 = o := ⟨_, rfl⟩
    obtain ⟨c2, hc2⟩ : ∃ c, (l1F X.ns q.k q.n).1 + q.k = c := ⟨_, rfl⟩
    obtain ⟨c3, hc3⟩ : ∃ c, cntF o q.pl q.cl q.n c2 p = c := ⟨_, rfl⟩
    obtain ⟨c, hc⟩ : ∃ c, o.getD p 0 = c := ⟨_, rfl⟩
    have hD := d3_succ X.ns q p ho hc2 hc3 hc
    obtain ⟨R, hR⟩ : ∃ r, tabF o c = r := ⟨_, rfl⟩
    have hDL : (d3 X.ns q p).L = o := ho
    have hDT : (d3 X.ns q p).T = (List.range q.k).map fun (c : Nat) => tabF o (c : Int) := by rw [← ho]; rfl
    have hDc : (d3 X.ns q p).cnt = c3 := by rw [← hc3, ← ho, ← hc2]; rfl
    have hDI : (d3 X.ns q p).I.length = p := by simp [d3]
    have hDW : (d3 X.ns q p).W.length = p := by simp [d3]
    have hDR : (d3 X.ns q p).R.length = p := by simp [d3]
    have hb3 : c3 ≤ 300 := by
      have := cntF_le o c2 z1 z2 z6 (by omega) p
      omega
    rw [hR] at hD
    generalize d3 X.ns q p = D at *
    rw [ho] at hl1 hof hne
    have hok2 : ∀ x, x < q.n → 0 ≤ o.getD x 0 ∧ o.getD x 0 < q.k := fun x hx => (hof x hx).1
    obtain ⟨hc0, hc1⟩ := hok2 p hlt
    have hne1 := hne _ hc0 hc1
    rw [hc] at hc0 hc1 hne1
    rw [hR] at hne1
    have hRl : R.length ≤ 1000 := by have := tabF_len o c; rw [hR] at this; omega
    clear hl2 hl3 hof ho hc2 hc3
    obtain ⟨bo, hvo, hbo⟩ := h.of.block
    replace hvo : V.o = .slice (some ⟨bo, 0, none⟩) D.L.length D.L.length := hvo
    rw [hDL, hl1] at hvo
    have g2 : cellAt σ.H ⟨X.A, 2, none⟩ V.o := h.a.cell rfl
    rw [hvo] at g2
    have g3 : cellAt σ.H ⟨bo, 0 + p * 1, none⟩ (.int .i64 c) := by
      rw [Nat.zero_add, Nat.mul_one]
      refine hbo.cell ?_
      show (D.L.map (Value.int .i64 ·))[p]? = _
      rw [hDL, List.getElem?_map, List.getElem?_eq_getElem (by omega), ← hc, List.getD_eq_getElem?_getD, List.getElem?_eq_getElem (by omega)]
      rfl
    obtain ⟨vs, bt, ta, tk, htv, hbt, hall, hvc, hrow⟩ := h.tb.row (c := c.toNat) (by rw [hDT]; simp; omega)
    have hTl : D.T.length = q.k := by rw [hDT]; simp
    replace htv : X.tv = .slice (some ⟨bt, 0, none⟩) D.T.length D.T.length := htv
    have hTc : D.T.getD c.toNat [] = R := by rw [hDT, map_range_getD (by omega), Int.toNat_of_nonneg hc0, hR]
    rw [hTc] at hvc hrow
    rw [hTl] at htv
    have t9' := t9
    rw [htv] at t9
    have g4 : cellAt σ.H ⟨bt, 0 + c.toNat * 1, none⟩ (.slice ta R.length tk) := by
      rw [Nat.zero_add, Nat.mul_one]
      exact hbt.cell (by rw [List.getElem?_map, hvc]; rfl)
    clear hall hvc hbt hR hbo
    repeat (first | (refine OpsL.q (by first | exact omv | exact ofa | exact old | exact oixa) ?_))
    (first | (refine OpsL.q (by exact oasg) ?_))
    refine OpsL.nil ?_
    (change Trip _ _ _ _ _)
    refine Trip.seq ?_
    refine Trip.ops ?_
    (first | (refine OpsL.q (by exact oasg) ?_))
    (first | (refine OpsL.q (by exact oasg) ?_))
    refine OpsL.nil ?_
    (change Trip _ _ _ _ _)
    refine Trip.seq ?_
    refine Trip.ops ?_
    (first | (refine OpsL.q (by exact oasg) ?_))
    refine OpsL.nil ?_
    (change Trip _ _ _ _ _)
    refine Trip.seq (Trip.seq ?_)
    refine Trip.ops ?_
    (first | (refine OpsL.q (by exact oasg) ?_))
    refine OpsL.nil ?_
    (change Trip _ _ _ _ _)
    refine mkIn (X := X) (q := q) (D := D) (V := V) (p := p) (c3 := c3) (c := c) (R := R) (lv := .slice ta R.length tk) W0 hq hn0 hpl ⟨by simp [tmPut, *], by simp [tmPut, *], by simp [tmPut, *], by simp [tmPut, *], by simp [tmPut, *], by simp [tmPut, *]⟩ (by simp [tmPut, *]) (by simp [tmPut, *]) (by simp [tmPut, *]) (by simp [tmPut, *]) (by simp [tmPut, *]) (by simp [tmPut, *]) hDI hDc (by omega) hne1 hRl hrow h ?_
    clear t4 t5 t6 t7 t8 t9 t9' t13 g2 g3 g4 h hrow hvo htv
    intro tm σ vi ⟨t4, t5, t6, t7, t8, t9⟩ t13 t14 t15 t16 t17 h hrow hin
    dsimp only
    refine Trip.seq (Trip.seq ?_)
    refine Trip.ops ?_
    (first | (refine OpsL.q (by exact oasg) ?_))
    refine OpsL.nil ?_
    (change Trip _ _ _ _ _)
    refine mkLow (X := X) (q := q) (D := { D with cnt := c3 + q.pl }) (V := V) (p := p) (c3 := c3 + q.pl) (c := c) (R := R) (lv := .slice ta R.length tk) W0 hq hn0 hcl ⟨by simp [tmPut, *], by simp [tmPut, *], by simp [tmPut, *], by simp [tmPut, *], by simp [tmPut, *], by simp [tmPut, *]⟩ (by simp [tmPut, *]) (by simp [tmPut, *]) (vin := vi) (by simp [tmPut, *]) (by simp [tmPut, *]) (by simp [tmPut, *]) (by simp [tmPut, *]) hDI hDW (by show D.L.length = _; rw [hDL, hl1]) hlt (by show D.L.getD p 0 = c; rw [hDL, hc]) rfl (by omega) hne1 hRl hrow hin h ?_
    clear t4 t5 t6 t7 t8 t9 t13 t14 t15 t16 t17 h hrow hin
    intro tm σ vl ⟨t4, t5, t6, t7, t8, t9⟩ t13 t14 t15 t16 t17 h hrow hin hlow
    dsimp only
    refine Trip.seq (Trip.seq ?_)
    refine Trip.ops ?_
    (first | (refine OpsL.q (by exact oasg) ?_))
    refine OpsL.nil ?_
    (change Trip _ _ _ _ _)
    have hlim : (if c = 0 then q.cl else 0) ≤ 2 := by split <;> omega
    refine mkRet (X := X) (q := q) (D := { D with cnt := c3 + q.pl + (if c = 0 then q.cl else 0) }) (V := V) (p := p) (o := o) (c3 := c3 + q.pl + (if c = 0 then q.cl else 0)) (c := c) W0 hq hn0 ⟨by simp [tmPut, *], by simp [tmPut, *], by simp [tmPut, *], by simp [tmPut, *], by simp [tmPut, *], by simp [tmPut, *]⟩ (by simp [tmPut, *]) (vin := vi) (by simp [tmPut, *]) (vlow := vl) (by simp [tmPut, *]) hDI hDW hDR hDL hl1 hDT hok2 hne hin hlow h hlt hc hcl (by simp [tmPut, *]) (by simp [tmPut, *]) rfl (by omega) ?_
    clear t4 t5 t6 t7 t8 t9 t13 t14 t15 t16 t17 h hrow hin hlow
    intro tm σ vr ⟨t4, t5, t6, t7, t8, t9⟩ t13 t15 t16 t17 h hin hlow hret
    dsimp only
    refine mkApp (X := X) (q := q) (D := { D with cnt := c3 + q.pl + (if c = 0 then q.cl else 0) + (if c = 0 then 0 else q.cl) * q.n }) (V := V) (p := p) W0 hn0 ⟨t4, t5, t6, t7, t8, t9⟩ t13 t15 t16 t17 hDI hDW hDR (by omega) hin hlow hret h ?_
    clear t4 t5 t6 t7 t8 t9 t13 t15 t16 t17 h hin hlow hret
    intro tm σ V ⟨t4, t5, t6, t7, t8, t9⟩ t13 h
    dsimp only at h
    rw [hD] at h
    ((repeat (refine blockExit_normal ?_)); change Trip _ _ _ _ _)
    repeat (first | (refine OpsL.q (by first | exact omv | exact oadd | exact oasg) ?_) | (refine Trip.ops ?_) | (refine OpsL.nil ?_; (dsimp only)))
    exact ⟨p + 1, ⟨_, σ, V, rfl, ⟨by simp [tmPut, *], by simp [tmPut, *], by simp [tmPut, *], by simp [tmPut, *], by simp [tmPut, *], by simp [tmPut, *]⟩, by simp [tmPut, *], by omega, h⟩, by omega⟩
  · repeat (first | (refine Trip.exit ?_; ((repeat (refine blockExit_eq ?_)))))
    have hi2 : p = q.n := by omega
    subst hi2
    exact hQ _ σ V ⟨by simp [tmPut, *], by simp [tmPut, *], by simp [tmPut, *], by simp [tmPut, *], by simp [tmPut, *], by simp [tmPut, *]⟩ h
end Go.Proofs.Ytooakbmehcchnaa
