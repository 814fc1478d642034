import Derived.Test.YtjgbcpagfghfnaaQWM24
import Derived.Test.YtjgbcpagfghfnaaQWM16
set_option linter.unusedVariables false
set_option linter.unusedSimpArgs false
namespace Go.Am
open Go.RowKit
def d3 (ns : List Int) (q : MkP) (p : Nat) : MkD :=
  ⟨cntF (l1F ns q.k q.n).2.1 q.pl q.cl q.n ((l1F ns q.k q.n).1 + q.k) p, (l1F ns q.k q.n).2.1, drawRow ns (fun c => tabF (l1F ns q.k q.n).2.1 c) (l1F ns q.k q.n).1 q.k, (List.range q.k).map fun (c : Nat) => tabF (l1F ns q.k q.n).2.1 (c : Int), (l1F ns q.k q.n).2.2,
    (List.range p).map (innD ns q (l1F ns q.k q.n).2.1 ((l1F ns q.k q.n).1 + q.k)), (List.range p).map (lowD ns q (l1F ns q.k q.n).2.1 ((l1F ns q.k q.n).1 + q.k)), (List.range p).map (retD ns q (l1F ns q.k q.n).2.1 ((l1F ns q.k q.n).1 + q.k))⟩
theorem d2_d3 (ns : List Int) (q : MkP) : d2 ns q q.k = d3 ns q 0 := by simp [d2, d3, cntF]
theorem d3_succ (ns : List Int) (q : MkP) (p : Nat) {o : List Int} {c3 c2 : Nat} {c : Int} (ho : (l1F ns q.k q.n).2.1 = o) (h2 : (l1F ns q.k q.n).1 + q.k = c2) (h3 : cntF o q.pl q.cl q.n c2 p = c3) (hc : o.getD p 0 = c) :
    { d3 ns q p with cnt := c3 + q.pl + (if c = 0 then q.cl else 0) + (if c = 0 then 0 else q.cl) * q.n, I := (d3 ns q p).I ++ [drawRow ns (fun _ => tabF o c) c3 q.pl], W := (d3 ns q p).W ++ [drawRow ns (fun _ => tabF o c) (c3 + q.pl) (if c = 0 then q.cl else 0)], R := (d3 ns q p).R ++ [(List.range (if c = 0 then 0 else q.cl)).map (retR ns q o (c3 + q.pl + (if c = 0 then q.cl else 0)))] } = d3 ns q (p + 1) := by
  subst ho h2 h3 hc
  unfold d3
  simp only [List.range_succ, List.map_append, List.map_singleton, cntF, innD, lowD, retD, MkD.mk.injEq, true_and, and_true]
  split
  · simp
  · simp [drawRow]
end Go.Am
namespace Go.Proofs.Ytjgbcpagfghfnaa
open Go.Am Go.RowKit
attribute [local irreducible] aop OpsL Trip blockExit OpsD OpsK OpsR OpsQ
set_option maxRecDepth 20000 in
set_option maxHeartbeats 16000000 in
theorem mkL3 (W0 : World) {σ0 σ : CH} {X : MkX} {q : MkP} {V : MoV} {tm : Nat → Value} {n : Nat} (hq : q.ok) (hn0 : n = 220) (hpl : X.pl = q.pl) (hcl : X.cl = q.cl) (ht : T1 tm X q) (h13 : tm 13 = .int .i64 0) (h : MkS σ0 σ X (d3 X.ns q 0) V) {Q : AExit → ASt → Prop}
    (hQ : ∀ tm' σ' V', T1 tm' X q → MkS σ0 σ' X (d3 X.ns q q.n) V' → Q .normal ⟨tm', n, σ'.H, σ'.nx⟩) : Trip Try.prog W0 (subC [1, 1, 1, 1, 1, 1, 1, 1, 1, 0, 1] (bodyMk Try.f7)) ⟨tm, n, σ.H, σ.nx⟩ Q := by
  obtain ⟨z1, z2, z3, z4, z5, z6⟩ := hq
  have hq : q.ok := ⟨z1, z2, z3, z4, z5, z6⟩
  refine Trip.block ?_
  refine Trip.inv (fun (p : Nat) s => ∃ tm σ V, s = ⟨tm, n, σ.H, σ.nx⟩ ∧ T1 tm X q ∧ tm 13 = .int .i64 p ∧ p ≤ q.n ∧ MkS σ0 σ X (d3 X.ns q p) V) (fun p => q.n - p) 0 ?_ ?_
  · exact ⟨tm, σ, V, rfl, ht, h13, by omega, h⟩
  clear h ht h13
  rintro p s ⟨tm, σ, V, rfl, ⟨t4, t5, t6, t7, t8, t9⟩, t13, hi, h⟩
  obtain ⟨hl1, hl2, hl3⟩ := l1F_len X.ns q.k q.n
  have hof := l1F_get X.ns (show 0 < q.k by omega) q.n
  have hne : ∀ c : Int, 0 ≤ c → c < q.k → tabF (l1F X.ns q.k q.n).2.1 c ≠ [] := fun c h0 h1 => makeQ_tab (ns := X.ns) hq c h0 h1
  repeat (first | (refine OpsL.q (by first | exact omv | exact olss) ?_) | (refine Trip.seq ?_) | (refine Trip.ops ?_) | (refine Trip.block ?_) | (refine Trip.itA (fun _ => ?_) (fun _ => ?_)) | (refine Trip.skip ?_; (change Trip _ _ _ _ _)) | (refine OpsL.nil ?_; (change Trip _ _ _ _ _)))
  · have hlt : p < q.n := by omega
    obtain ⟨o, ho⟩ : ∃ o, (l1F X.ns q.k q.n).2.1 = o := ⟨_, rfl⟩
    obtain ⟨c2, hc2⟩ : ∃ c, (l1F X.ns q.k q.n).1 + q.k = c := ⟨_, rfl⟩
    obtain ⟨c3, hc3⟩ : ∃ c, cntF o q.pl q.cl q.n c2 p = c := ⟨_, rfl⟩
    obtain ⟨c, hc⟩ : ∃ c, o.getD p 0 = c := ⟨_, rfl⟩
    have hD := d3_succ X.ns q p ho hc2 hc3 hc
    obtain ⟨R, hR⟩ : ∃ r, tabF o c = r := ⟨_, rfl⟩
    have hDL : (d3 X.ns q p).L = o := ho
    have hDT : (d3 X.ns q p).T = (List.range q.k).map fun (c : Nat) => tabF o (c : Int) := by rw [← ho]; rfl
    have hDc : (d3 X.ns q p).cnt = c3 := by rw [← hc3, ← ho, ← hc2]; rfl
    have hDI : (d3 X.ns q p).I.length = p := by simp [d3]
    have hDW : (d3 X.ns q p).W.length = p := by simp [d3]
    have hDR : (d3 X.ns q p).R.length = p := by simp [d3]
    have hb3 : c3 ≤ 300 := by
      have := cntF_le o c2 z1 z2 z6 (by omega) p
      omega
    rw [hR] at hD
    generalize d3 X.ns q p = D at *
    rw [ho] at hl1 hof hne
    have hok2 : ∀ x, x < q.n → 0 ≤ o.getD x 0 ∧ o.getD x 0 < q.k := fun x hx => (hof x hx).1
    obtain ⟨hc0, hc1⟩ := hok2 p hlt
    have hne1 := hne _ hc0 hc1
    rw [hc] at hc0 hc1 hne1
    rw [hR] at hne1
    have hRl : R.length ≤ 1000 := by have := tabF_len o c; rw [hR] at this; omega
    clear hl2 hl3 hof ho hc2 hc3
    obtain ⟨bo, hvo, hbo⟩ := h.of.block
    replace hvo : V.o = .slice (some ⟨bo, 0, none⟩) D.L.length D.L.length := hvo
    rw [hDL, hl1] at hvo
    have g2 : cellAt σ.H ⟨X.A, 2, none⟩ V.o := h.a.cell rfl
    rw [hvo] at g2
    have g3 : cellAt σ.H ⟨bo, 0 + p * 1, none⟩ (.int .i64 c) := by
      rw [Nat.zero_add, Nat.mul_one]
      refine hbo.cell ?_
      show (D.L.map (Value.int .i64 ·))[p]? = _
      rw [hDL, List.getElem?_map, List.getElem?_eq_getElem (by omega), ← hc, List.getD_eq_getElem?_getD, List.getElem?_eq_getElem (by omega)]
      rfl
    obtain ⟨vs, bt, ta, tk, htv, hbt, hall, hvc, hrow⟩ := h.tb.row (c := c.toNat) (by rw [hDT]; simp; omega)
    have hTl : D.T.length = q.k := by rw [hDT]; simp
    replace htv : X.tv = .slice (some ⟨bt, 0, none⟩) D.T.length D.T.length := htv
    have hTc : D.T.getD c.toNat [] = R := by rw [hDT, map_range_getD (by omega), Int.toNat_of_nonneg hc0, hR]
    rw [hTc] at hvc hrow
    rw [hTl] at htv
    have t9' := t9
    rw [htv] at t9
    have g4 : cellAt σ.H ⟨bt, 0 + c.toNat * 1, none⟩ (.slice ta R.length tk) := by
      rw [Nat.zero_add, Nat.mul_one]
      exact hbt.cell (by rw [List.getElem?_map, hvc]; rfl)
    clear hall hvc hbt hR hbo
    repeat (first | (refine OpsL.q (by first | exact omv | exact ofa | exact old | exact oixa) ?_))
    (first | (refine OpsL.q (by exact oasg) ?_))
    refine OpsL.nil ?_
    (change Trip _ _ _ _ _)
    refine Trip.seq ?_
    refine Trip.ops ?_
    (first | (refine OpsL.q (by exact oasg) ?_))
    (first | (refine OpsL.q (by exact oasg) ?_))
    refine OpsL.nil ?_
    (change Trip _ _ _ _ _)
    refine Trip.seq ?_
    refine Trip.ops ?_
    (first | (refine OpsL.q (by exact oasg) ?_))
    refine OpsL.nil ?_
    (change Trip _ _ _ _ _)
    refine Trip.seq (Trip.seq ?_)
    refine Trip.ops ?_
    (first | (refine OpsL.q (by exact oasg) ?_))
    refine OpsL.nil ?_
    (change Trip _ _ _ _ _)
    refine mkIn (X := X) (q := q) (D := D) (V := V) (p := p) (c3 := c3) (c := c) (R := R) (lv := .slice ta R.length tk) W0 hq hn0 hpl ⟨by simp [tmPut, *], by simp [tmPut, *], by simp [tmPut, *], by simp [tmPut, *], by simp [tmPut, *], by simp [tmPut, *]⟩ (by simp [tmPut, *]) (by simp [tmPut, *]) (by simp [tmPut, *]) (by simp [tmPut, *]) (by simp [tmPut, *]) (by simp [tmPut, *]) hDI hDc (by omega) hne1 hRl hrow h ?_
    clear t4 t5 t6 t7 t8 t9 t9' t13 g2 g3 g4 h hrow hvo htv
    intro tm σ vi ⟨t4, t5, t6, t7, t8, t9⟩ t13 t14 t15 t16 t17 h hrow hin
    dsimp only
    refine Trip.seq (Trip.seq ?_)
    refine Trip.ops ?_
    (first | (refine OpsL.q (by exact oasg) ?_))
    refine OpsL.nil ?_
    (change Trip _ _ _ _ _)
    refine mkLow (X := X) (q := q) (D := { D with cnt := c3 + q.pl }) (V := V) (p := p) (c3 := c3 + q.pl) (c := c) (R := R) (lv := .slice ta R.length tk) W0 hq hn0 hcl ⟨by simp [tmPut, *], by simp [tmPut, *], by simp [tmPut, *], by simp [tmPut, *], by simp [tmPut, *], by simp [tmPut, *]⟩ (by simp [tmPut, *]) (by simp [tmPut, *]) (vin := vi) (by simp [tmPut, *]) (by simp [tmPut, *]) (by simp [tmPut, *]) (by simp [tmPut, *]) hDI hDW (by show D.L.length = _; rw [hDL, hl1]) hlt (by show D.L.getD p 0 = c; rw [hDL, hc]) rfl (by omega) hne1 hRl hrow hin h ?_
    clear t4 t5 t6 t7 t8 t9 t13 t14 t15 t16 t17 h hrow hin
    intro tm σ vl ⟨t4, t5, t6, t7, t8, t9⟩ t13 t14 t15 t16 t17 h hrow hin hlow
    dsimp only
    refine Trip.seq (Trip.seq ?_)
    refine Trip.ops ?_
    (first | (refine OpsL.q (by exact oasg) ?_))
    refine OpsL.nil ?_
    (change Trip _ _ _ _ _)
    have hlim : (if c = 0 then q.cl else 0) ≤ 2 := by split <;> omega
    refine mkRet (X := X) (q := q) (D := { D with cnt := c3 + q.pl + (if c = 0 then q.cl else 0) }) (V := V) (p := p) (o := o) (c3 := c3 + q.pl + (if c = 0 then q.cl else 0)) (c := c) W0 hq hn0 ⟨by simp [tmPut, *], by simp [tmPut, *], by simp [tmPut, *], by simp [tmPut, *], by simp [tmPut, *], by simp [tmPut, *]⟩ (by simp [tmPut, *]) (vin := vi) (by simp [tmPut, *]) (vlow := vl) (by simp [tmPut, *]) hDI hDW hDR hDL hl1 hDT hok2 hne hin hlow h hlt hc hcl (by simp [tmPut, *]) (by simp [tmPut, *]) rfl (by omega) ?_
    clear t4 t5 t6 t7 t8 t9 t13 t14 t15 t16 t17 h hrow hin hlow
    intro tm σ vr ⟨t4, t5, t6, t7, t8, t9⟩ t13 t15 t16 t17 h hin hlow hret
    dsimp only
    refine mkApp (X := X) (q := q) (D := { D with cnt := c3 + q.pl + (if c = 0 then q.cl else 0) + (if c = 0 then 0 else q.cl) * q.n }) (V := V) (p := p) W0 hn0 ⟨t4, t5, t6, t7, t8, t9⟩ t13 t15 t16 t17 hDI hDW hDR (by omega) hin hlow hret h ?_
    clear t4 t5 t6 t7 t8 t9 t13 t15 t16 t17 h hin hlow hret
    intro tm σ V ⟨t4, t5, t6, t7, t8, t9⟩ t13 h
    dsimp only at h
    rw [hD] at h
    ((repeat (refine blockExit_normal ?_)); change Trip _ _ _ _ _)
    repeat (first | (refine OpsL.q (by first | exact omv | exact oadd | exact oasg) ?_) | (refine Trip.ops ?_) | (refine OpsL.nil ?_; (dsimp only)))
    exact ⟨p + 1, ⟨_, σ, V, rfl, ⟨by simp [tmPut, *], by simp [tmPut, *], by simp [tmPut, *], by simp [tmPut, *], by simp [tmPut, *], by simp [tmPut, *]⟩, by simp [tmPut, *], by omega, h⟩, by omega⟩
  · repeat (first | (refine Trip.exit ?_; ((repeat (refine blockExit_eq ?_)))))
    have hi2 : p = q.n := by omega
    subst hi2
    exact hQ _ σ V ⟨by simp [tmPut, *], by simp [tmPut, *], by simp [tmPut, *], by simp [tmPut, *], by simp [tmPut, *], by simp [tmPut, *]⟩ h
end Go.Proofs.Ytjgbcpagfghfnaa
