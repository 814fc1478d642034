import Derived.Test.YtjgbcpagfghfnaaQWM35
import Derived.Test.YtjgbcpagfghfnaaQWM16
set_option linter.unusedVariables false
set_option linter.unusedSimpArgs false
namespace Go.Proofs.Ytjgbcpagfghfnaa
open Go.Am Go.RowKit
attribute [local irreducible] aop OpsL Trip blockExit OpsD OpsK OpsR OpsQ
set_option maxRecDepth 20000 in
set_option maxHeartbeats 16000000 in
theorem mA8 (W0 : World) {nx : Nat} {G : Heap} {m : Mo} {V0 : MoV} {cv lv : Value} {cls L : List Int} {tm : Nat → Value} {n : Nat} {σ : CH} {A i p N : Nat} {pl cl : Int} {D : Mo} {V : MoV} (hn0 : n = 100) (hn : MoLen m) (hmod : ModOk m) (hl : cls.length = m.of.length) (okG : ∀ id o, G id = some o → id < nx + 1) (hb : MoBox G nx m V0) (hG : MoIn G m V0) (hcG : IntsAt G cv cls) (hp : p < m.of.length) (hT : MT tm cv lv nx A i p N) (hL : OwnC encN 3 .next σ lv L) (h : MgS ⟨nx + 1, fun _ => .old, G⟩ σ A (nx + 1) pl cl D V) (hlen : D.inn.length ≤ 1000) {Q : AExit → ASt → Prop} (hQ : ∀ tm' τ V', MT tm' cv lv nx A i p N → OwnC encN 3 .next τ lv L → MgS ⟨nx + 1, fun _ => .old, G⟩ τ A (nx + 1) pl cl { D with inn := D.inn ++ [pickL cls (m.inn.getD p [])] } V' → Q .normal ⟨tm', n, τ.H, τ.nx⟩) : Trip Try.prog W0 (subC [1, 1, 1, 0, 1, 2, 2, 1, 1, 0, 2, 1, 1, 1, 0] (bodyMk Try.f23)) ⟨tm, n, σ.H, σ.nx⟩ Q := by
  have hst := hmod.st
  obtain ⟨t1, t2, t4, t5, t6, t8, t23, t24, t25⟩ := hT
  obtain ⟨oa, oc, ov⟩ := hG.inn.slice
  have oh := hG.inn
  have gk := (hb.ext h.old.ext okG).c5
  rw [ov] at oh gk
  have hpl := Nat.lt_of_lt_of_eq hp hmod.il.symm
  obtain ⟨q1, rb, rk, rfl, hc1, hrow⟩ := L2At.atI oh (show (0 : Int) ≤ p by omega) (show (p : Int) < m.inn.length by omega)
  rw [Int.toNat_natCast] at hc1 hrow
  replace hc1 := cell_ext h.old.ext okG hc1
  have ga : cellAt σ.H ⟨A, 5, none⟩ V.i := h.a.cell rfl
  have hin : ∀ i, i < (m.inn.getD p []).length → 0 ≤ (m.inn.getD p []).getD i 0 ∧ (m.inn.getD p []).getD i 0 < cls.length := fun i hi => by rw [hl]; exact hst.inn p _ (getD_memI hi)
  have hrl := hn.inn1 p
  obtain ⟨row, hrw⟩ : ∃ row, m.inn.getD p [] = row := ⟨_, rfl⟩
  rw [hrw] at hc1 hrow hin hrl hQ
  clear hrw
  refine OpsQ.drawn [8, 9, 10, 12] (K := fun j _ H => j = 10 → cellAt H ⟨A, 5, none⟩ V.i) mixed13 (by kernel_rfl) (by kernel_rfl) [0, 1, 2, 3, 4, 5, 6, 7, 8, 9, 10, 11, 12] (by kernel_rfl) (fun _ _ _ => ga) ?_
  refine OpsQ.one rfl rfl rfl (by kernel_rfl) ?_
  repeat (first | (refine OpsL.q (by exact ofa) ?_) | (refine OpsL.nil ?_; (dsimp only)))
  refine OpsQ.sp 10 (v := V.i) rfl (by kernel_rfl) (by subst_vars; decide) (fun _ => ga) (fun H2 nx2 hK => aop_load (by (first | (simp only [ASt.ev, tmPut, ↓reduceIte, Nat.reduceEqDiff, *]; rfl))) (by exact rfl) rfl (hK rfl)) ?_
  refine OpsQ.one rfl rfl rfl (by kernel_rfl) ?_
  repeat (first | (refine OpsL.q (by exact omv) ?_) | (refine OpsL.nil ?_; (skip)))
  refine OpsQ.one rfl rfl rfl (by kernel_rfl) ?_
  repeat (first | (refine OpsL.q (by exact ofa) ?_) | (refine OpsL.nil ?_; (dsimp only)))
  refine OpsQ.one rfl rfl rfl (by kernel_rfl) ?_
  repeat (first | (refine OpsL.q (by exact old) ?_) | (refine OpsL.nil ?_; (skip)))
  refine OpsQ.one rfl rfl rfl (by kernel_rfl) ?_
  repeat (first | (refine OpsL.q (by exact omv) ?_) | (refine OpsL.nil ?_; (skip)))
  refine OpsQ.one rfl rfl rfl (by kernel_rfl) ?_
  repeat (first | (refine OpsL.q (by exact oixa) ?_) | (refine OpsL.nil ?_; (dsimp only)))
  refine OpsQ.one rfl rfl rfl (by kernel_rfl) ?_
  repeat (first | (refine OpsL.q (by exact old) ?_) | (refine OpsL.nil ?_; (skip)))
  clear ga gk hc1 hpl
  refine OpsQ.act (by kernel_rfl) (ActStep.walk rfl rfl ?_)
  refine OpsL.c2 (hf := entersPick) (hc := (pickC W0 (hcG.ext h.old.ext okG) (hrow.ext h.old.ext okG) hrl hin)) (h := ?_)
  rintro v1 nx1 H1 ⟨hpk, hx⟩
  obtain ⟨σ1, rfl, rfl, x1, hP⟩ := hpk.plain hx (.inn1 D.inn.length)
  replace hL := hL.keep x1 (by simp)
  replace h := h.loc x1 (by simp)
  obtain ⟨b, hv1, hbk⟩ := hP.block
  obtain ⟨z, hz⟩ : ∃ z : SV, .slice (some ⟨b, 0, none⟩) (pickL cls row).length (pickL cls row).length = slV z := ⟨(some ⟨b, 0, none⟩, (pickL cls row).length, (pickL cls row).length), rfl⟩
  rw [hz] at hv1
  subst hv1
  clear hz
  refine OpsL.nil ⟨fun _ _ _ => h.a.cell rfl, ?_⟩
  refine OpsQ.act (by kernel_rfl) (ActStep.walk rfl rfl ?_)
  refine OpsL.litC (σ := σ1) (enc := encS) (a := slV z) (z := z) (el := 22) rfl (by (first | (simp only [ASt.ev, tmPut, ↓reduceIte, Nat.reduceEqDiff, *]; done))) (by kernel_rfl) (by subst_vars; decide) ?_
  intro σ2 x2 hu
  replace hL := hL.keep x2 (by simp)
  replace h := h.loc x2 (by simp)
  replace hP := hP.keep x2 (by simp)
  refine OpsL.nil ⟨fun _ _ _ => h.a.cell rfl, ?_⟩
  obtain ⟨vs, hvs, hall⟩ := h.inn
  refine OpsQ.act (by kernel_rfl) (ActStep.walk rfl rfl ?_)
  refine OpsL.appC (bytes := 24) (z := [.slice none 0 0]) encS_len encS_one hvs hu (by exact rfl) (by exact rfl) (by exact rfl) (by exact rfl) (by exact rfl) rfl (by have := hall.1; simp; omega) (by omega) (by (first | (simp only [ASt.ev, tmPut, ↓reduceIte, Nat.reduceEqDiff, *]; done))) (by (first | (simp only [ASt.ev, tmPut, ↓reduceIte, Nat.reduceEqDiff, *]; done))) (by subst_vars; decide) ?_
  intro v3 σ3 hown x3
  replace hL := hL.keep x3 (by simp)
  have ha3 := h.a.keep x3 (by simp)
  replace hall := hall.keep (fun i u x _ hr => hr.keep x3 (by simp))
  replace hP := hP.keep x3 (by simp)
  obtain ⟨wa, wk, rfl⟩ := OwnC.slice encS_len hown
  refine OpsL.nil ⟨fun k hk e => by simp at hk; omega, ?_⟩
  refine OpsQ.one rfl rfl rfl (by kernel_rfl) ?_
  repeat (first | (refine OpsL.q (by exact ofa) ?_) | (refine OpsL.nil ?_; (dsimp only)))
  refine OpsQ.act (by kernel_rfl) (ActStep.walk rfl rfl ?_)
  refine OpsL.setC (k := 5) (v := .slice wa (vs ++ [z]).length wk) (cs' := moC pl cl { V with i := .slice wa (vs ++ [z]).length wk }) ha3 (by simp [moC]) rfl (by exact rfl) rfl rfl (by (first | (simp only [ASt.ev, tmPut, ↓reduceIte, Nat.reduceEqDiff, *]; rfl))) (by (first | (simp only [ASt.ev, tmPut, ↓reduceIte, Nat.reduceEqDiff, *]; done))) rfl ?_
  intro τ hat xt _
  replace hL := hL.keep xt (by simp)
  replace hown := hown.keep xt (by simp)
  replace hall := hall.keep (fun i u x _ hr => hr.keep xt (by simp))
  replace hP := hP.keep xt (by simp)
  refine OpsL.nil ⟨fun k hk => absurd hk (by simp), ?_⟩
  refine OpsQ.nil ?_
  have hrw : RowP2 .inn1 .inn τ (.slice wa (vs ++ [z]).length wk) (D.inn ++ [pickL cls row]) := ⟨_, hown, hall.push hP⟩
  have h9 := h.setIn (x3.trans2 xt (fun c hc => by simp at hc; simp [hc]) (fun c hc => by simp at hc; simp [hc])) hrw hat
  exact hQ _ τ _ ⟨by simp [tmPut, *], by simp [tmPut, *], by simp [tmPut, *], by simp [tmPut, *], by simp [tmPut, *], by simp [tmPut, *], by simp [tmPut, *], by simp [tmPut, *], by simp [tmPut, *]⟩ hL h9
set_option maxRecDepth 20000 in
set_option maxHeartbeats 16000000 in
theorem mA9 (W0 : World) {nx : Nat} {G : Heap} {m : Mo} {V0 : MoV} {cv lv : Value} {cls L : List Int} {tm : Nat → Value} {n : Nat} {σ : CH} {A i p N : Nat} {pl cl : Int} {D : Mo} {V : MoV} (hn0 : n = 100) (hn : MoLen m) (hmod : ModOk m) (hl : cls.length = m.of.length) (okG : ∀ id o, G id = some o → id < nx + 1) (hb : MoBox G nx m V0) (hG : MoIn G m V0) (hcG : IntsAt G cv cls) (hp : p < m.of.length) (hT : MT tm cv lv nx A i p N) (hL : OwnC encN 3 .next σ lv L) (h : MgS ⟨nx + 1, fun _ => .old, G⟩ σ A (nx + 1) pl cl D V) (hlen : D.low.length ≤ 1000) {Q : AExit → ASt → Prop} (hQ : ∀ tm' τ V', MT tm' cv lv nx A i p N → OwnC encN 3 .next τ lv L → MgS ⟨nx + 1, fun _ => .old, G⟩ τ A (nx + 1) pl cl { D with low := D.low ++ [pickL cls (m.low.getD p [])] } V' → Q .normal ⟨tm', n, τ.H, τ.nx⟩) : Trip Try.prog W0 (subC [1, 1, 1, 0, 1, 2, 2, 1, 1, 0, 2, 1, 1, 1, 1, 0] (bodyMk Try.f23)) ⟨tm, n, σ.H, σ.nx⟩ Q := by
  have hst := hmod.st
  obtain ⟨t1, t2, t4, t5, t6, t8, t23, t24, t25⟩ := hT
  obtain ⟨oa, oc, ov⟩ := hG.low.slice
  have oh := hG.low
  have gk := (hb.ext h.old.ext okG).c6
  rw [ov] at oh gk
  have hpl := Nat.lt_of_lt_of_eq hp hmod.ll.symm
  obtain ⟨q1, rb, rk, rfl, hc1, hrow⟩ := L2At.atI oh (show (0 : Int) ≤ p by omega) (show (p : Int) < m.low.length by omega)
  rw [Int.toNat_natCast] at hc1 hrow
  replace hc1 := cell_ext h.old.ext okG hc1
  have ga : cellAt σ.H ⟨A, 6, none⟩ V.l := h.a.cell rfl
  have hin : ∀ i, i < (m.low.getD p []).length → 0 ≤ (m.low.getD p []).getD i 0 ∧ (m.low.getD p []).getD i 0 < cls.length := fun i hi => by rw [hl]; exact hst.low p _ (getD_memI hi)
  have hrl := hn.low1 p
  obtain ⟨row, hrw⟩ : ∃ row, m.low.getD p [] = row := ⟨_, rfl⟩
  rw [hrw] at hc1 hrow hin hrl hQ
  clear hrw
  refine OpsQ.drawn [8, 9, 10, 12] (K := fun j _ H => j = 10 → cellAt H ⟨A, 6, none⟩ V.l) mixed13 (by kernel_rfl) (by kernel_rfl) [0, 1, 2, 3, 4, 5, 6, 7, 8, 9, 10, 11, 12] (by kernel_rfl) (fun _ _ _ => ga) ?_
  refine OpsQ.one rfl rfl rfl (by kernel_rfl) ?_
  repeat (first | (refine OpsL.q (by exact ofa) ?_) | (refine OpsL.nil ?_; (dsimp only)))
  refine OpsQ.sp 10 (v := V.l) rfl (by kernel_rfl) (by subst_vars; decide) (fun _ => ga) (fun H2 nx2 hK => aop_load (by (first | (simp only [ASt.ev, tmPut, ↓reduceIte, Nat.reduceEqDiff, *]; rfl))) (by exact rfl) rfl (hK rfl)) ?_
  refine OpsQ.one rfl rfl rfl (by kernel_rfl) ?_
  repeat (first | (refine OpsL.q (by exact omv) ?_) | (refine OpsL.nil ?_; (skip)))
  refine OpsQ.one rfl rfl rfl (by kernel_rfl) ?_
  repeat (first | (refine OpsL.q (by exact ofa) ?_) | (refine OpsL.nil ?_; (dsimp only)))
  refine OpsQ.one rfl rfl rfl (by kernel_rfl) ?_
  repeat (first | (refine OpsL.q (by exact old) ?_) | (refine OpsL.nil ?_; (skip)))
  refine OpsQ.one rfl rfl rfl (by kernel_rfl) ?_
  repeat (first | (refine OpsL.q (by exact omv) ?_) | (refine OpsL.nil ?_; (skip)))
  refine OpsQ.one rfl rfl rfl (by kernel_rfl) ?_
  repeat (first | (refine OpsL.q (by exact oixa) ?_) | (refine OpsL.nil ?_; (dsimp only)))
  refine OpsQ.one rfl rfl rfl (by kernel_rfl) ?_
  repeat (first | (refine OpsL.q (by exact old) ?_) | (refine OpsL.nil ?_; (skip)))
  clear ga gk hc1 hpl
  refine OpsQ.act (by kernel_rfl) (ActStep.walk rfl rfl ?_)
  refine OpsL.c2 (hf := entersPick) (hc := (pickC W0 (hcG.ext h.old.ext okG) (hrow.ext h.old.ext okG) hrl hin)) (h := ?_)
  rintro v1 nx1 H1 ⟨hpk, hx⟩
  obtain ⟨σ1, rfl, rfl, x1, hP⟩ := hpk.plain hx (.low1 D.low.length)
  replace hL := hL.keep x1 (by simp)
  replace h := h.loc x1 (by simp)
  obtain ⟨b, hv1, hbk⟩ := hP.block
  obtain ⟨z, hz⟩ : ∃ z : SV, .slice (some ⟨b, 0, none⟩) (pickL cls row).length (pickL cls row).length = slV z := ⟨(some ⟨b, 0, none⟩, (pickL cls row).length, (pickL cls row).length), rfl⟩
  rw [hz] at hv1
  subst hv1
  clear hz
  refine OpsL.nil ⟨fun _ _ _ => h.a.cell rfl, ?_⟩
  refine OpsQ.act (by kernel_rfl) (ActStep.walk rfl rfl ?_)
  refine OpsL.litC (σ := σ1) (enc := encS) (a := slV z) (z := z) (el := 22) rfl (by (first | (simp only [ASt.ev, tmPut, ↓reduceIte, Nat.reduceEqDiff, *]; done))) (by kernel_rfl) (by subst_vars; decide) ?_
  intro σ2 x2 hu
  replace hL := hL.keep x2 (by simp)
  replace h := h.loc x2 (by simp)
  replace hP := hP.keep x2 (by simp)
  refine OpsL.nil ⟨fun _ _ _ => h.a.cell rfl, ?_⟩
  obtain ⟨vs, hvs, hall⟩ := h.low
  refine OpsQ.act (by kernel_rfl) (ActStep.walk rfl rfl ?_)
  refine OpsL.appC (bytes := 24) (z := [.slice none 0 0]) encS_len encS_one hvs hu (by exact rfl) (by exact rfl) (by exact rfl) (by exact rfl) (by exact rfl) rfl (by have := hall.1; simp; omega) (by omega) (by (first | (simp only [ASt.ev, tmPut, ↓reduceIte, Nat.reduceEqDiff, *]; done))) (by (first | (simp only [ASt.ev, tmPut, ↓reduceIte, Nat.reduceEqDiff, *]; done))) (by subst_vars; decide) ?_
  intro v3 σ3 hown x3
  replace hL := hL.keep x3 (by simp)
  have ha3 := h.a.keep x3 (by simp)
  replace hall := hall.keep (fun i u x _ hr => hr.keep x3 (by simp))
  replace hP := hP.keep x3 (by simp)
  obtain ⟨wa, wk, rfl⟩ := OwnC.slice encS_len hown
  refine OpsL.nil ⟨fun k hk e => by simp at hk; omega, ?_⟩
  refine OpsQ.one rfl rfl rfl (by kernel_rfl) ?_
  repeat (first | (refine OpsL.q (by exact ofa) ?_) | (refine OpsL.nil ?_; (dsimp only)))
  refine OpsQ.act (by kernel_rfl) (ActStep.walk rfl rfl ?_)
  refine OpsL.setC (k := 6) (v := .slice wa (vs ++ [z]).length wk) (cs' := moC pl cl { V with l := .slice wa (vs ++ [z]).length wk }) ha3 (by simp [moC]) rfl (by exact rfl) rfl rfl (by (first | (simp only [ASt.ev, tmPut, ↓reduceIte, Nat.reduceEqDiff, *]; rfl))) (by (first | (simp only [ASt.ev, tmPut, ↓reduceIte, Nat.reduceEqDiff, *]; done))) rfl ?_
  intro τ hat xt _
  replace hL := hL.keep xt (by simp)
  replace hown := hown.keep xt (by simp)
  replace hall := hall.keep (fun i u x _ hr => hr.keep xt (by simp))
  replace hP := hP.keep xt (by simp)
  refine OpsL.nil ⟨fun k hk => absurd hk (by simp), ?_⟩
  refine OpsQ.nil ?_
  have hrw : RowP2 .low1 .low τ (.slice wa (vs ++ [z]).length wk) (D.low ++ [pickL cls row]) := ⟨_, hown, hall.push hP⟩
  have h9 := h.setLo (x3.trans2 xt (fun c hc => by simp at hc; simp [hc]) (fun c hc => by simp at hc; simp [hc])) hrw hat
  exact hQ _ τ _ ⟨by simp [tmPut, *], by simp [tmPut, *], by simp [tmPut, *], by simp [tmPut, *], by simp [tmPut, *], by simp [tmPut, *], by simp [tmPut, *], by simp [tmPut, *], by simp [tmPut, *]⟩ hL h9
end Go.Proofs.Ytjgbcpagfghfnaa
namespace Go.Proofs.Ytjgbcpagfghfnaa
open Go.Am Go.RowKit
attribute [local irreducible] aop OpsL Trip blockExit OpsD OpsK OpsR OpsQ
set_option maxRecDepth 20000 in
set_option maxHeartbeats 16000000 in
theorem mA11 (W0 : World) {nx : Nat} {G : Heap} {m : Mo} {V0 : MoV} {cv lv : Value} {cls L : List Int} {tm : Nat → Value} {n : Nat} {σ : CH} {A i p N : Nat} {pl cl : Int} {D : Mo} {V : MoV} (hn0 : n = 100) (hn : MoLen m) (hmod : ModOk m) (hl : cls.length = m.of.length) (okG : ∀ id o, G id = some o → id < nx + 1) (hb : MoBox G nx m V0) (hG : MoIn G m V0) (hcG : IntsAt G cv cls) (hp : p < m.of.length) (hT : MT tm cv lv nx A i p N) (hL : OwnC encN 3 .next σ lv L) (h : MgS ⟨nx + 1, fun _ => .old, G⟩ σ A (nx + 1) pl cl D V) (hLb : ∀ x ∈ L, 0 ≤ x ∧ x < (m.of.length : Int)) (hLl : L.length ≤ 1000) {ra : Option Addr} {rk : Nat} {R : List (List Int)} (hR : m.ret.getD p [] = R) (hrow : L2At G (.slice ra R.length rk) R) (t9 : tm 9 = .slice none 0 0) (t77 : tm 77 = .slice ra R.length rk) (t78 : tm 78 = .int .i64 R.length) (t79 : tm 79 = .int .i64 0)
    {Q : AExit → ASt → Prop} (hQ : ∀ tm' τ v, MT tm' cv lv nx A i p N → OwnC encN 3 .next τ lv L → tm' 9 = v → RowP2 (.ret2 D.ret.length) (.ret1 D.ret.length) τ v (R.map fun row => pickL cls (pickL row L)) → MgS ⟨nx + 1, fun _ => .old, G⟩ τ A (nx + 1) pl cl D V → Q .normal ⟨tm', n, τ.H, τ.nx⟩) : Trip Try.prog W0 (subC [1, 1, 1, 0, 1, 2, 2, 1, 1, 0, 2, 1, 1, 1, 1, 1, 1, 0, 1] (bodyMk Try.f23)) ⟨tm, n, σ.H, σ.nx⟩ Q := by
  have hst := hmod.st
  have hrl := hn.ret1 p
  rw [hR] at hrl
  refine Trip.block ?_
  refine Trip.inv (fun (j : Nat) s => ∃ tm σ v, s = ⟨tm, n, σ.H, σ.nx⟩ ∧ MT tm cv lv nx A i p N ∧ tm 9 = v ∧ tm 77 = .slice ra R.length rk ∧ tm 78 = .int .i64 R.length ∧ tm 79 = .int .i64 j ∧ j ≤ R.length ∧ OwnC encN 3 .next σ lv L ∧ MgS ⟨nx + 1, fun _ => .old, G⟩ σ A (nx + 1) pl cl D V ∧ RowP2 (.ret2 D.ret.length) (.ret1 D.ret.length) σ v ((R.take j).map fun row => pickL cls (pickL row L))) (fun j => R.length - j) 0 ?_ ?_
  · exact ⟨tm, σ, _, rfl, hT, t9, t77, t78, t79, Nat.zero_le _, hL, h, OwnLC.nil⟩
  clear h hL hT t9 t77 t78 t79
  rintro j s ⟨tm, σ, v, rfl, ⟨t1, t2, t4, t5, t6, t8, t23, t24, t25⟩, t9, t77, t78, t79, hj, hL, h, hret⟩
  repeat (first | (refine OpsL.q (by exact olss) ?_) | (refine Trip.seq ?_) | (refine Trip.ops ?_) | (refine Trip.block ?_) | (refine Trip.itA (fun _ => ?_) (fun _ => ?_)) | (refine Trip.skip ?_; (change Trip _ _ _ _ _)) | (refine OpsL.nil ?_; (change Trip _ _ _ _ _)))
  · have hlt : j < R.length := by omega
    obtain ⟨q1, sb, sk, rfl, hc1, hrw⟩ := L2At.atI hrow (show (0 : Int) ≤ j by omega) (show (j : Int) < R.length by omega)
    rw [Int.toNat_natCast] at hc1 hrw
    replace hc1 := cell_ext h.old.ext okG hc1
    have hz : m.of.getD p 0 ≠ 0 := fun e => by rw [← hR, hmod.ret0 _ hp e] at hlt; simp at hlt
    obtain ⟨k1, k2⟩ := (hmod.ret1 _ hp hz).2 j (by rw [hR]; exact hlt)
    rw [hR] at k1 k2
    have hsn : (R.take (j + 1)).map (fun row => pickL cls (pickL row L)) = (R.take j).map (fun row => pickL cls (pickL row L)) ++ [pickL cls (pickL (R.getD j []) L)] := by
      rw [List.take_succ_eq_append_getElem hlt, List.map_append, List.getD_eq_getElem?_getD, List.getElem?_eq_getElem hlt]; rfl
    have hml : ((R.take j).map fun row => pickL cls (pickL row L)).length = j := by simp; omega
    rw [← Nat.sub_zero j] at hml
    generalize (R.take j).map (fun row => pickL cls (pickL row L)) = W at *
    obtain ⟨r, hr⟩ : ∃ r, R.getD j [] = r := ⟨_, rfl⟩
    rw [hr] at hc1 hrw k1 k2 hsn
    clear hr
    have hin1 : ∀ i, i < L.length → 0 ≤ L.getD i 0 ∧ L.getD i 0 < r.length := fun i hi => by rw [k1]; exact hLb _ (getD_memI hi)
    have hin2 : ∀ i, i < (pickL r L).length → 0 ≤ (pickL r L).getD i 0 ∧ (pickL r L).getD i 0 < cls.length := fun i hi => by
      rw [pickL_len] at hi
      rw [show (pickL r L).getD i 0 = r.getD (L.getD i 0).toNat 0 from map_getD _ _ hi _ 0, hl]
      have := hLb _ (getD_memI hi)
      exact (k2 _ (by omega)).1
    have hpl := pickL_len r L
    have hWl : W.length ≤ 100000 := by omega
    clear hml k1 k2
    repeat (first | (refine OpsL.q (by first | exact omv | exact oixa | exact old | exact oasg) ?_) | (refine Trip.ops ?_) | (refine OpsL.nil ?_; (change Trip _ _ _ _ _)))
    refine OpsL.c2 (hf := entersPick) (hc := (pickC W0 (hrw.ext h.old.ext okG) hL.ints (by omega) hin1)) (h := ?_)
    rintro v1 nx1 H1 ⟨hpk, hx⟩
    obtain ⟨σ1, rfl, rfl, x1, hP1⟩ := hpk.plain hx (.ret2 D.ret.length W.length)
    replace hL := hL.keep x1 (by simp)
    replace h := h.loc x1 (by simp)
    replace hret := RowP2.keepL x1 (by simp) (fun _ _ => by simp) hret
    refine OpsL.c2 (hf := entersPick) (hc := (pickC W0 (hcG.ext h.old.ext okG) hP1.ints (by rw [hpl]; omega) hin2)) (h := ?_)
    rintro v2 nx2 H2 ⟨hpk2, hx2⟩
    obtain ⟨σ2, rfl, rfl, x2, hP2⟩ := hpk2.plain hx2 (.ret2 D.ret.length W.length)
    replace hL := hL.keep x2 (by simp)
    replace h := h.loc x2 (by simp)
    replace hret := RowP2.keepL x2 (by simp) (fun _ _ => by simp) hret
    clear hP1
    obtain ⟨b, hv2, -⟩ := hP2.block
    obtain ⟨z, hz2⟩ : ∃ z : SV, .slice (some ⟨b, 0, none⟩) (pickL cls (pickL r L)).length (pickL cls (pickL r L)).length = slV z := ⟨(some ⟨b, 0, none⟩, (pickL cls (pickL r L)).length, (pickL cls (pickL r L)).length), rfl⟩
    rw [hz2] at hv2
    subst hv2
    clear hz2
    refine OpsL.litC (σ := σ2) (enc := encS) (a := slV z) (z := z) (el := 22) rfl (by (first | (simp only [ASt.ev, tmPut, ↓reduceIte, Nat.reduceEqDiff, *]; done))) (by kernel_rfl) (by subst_vars; decide) ?_
    intro σ3 x3 hu
    replace hL := hL.keep x3 (by simp)
    replace h := h.loc x3 (by simp)
    replace hret := RowP2.keepL x3 (by simp) (fun _ _ => by simp) hret
    replace hP2 := hP2.keep x3 (by simp)
    obtain ⟨vs, hvs, hall⟩ := hret
    refine OpsL.appC (bytes := 24) (z := [.slice none 0 0]) encS_len encS_one hvs hu (by exact rfl) (by exact rfl) (by exact rfl) (by exact rfl) (by exact rfl) rfl (by have := hall.1; simp; omega) (by omega) (by (first | (simp only [ASt.ev, tmPut, ↓reduceIte, Nat.reduceEqDiff, *]; done))) (by (first | (simp only [ASt.ev, tmPut, ↓reduceIte, Nat.reduceEqDiff, *]; done))) (by subst_vars; decide) ?_
    intro v3 σ4 hown x4
    replace hL := hL.keep x4 (by simp)
    replace h := h.loc x4 (by simp [locM])
    replace hall := hall.keep (fun i u x _ hr => hr.keep x4 (by simp))
    replace hP2 := hP2.keep x4 (by simp)
    repeat (first | (refine OpsL.q (by exact oasg) ?_) | (refine Trip.ops ?_) | (refine OpsL.nil ?_; ((repeat (refine blockExit_normal ?_)); change Trip _ _ _ _ _)))
    repeat (first | (refine OpsL.q (by first | exact omv | exact oadd) ?_) | (refine OpsL.nil ?_; (dsimp only)))
    exact ⟨j + 1, ⟨_, σ4, v3, rfl, ⟨by simp [tmPut, *], by simp [tmPut, *], by simp [tmPut, *], by simp [tmPut, *], by simp [tmPut, *], by simp [tmPut, *], by simp [tmPut, *], by simp [tmPut, *], by simp [tmPut, *]⟩, by simp [tmPut, *], by simp [tmPut, *], by simp [tmPut, *], by simp [tmPut, *], by omega, hL, h, by rw [hsn]; exact ⟨_, hown, hall.push hP2⟩⟩, by omega⟩
  · repeat (first | (refine Trip.exit ?_; ((repeat (refine blockExit_eq ?_)))))
    have hj2 : j = R.length := by omega
    subst hj2
    rw [List.take_length] at hret
    exact hQ _ σ v ⟨by simp [tmPut, *], by simp [tmPut, *], by simp [tmPut, *], by simp [tmPut, *], by simp [tmPut, *], by simp [tmPut, *], by simp [tmPut, *], by simp [tmPut, *], by simp [tmPut, *]⟩ hL (by simp [tmPut, *]) hret h
set_option maxRecDepth 20000 in
set_option maxHeartbeats 16000000 in
theorem mA16 (W0 : World) {nx : Nat} {G : Heap} {m : Mo} {V0 : MoV} {cv lv : Value} {cls L : List Int} {tm : Nat → Value} {n : Nat} {σ : CH} {A i p N : Nat} {pl cl : Int} {D : Mo} {V : MoV} (hn0 : n = 100) (hn : MoLen m) (hmod : ModOk m) (hl : cls.length = m.of.length) (okG : ∀ id o, G id = some o → id < nx + 1) (hb : MoBox G nx m V0) (hG : MoIn G m V0) (hcG : IntsAt G cv cls) (hp : p < m.of.length) (hT : MT tm cv lv nx A i p N) (hL : OwnC encN 3 .next σ lv L) (h : MgS ⟨nx + 1, fun _ => .old, G⟩ σ A (nx + 1) pl cl D V) {v : Value} {rows : List (List Int)} (t9 : tm 9 = v) (hret : RowP2 (.ret2 D.ret.length) (.ret1 D.ret.length) σ v rows) (hlen : D.ret.length ≤ 1000)
    {Q : AExit → ASt → Prop} (hQ : ∀ tm' τ V', MT tm' cv lv nx A i p N → OwnC encN 3 .next τ lv L → MgS ⟨nx + 1, fun _ => .old, G⟩ τ A (nx + 1) pl cl { D with ret := D.ret ++ [rows] } V' → Q .normal ⟨tm', n, τ.H, τ.nx⟩) : Trip Try.prog W0 (subC [1, 1, 1, 0, 1, 2, 2, 1, 1, 0, 2, 1, 1, 1, 1, 1, 1, 1] (bodyMk Try.f23)) ⟨tm, n, σ.H, σ.nx⟩ Q := by
  have hst := hmod.st
  obtain ⟨t1, t2, t4, t5, t6, t8, t23, t24, t25⟩ := hT
  have ga : cellAt σ.H ⟨A, 7, none⟩ V.r := h.a.cell rfl
  obtain ⟨z, hz⟩ : ∃ z : SV, v = slV z := by
    obtain ⟨vs, q1, q2⟩ := hret
    obtain ⟨a, k, q3⟩ := OwnC.slice encS_len q1
    exact ⟨(a, vs.length, k), q3⟩
  subst hz
  repeat (first | (refine OpsL.q (by first | exact ofa | exact old | exact omv) ?_) | (refine Trip.ops ?_))
  clear ga
  refine OpsL.litC (σ := σ) (enc := encS) (a := slV z) (z := z) (el := 26) rfl (by (first | (simp only [ASt.ev, tmPut, ↓reduceIte, Nat.reduceEqDiff, *]; done))) (by kernel_rfl) (by subst_vars; decide) ?_
  intro σ2 x2 hu
  replace hL := hL.keep x2 (by simp)
  replace h := h.loc x2 (by simp)
  replace hret := RowP2.keepL x2 (by simp) (fun _ _ => by simp) hret
  obtain ⟨vs, hvs, hall⟩ := h.ret
  refine OpsL.appC (bytes := 24) (z := [.slice none 0 0]) encS_len encS_one hvs hu (by exact rfl) (by exact rfl) (by exact rfl) (by exact rfl) (by exact rfl) rfl (by have := hall.1; simp; omega) (by omega) (by (first | (simp only [ASt.ev, tmPut, ↓reduceIte, Nat.reduceEqDiff, *]; done))) (by (first | (simp only [ASt.ev, tmPut, ↓reduceIte, Nat.reduceEqDiff, *]; done))) (by subst_vars; decide) ?_
  intro v3 σ3 hown x3
  replace hL := hL.keep x3 (by simp)
  have ha3 := h.a.keep x3 (by simp)
  replace hall := hall.keep (fun i u x _ hr => RowP2.keepL x3 (by simp) (fun _ _ => by simp) hr)
  replace hret := RowP2.keepL x3 (by simp) (fun _ _ => by simp) hret
  obtain ⟨wa, wk, rfl⟩ := OwnC.slice encS_len hown
  repeat (first | (refine OpsL.q (by exact ofa) ?_))
  refine OpsL.setC (k := 7) (v := .slice wa (vs ++ [z]).length wk) (cs' := moC pl cl { V with r := .slice wa (vs ++ [z]).length wk }) ha3 (by simp [moC]) rfl (by exact rfl) rfl rfl (by (first | (simp only [ASt.ev, tmPut, ↓reduceIte, Nat.reduceEqDiff, *]; rfl))) (by (first | (simp only [ASt.ev, tmPut, ↓reduceIte, Nat.reduceEqDiff, *]; done))) rfl ?_
  intro τ hat xt _
  replace hL := hL.keep xt (by simp)
  replace hown := hown.keep xt (by simp)
  replace hall := hall.keep (fun i u x _ hr => RowP2.keepL xt (by simp) (fun _ _ => by simp) hr)
  replace hret := RowP2.keepL xt (by simp) (fun _ _ => by simp) hret
  refine OpsL.nil ?_
  have hrw : RowP3 τ (.slice wa (vs ++ [z]).length wk) (D.ret ++ [rows]) := ⟨_, hown, hall.push hret⟩
  have h9 := h.setRe (x3.trans2 xt (fun c hc => by simp at hc; simp [hc]) (fun c hc => by simp at hc; simp [hc])) hrw hat
  exact hQ _ τ _ ⟨by simp [tmPut, *], by simp [tmPut, *], by simp [tmPut, *], by simp [tmPut, *], by simp [tmPut, *], by simp [tmPut, *], by simp [tmPut, *], by simp [tmPut, *], by simp [tmPut, *]⟩ hL h9
end Go.Proofs.Ytjgbcpagfghfnaa
