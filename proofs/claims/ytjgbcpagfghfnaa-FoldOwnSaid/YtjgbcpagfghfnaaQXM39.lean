import Derived.Test.YtjgbcpagfghfnaaQXM37
import Derived.Test.YtjgbcpagfghfnaaQXM15
set_option linter.unusedVariables false
set_option linter.unusedSimpArgs false
namespace Go.Am
open Go.RowKit
theorem getD_ge {α : Type} (l : List α) (d : α) {i : Nat} (h : l.length ≤ i) : l.getD i d = d := by rw [List.getD_eq_getElem?_getD, List.getElem?_eq_none h]; rfl
theorem ModOk.lens {m : Mo} (h : ModOk m) : MoLen m := by
 have h1 := h.n; have h2 := h.k; have h3 := h.fl; have h4 := h.il; have h5 := h.ll; have h6 := h.rl; have h7 := h.pl; have h8 := h.cl
 have q1 : ∀ i, (m.inn.getD i []).length ≤ 100000 := fun i => by
  by_cases hi : i < m.of.length
  ·have := (h.inn i hi).1; omega
  ·rw [getD_ge _ _ (by omega)]; simp
 have q2 : ∀ i, (m.low.getD i []).length ≤ 100000 := fun i => by
  by_cases hi : i < m.of.length
  ·by_cases hz : m.of.getD i 0 = 0
   ·have := (h.low0 i hi hz).1; omega
   ·rw [h.low1 i hi hz]; simp
  ·rw [getD_ge _ _ (by omega)]; simp
 have q3 : ∀ i, (m.ret.getD i []).length ≤ 100000 ∧ ∀ j, ((m.ret.getD i []).getD j []).length ≤ 100000 := fun i => by
  by_cases hi : i < m.of.length
  ·by_cases hz : m.of.getD i 0 = 0
   ·rw [h.ret0 i hi hz]; simp
   ·have h9 := h.ret1 i hi hz
    refine ⟨by have := h9.1; omega, fun j => ?_⟩
    by_cases hj : j < (m.ret.getD i []).length
    ·have := (h9.2 j hj).1; omega
    ·rw [getD_ge _ _ (by omega)]; simp
  ·rw [getD_ge _ _ (by omega)]; simp
 exact ⟨by omega, by omega, by omega, by omega, by omega, by omega, q1, q2, fun i => (q3 i).1, fun i => (q3 i).2⟩
theorem NewP.of {el : TypeId} {H : Heap} {b : Nat} {cs : List Value} (h : H b = some (.cells cs 1 none false (some el))) : NewP el 0 (b + 1) H (.slice (some ⟨b, 0, none⟩) cs.length cs.length) cs := ⟨b, Nat.zero_le _, Nat.lt_succ_self _, rfl, h⟩
theorem Chg.put {S : List Co} {σ : CH} {b : Nat} {o : AObj} (h : σ.C b ∈ S) : Chg S σ ⟨σ.nx, σ.C, σ.H.put b o⟩ := ⟨Nat.le_refl _, fun i _ => ⟨rfl, fun hn => Heap.put_ne fun e => by subst e; exact hn h⟩⟩
theorem Chg.ext0 {σ τ : CH} (h : Chg [] σ τ) : Ext σ.nx σ.H τ.nx τ.H := ⟨h.1, fun i hi => (h.2 i hi).2 (by simp)⟩
end Go.Am
namespace Go.Proofs.Ytjgbcpagfghfnaa
open Go.Am Go.RowKit
attribute [local irreducible] aop OpsL Trip blockExit OpsD OpsK OpsR OpsQ
theorem MgO.keep {S : List Co} {σ τ : CH} {m : Mo} {V : MoV} (hx : Chg S σ τ) (hS : ∀ c ∈ S, c = .old ∨ c = .self ∨ c = .tmp) (h : MgO σ m V) : MgO τ m V := by
 have hn : ∀ c : Co, c ≠ .old → c ≠ .self → c ≠ .tmp → c ∉ S := fun c h1 h2 h3 hc => by rcases hS c hc with e | e | e; exact h1 e; exact h2 e; exact h3 e
 exact ⟨h.of.keep hx (hn _ (by simp) (by simp) (by simp)), h.en.keep hx (hn _ (by simp) (by simp) (by simp)), h.fi.keep hx (hn _ (by simp) (by simp) (by simp)), RowP2.keepL hx (hn _ (by simp) (by simp) (by simp)) (fun _ _ => hn _ (by simp) (by simp) (by simp)) h.inn, RowP2.keepL hx (hn _ (by simp) (by simp) (by simp)) (fun _ _ => hn _ (by simp) (by simp) (by simp)) h.low, RowP3.keepL hx (hn _ (by simp) (by simp) (by simp)) (fun _ _ => hn _ (by simp) (by simp) (by simp)) (fun _ _ _ => hn _ (by simp) (by simp) (by simp)) h.ret⟩
theorem MoIn.one {H : Heap} {m : Mo} {V : MoV} (h : MoIn H m V) : (moV m V).all (·.oneCell') = true := by
 obtain ⟨_, _, e1⟩ := h.of.slice
 obtain ⟨_, _, e2⟩ := h.entry.slice
 obtain ⟨_, _, e3⟩ := h.final.slice
 obtain ⟨_, _, e4⟩ := h.inn.slice
 obtain ⟨_, _, e5⟩ := h.low.slice
 obtain ⟨_, _, e6⟩ := h.ret.slice
 have o : ∀ {a b c}, (Value.slice a b c).oneCell' = true := rfl
 show ([Value.int .i64 _, .int .i64 _, V.o, V.e, V.f, V.i, V.l, V.r].all _) = true
 rw [e1, e2, e3, e4, e5, e6]
 rfl
set_option maxRecDepth 20000 in
set_option maxHeartbeats 16000000 in
theorem fSmallC (W0 : World) {nx : Nat} {H : Heap} {m : Mo} {V : MoV} (hm : MoIn H m V) (hn : MoLen m) (hmod : ModOk m) :
  ACalls Try.prog W0 8 [.agg (moV m V).toArray] nx H fun v nx' H' => ∃ V' τ, v = .tuple #[.agg (moV (smallF m) V').toArray, .int .i64 0] ∧ nx' = τ.nx ∧ H' = τ.H ∧ OldC ⟨nx, fun _ => .old, H⟩ τ ∧ MgO τ (smallF m) V' := by
 refine ACalls.by_trip (fn := Try.f8) (c := _) Try.func8 rfl (fun tm n hn0 htm => ?_)
 have e0 : tm 0 = .agg (moV m V).toArray := htm 0
 clear htm
 replace hn0 : n = 18 := hn0
 refine Trip.ok fun hok => ?_
 replace hok : ∀ id o, H id = some o → id < nx := hok
 refine zg29 ?_
 refine OpsL.boxM hm hok ?_ evd sdc
 intro G x0 okG hb hG
 clear e0
 refine OpsL.new sdc (aop_alloc (l := moV noMo nilV) xrf) ?_
 have x1 : Ext (nx + 1) G (nx + 1 + 1) (G.put (nx + 1) (.cells (moV noMo nilV) 0 none false (some 29))) := Ext.newPut
 have hF : (G.put (nx + 1) (.cells (moV noMo nilV) 0 none false (some 29))) (nx + 1) = some (.cells (moV noMo nilV) 0 none false (some 29)) := Heap.put_eq
 generalize (G.put (nx + 1) (.cells (moV noMo nilV) 0 none false (some 29))) = F at *
 have hn60 := hmod.n.2
 have hrl := reachedF_len hmod.st
 have hrl1 : (reachedF m).length ≤ 100000 := by omega
 have hro := rank_ok hmod
 have hbare := bare_ok hmod
 refine zg25 ?_
 refine OpsL.loadM (hb.ext x1 okG) ?_ evd sdc
 refine OpsL.c1 (hf := entersIsMod) (hc := (isModC W0 (hG.ext x1 okG) hn)) (h := ?_)
 rintro v1 nx1 H1 ⟨rfl, y0⟩
 rw [modF_iff.2 hmod]
 refine zg31 ?_
 refine zg37 ?_
 have hR0 := (y0.2 (nx + 1) (Nat.lt_succ_self _)).trans hF
 refine Trip.mono (Q := fun e st => e = .normal ∧ ∃ (tm' : Nat → Value) (N : Nat) (H' : Heap) (P : Nat) (Vb : MoV), st = ⟨tm', n, H', N⟩ ∧ tm' 1 = .pointer (some ⟨nx, 0, none⟩) ∧ tm' 2 = .pointer (some ⟨nx + 1, 0, none⟩) ∧ tm' 4 = .pointer (some ⟨P, 0, none⟩) ∧ P < N ∧ H' P = some (.cells (moV (bareF m) Vb) 0 none false (some 29)) ∧ H' (nx + 1) = some (.cells (moV noMo nilV) 0 none false (some 29)) ∧ Ext (nx + 1 + 1) F N H' ∧ MoIn H' (bareF m) Vb) ?_ ?_
 ·have hK : ∀ {nn : Nat} {HH : Heap}, Ext (nx + 1 + 1) F nn HH → getc HH ⟨nx, 0, none⟩ 8 = some (moV m V) := fun h => (hb.ext (x1.trans h) okG).all
  refine OpsQ.drawn [2, 3, 4, 5, 6] (K := fun _ nn HH => Ext (nx + 1 + 1) F nn HH) mixed13 krf krf [0, 1, 2, 3, 4, 5, 6] krf (fun _ _ => y0) ?_
  refine OpsQ.sp 4 (v := .agg (moV m V).toArray) rfl krf sdc y0 (fun H2 nx2 h => aop_loadAgg (k := 8) evd xrf rfl xrf (hK h)) ?_
  refine OpsQ.sp 2 (v := .agg (moV m V).toArray) rfl krf sdc y0 (fun H2 nx2 h => aop_loadAgg (k := 8) evd xrf rfl xrf (hK h)) ?_
  refine OpsQ.go2 2 5 [3, 4, 5, 6] [2, 3, 4, 6] krf (ActStep.walk rfl rfl ?_) (ActStep.walk rfl rfl ?_)
  ·refine OpsL.c1 (hf := entersReached) (hc := (reachedC W0 (hG.ext (x1.trans y0) okG) hn hmod)) (h := ?_)
   rintro v1 N1 H1 ⟨⟨b, b1, b2, rfl, b4⟩, z1⟩
   have y1 := y0.trans z1
   have hR1 := (z1.2 (nx + 1) (Nat.lt_of_lt_of_le (Nat.lt_succ_self _) y0.1)).trans hR0
   refine OpsL.nil ⟨fun _ _ => y1, ?_⟩
   refine OpsQ.go2 3 5 [4, 5, 6] [3, 4, 6] krf (ActStep.walk rfl rfl ?_) (ActStep.walk rfl rfl ?_)
   ·refine OpsL.c1 (hf := entersRanks) (hc := (ranksC W0 (NewP.bools (NewP.of b4)) hrl1)) (h := ?_)
    rintro v2 N2 H2 ⟨⟨d, d1, d2, rfl, d4⟩, z2⟩
    have y2 := y1.trans z2
    have hR2 := (z2.2 (nx + 1) (Nat.lt_of_lt_of_le (Nat.lt_succ_self _) y1.1)).trans hR1
    refine OpsL.nil ⟨fun _ _ => y2, ?_⟩
    refine OpsQ.go2 4 5 [5, 6] [4, 6] krf (ActStep.walk rfl rfl ?_) (ActStep.walk rfl rfl ?_)
    ·refine OpsL.c2 (hf := entersMerged) (hc := (mergedC W0 (hG.ext (x1.trans y2) okG) hn hmod (NewP.ints (NewP.of d4)) hro.len)) (h := ?_)
     rintro v4 N4 H4 ⟨Vb, τ, rfl, rfl, rfl, ho4, hM⟩
     change MgO τ (bareF m) Vb at hM
     change OpsL _ _ _ _ ⟨tmPut _ _ (.agg (moV (bareF m) Vb).toArray), _, _, _⟩ _
     have z3 := ho4.ext
     have hone := MoIn.one hM.in
     have y3 := y2.trans z3
     have hR3 := (z3.2 (nx + 1) (Nat.lt_of_lt_of_le (Nat.lt_succ_self _) y2.1)).trans hR2
     refine OpsL.nil ⟨fun _ _ => y3, ?_⟩
     refine OpsQ.go1 5 [6] krf (ActStep.walk rfl rfl ?_)
     refine OpsL.newC .self (aop_alloc (l := moV noMo nilV) xrf) sdc ?_
     intro τ2 hA x2
     obtain ⟨P, hP⟩ : ∃ P, τ.nx = P := ⟨_, rfl⟩
     rw [hP] at hA ⊢
     have hM2 := hM.keep x2 (by simp)
     have z4 := x2.ext0
     have y4 := y3.trans z4
     have hR4 := (z4.2 (nx + 1) (Nat.lt_of_lt_of_le (Nat.lt_succ_self _) y3.1)).trans hR3
     have pgeq : nx + 1 + 1 ≤ P := by rw [← hP]; exact y3.1
     refine OpsL.nil ⟨fun _ _ => y4, ?_⟩
     refine OpsQ.go1 6 [] krf (ActStep.walk rfl rfl ?_)
     have hPn : nx + 1 + 1 ≤ P := by have := pgeq; omega
     refine OpsL.upd (aop_store (a := ⟨P, 0, none⟩) (k := 8) (u := .agg (moV (bareF m) Vb).toArray) evd evd xrf rfl (o := (.cells (moV (bareF m) Vb) 0 none false (some 29))) (setc_allN (vs := moV (bareF m) Vb) hA.2.2 rfl hone)) ?_
     have hM5 := (hM2.keep (Chg.put (S := [.old, .self]) (b := P) (o := (.cells (moV (bareF m) Vb) 0 none false (some 29))) (by rw [hA.2.1]; simp)) (by simp)).in
     have y5 := y4.put (k := P) (o := (.cells (moV (bareF m) Vb) 0 none false (some 29))) hPn
     have hR5 : (τ2.H.put (P) (.cells (moV (bareF m) Vb) 0 none false (some 29))) (nx + 1) = some (.cells (moV noMo nilV) 0 none false (some 29)) := by rw [Heap.put_ne (by omega)]; exact hR4
     refine OpsL.nil ⟨fun _ _ => y5, ?_⟩
     refine OpsQ.nil ⟨rfl, _, _, _, P, Vb, rfl, stp, stp, stp, hA.1, Heap.put_eq, hR5, y5, hM5⟩
    ·refine OpsL.new sdc (aop_alloc (l := moV noMo nilV) xrf) ?_
     have z6 : Ext (N2) H2 (N2 + 1) (H2.put (N2) (.cells (moV noMo nilV) 0 none false (some 29))) := Ext.newPut
     have w6 : (H2.put (N2) (.cells (moV noMo nilV) 0 none false (some 29))) (N2) = some (.cells (moV noMo nilV) 0 none false (some 29)) := Heap.put_eq
     generalize hHH : (H2.put (N2) (.cells (moV noMo nilV) 0 none false (some 29))) = H6 at z6 w6 ⊢
     have y6 := y2.trans z6
     have hR6 := (z6.2 (nx + 1) (Nat.lt_of_lt_of_le (Nat.lt_succ_self _) y2.1)).trans hR2
     have d26 := (z6.2 _ d2).trans d4
     have pgeq : nx + 1 + 1 ≤ N2 := y2.1
     refine OpsL.nil ⟨fun _ _ => y6, ?_⟩
     refine OpsQ.go1 4 [6] krf (ActStep.walk rfl rfl ?_)
     refine OpsL.c2 (hf := entersMerged) (hc := (mergedC W0 (hG.ext (x1.trans y6) okG) hn hmod (NewP.ints (NewP.of d26)) hro.len)) (h := ?_)
     rintro v4 N4 H4 ⟨Vb, τ, rfl, rfl, rfl, ho4, hM⟩
     change MgO τ (bareF m) Vb at hM
     change OpsL _ _ _ _ ⟨tmPut _ _ (.agg (moV (bareF m) Vb).toArray), _, _, _⟩ _
     have z7 := ho4.ext
     have hPc := (ho4.2 _ (Nat.lt_succ_self _)).1
     have hone := MoIn.one hM.in
     have y7 := y6.trans z7
     have hR7 := (z7.2 (nx + 1) (Nat.lt_of_lt_of_le (Nat.lt_succ_self _) y6.1)).trans hR6
     have hP7 := (z7.2 _ (Nat.lt_succ_self _)).trans w6
     have pl7 := Nat.lt_of_lt_of_le (Nat.lt_succ_self _) z7.1
     refine OpsL.nil ⟨fun _ _ => y7, ?_⟩
     refine OpsQ.go1 6 [] krf (ActStep.walk rfl rfl ?_)
     have hPn : nx + 1 + 1 ≤ N2 := by have := pgeq; omega
     refine OpsL.upd (aop_store (a := ⟨N2, 0, none⟩) (k := 8) (u := .agg (moV (bareF m) Vb).toArray) evd evd xrf rfl (o := (.cells (moV (bareF m) Vb) 0 none false (some 29))) (setc_allN (vs := moV (bareF m) Vb) hP7 rfl hone)) ?_
     have hM8 := (hM.keep (Chg.put (S := [.old, .self]) (b := N2) (o := (.cells (moV (bareF m) Vb) 0 none false (some 29))) (by rw [hPc]; simp)) (by simp)).in
     have y8 := y7.put (k := N2) (o := (.cells (moV (bareF m) Vb) 0 none false (some 29))) hPn
     have hR8 : (τ.H.put (N2) (.cells (moV (bareF m) Vb) 0 none false (some 29))) (nx + 1) = some (.cells (moV noMo nilV) 0 none false (some 29)) := by rw [Heap.put_ne (by omega)]; exact hR7
     refine OpsL.nil ⟨fun _ _ => y8, ?_⟩
     refine OpsQ.nil ⟨rfl, _, _, _, N2, Vb, rfl, stp, stp, stp, pl7, Heap.put_eq, hR8, y8, hM8⟩
   ·refine OpsL.new sdc (aop_alloc (l := moV noMo nilV) xrf) ?_
    have z9 : Ext (N1) H1 (N1 + 1) (H1.put (N1) (.cells (moV noMo nilV) 0 none false (some 29))) := Ext.newPut
    have w9 : (H1.put (N1) (.cells (moV noMo nilV) 0 none false (some 29))) (N1) = some (.cells (moV noMo nilV) 0 none false (some 29)) := Heap.put_eq
    generalize hHH : (H1.put (N1) (.cells (moV noMo nilV) 0 none false (some 29))) = H9 at z9 w9 ⊢
    have y9 := y1.trans z9
    have hR9 := (z9.2 (nx + 1) (Nat.lt_of_lt_of_le (Nat.lt_succ_self _) y1.1)).trans hR1
    have b29 := (z9.2 _ b2).trans b4
    have pgeq : nx + 1 + 1 ≤ N1 := y1.1
    refine OpsL.nil ⟨fun _ _ => y9, ?_⟩
    refine OpsQ.go1 3 [4, 6] krf (ActStep.walk rfl rfl ?_)
    refine OpsL.c1 (hf := entersRanks) (hc := (ranksC W0 (NewP.bools (NewP.of b29)) hrl1)) (h := ?_)
    rintro v2 N10 H10 ⟨⟨d, d1, d2, rfl, d4⟩, z10⟩
    have y10 := y9.trans z10
    have hR10 := (z10.2 (nx + 1) (Nat.lt_of_lt_of_le (Nat.lt_succ_self _) y9.1)).trans hR9
    have hP10 := (z10.2 _ (Nat.lt_succ_self _)).trans w9
    have pl10 := Nat.lt_of_lt_of_le (Nat.lt_succ_self _) z10.1
    refine OpsL.nil ⟨fun _ _ => y10, ?_⟩
    refine OpsQ.go1 4 [6] krf (ActStep.walk rfl rfl ?_)
    refine OpsL.c2 (hf := entersMerged) (hc := (mergedC W0 (hG.ext (x1.trans y10) okG) hn hmod (NewP.ints (NewP.of d4)) hro.len)) (h := ?_)
    rintro v4 N4 H4 ⟨Vb, τ, rfl, rfl, rfl, ho4, hM⟩
    change MgO τ (bareF m) Vb at hM
    change OpsL _ _ _ _ ⟨tmPut _ _ (.agg (moV (bareF m) Vb).toArray), _, _, _⟩ _
    have z11 := ho4.ext
    have hPc := (ho4.2 _ pl10).1
    have hone := MoIn.one hM.in
    have y11 := y10.trans z11
    have hR11 := (z11.2 (nx + 1) (Nat.lt_of_lt_of_le (Nat.lt_succ_self _) y10.1)).trans hR10
    have hP11 := (z11.2 _ pl10).trans hP10
    have pl11 := Nat.lt_of_lt_of_le pl10 z11.1
    refine OpsL.nil ⟨fun _ _ => y11, ?_⟩
    refine OpsQ.go1 6 [] krf (ActStep.walk rfl rfl ?_)
    have hPn : nx + 1 + 1 ≤ N1 := by have := pgeq; omega
    refine OpsL.upd (aop_store (a := ⟨N1, 0, none⟩) (k := 8) (u := .agg (moV (bareF m) Vb).toArray) evd evd xrf rfl (o := (.cells (moV (bareF m) Vb) 0 none false (some 29))) (setc_allN (vs := moV (bareF m) Vb) hP11 rfl hone)) ?_
    have hM12 := (hM.keep (Chg.put (S := [.old, .self]) (b := N1) (o := (.cells (moV (bareF m) Vb) 0 none false (some 29))) (by rw [hPc]; simp)) (by simp)).in
    have y12 := y11.put (k := N1) (o := (.cells (moV (bareF m) Vb) 0 none false (some 29))) hPn
    have hR12 : (τ.H.put (N1) (.cells (moV (bareF m) Vb) 0 none false (some 29))) (nx + 1) = some (.cells (moV noMo nilV) 0 none false (some 29)) := by rw [Heap.put_ne (by omega)]; exact hR11
    refine OpsL.nil ⟨fun _ _ => y12, ?_⟩
    refine OpsQ.nil ⟨rfl, _, _, _, N1, Vb, rfl, stp, stp, stp, pl11, Heap.put_eq, hR12, y12, hM12⟩
  ·refine OpsL.new sdc (aop_alloc (l := moV noMo nilV) xrf) ?_
   have z13 : Ext (nx1) H1 (nx1 + 1) (H1.put (nx1) (.cells (moV noMo nilV) 0 none false (some 29))) := Ext.newPut
   have w13 : (H1.put (nx1) (.cells (moV noMo nilV) 0 none false (some 29))) (nx1) = some (.cells (moV noMo nilV) 0 none false (some 29)) := Heap.put_eq
   generalize hHH : (H1.put (nx1) (.cells (moV noMo nilV) 0 none false (some 29))) = H13 at z13 w13 ⊢
   have y13 := y0.trans z13
   have hR13 := (z13.2 (nx + 1) (Nat.lt_of_lt_of_le (Nat.lt_succ_self _) y0.1)).trans hR0
   have pgeq : nx + 1 + 1 ≤ nx1 := y0.1
   refine OpsL.nil ⟨fun _ _ => y13, ?_⟩
   refine OpsQ.go1 2 [3, 4, 6] krf (ActStep.walk rfl rfl ?_)
   refine OpsL.c1 (hf := entersReached) (hc := (reachedC W0 (hG.ext (x1.trans y13) okG) hn hmod)) (h := ?_)
   rintro v1 N14 H14 ⟨⟨b, b1, b2, rfl, b4⟩, z14⟩
   have y14 := y13.trans z14
   have hR14 := (z14.2 (nx + 1) (Nat.lt_of_lt_of_le (Nat.lt_succ_self _) y13.1)).trans hR13
   have hP14 := (z14.2 _ (Nat.lt_succ_self _)).trans w13
   have pl14 := Nat.lt_of_lt_of_le (Nat.lt_succ_self _) z14.1
   refine OpsL.nil ⟨fun _ _ => y14, ?_⟩
   refine OpsQ.go1 3 [4, 6] krf (ActStep.walk rfl rfl ?_)
   refine OpsL.c1 (hf := entersRanks) (hc := (ranksC W0 (NewP.bools (NewP.of b4)) hrl1)) (h := ?_)
   rintro v2 N15 H15 ⟨⟨d, d1, d2, rfl, d4⟩, z15⟩
   have y15 := y14.trans z15
   have hR15 := (z15.2 (nx + 1) (Nat.lt_of_lt_of_le (Nat.lt_succ_self _) y14.1)).trans hR14
   have hP15 := (z15.2 _ pl14).trans hP14
   have pl15 := Nat.lt_of_lt_of_le pl14 z15.1
   refine OpsL.nil ⟨fun _ _ => y15, ?_⟩
   refine OpsQ.go1 4 [6] krf (ActStep.walk rfl rfl ?_)
   refine OpsL.c2 (hf := entersMerged) (hc := (mergedC W0 (hG.ext (x1.trans y15) okG) hn hmod (NewP.ints (NewP.of d4)) hro.len)) (h := ?_)
   rintro v4 N4 H4 ⟨Vb, τ, rfl, rfl, rfl, ho4, hM⟩
   change MgO τ (bareF m) Vb at hM
   change OpsL _ _ _ _ ⟨tmPut _ _ (.agg (moV (bareF m) Vb).toArray), _, _, _⟩ _
   have z16 := ho4.ext
   have hPc := (ho4.2 _ pl15).1
   have hone := MoIn.one hM.in
   have y16 := y15.trans z16
   have hR16 := (z16.2 (nx + 1) (Nat.lt_of_lt_of_le (Nat.lt_succ_self _) y15.1)).trans hR15
   have hP16 := (z16.2 _ pl15).trans hP15
   have pl16 := Nat.lt_of_lt_of_le pl15 z16.1
   refine OpsL.nil ⟨fun _ _ => y16, ?_⟩
   refine OpsQ.go1 6 [] krf (ActStep.walk rfl rfl ?_)
   have hPn : nx + 1 + 1 ≤ nx1 := by have := pgeq; omega
   refine OpsL.upd (aop_store (a := ⟨nx1, 0, none⟩) (k := 8) (u := .agg (moV (bareF m) Vb).toArray) evd evd xrf rfl (o := (.cells (moV (bareF m) Vb) 0 none false (some 29))) (setc_allN (vs := moV (bareF m) Vb) hP16 rfl hone)) ?_
   have hM17 := (hM.keep (Chg.put (S := [.old, .self]) (b := nx1) (o := (.cells (moV (bareF m) Vb) 0 none false (some 29))) (by rw [hPc]; simp)) (by simp)).in
   have y17 := y16.put (k := nx1) (o := (.cells (moV (bareF m) Vb) 0 none false (some 29))) hPn
   have hR17 : (τ.H.put (nx1) (.cells (moV (bareF m) Vb) 0 none false (some 29))) (nx + 1) = some (.cells (moV noMo nilV) 0 none false (some 29)) := by rw [Heap.put_ne (by omega)]; exact hR16
   refine OpsL.nil ⟨fun _ _ => y17, ?_⟩
   refine OpsQ.nil ⟨rfl, _, _, _, nx1, Vb, rfl, stp, stp, stp, pl16, Heap.put_eq, hR17, y17, hM17⟩
 clear hR0 y0 hF
 rintro e st ⟨rfl, tm, N, H2, P, Vb, rfl, t1, t2, t4, hPl, hP, hR, hx, hM⟩
 (change Trip _ _ _ _ _)
 repeat (first | (refine Trip.seq ?_))
 refine Trip.ok fun hok2 => ?_
 replace hok2 : ∀ id o, H2 id = some o → id < N := hok2
 have hcl := (classesOf_ok hbare).2.1
 refine Trip.mono (Q := fun e st => e = .normal ∧ ∃ (tm' : Nat → Value) (V2 : MoV) (τ : CH), st = ⟨tm', n, τ.H, τ.nx⟩ ∧ tm' 2 = .pointer (some ⟨nx + 1, 0, none⟩) ∧ tm' 3 = .int .i64 0 ∧ τ.H (nx + 1) = some (.cells (moV (smallF m) V2) 0 none false (some 29)) ∧ OldC ⟨nx, fun _ => .old, H⟩ τ ∧ MgO τ (smallF m) V2) ?_ ?_
 ·have hK : ∀ {nn : Nat} {HH : Heap}, Ext N H2 nn HH → getc HH ⟨P, 0, none⟩ 8 = some (moV (bareF m) Vb) := fun h => getc_all (m := 8) (by rw [h.2 P hPl]; exact hP) rfl
  refine OpsQ.drawn [2, 3, 4] (K := fun j nn HH => j < 4 → Ext N H2 nn HH) mixed13 krf krf [0, 1, 2, 3, 4, 5] krf (fun _ _ _ => Ext.refl) ?_
  refine OpsQ.sp 3 (v := .agg (moV (bareF m) Vb).toArray) rfl krf sdc (fun _ => Ext.refl) (fun H3 nx3 h => aop_loadAgg (k := 8) evd xrf rfl xrf (hK (h (by decide)))) ?_
  refine OpsQ.sp 2 (v := .agg (moV (bareF m) Vb).toArray) rfl krf sdc (fun _ => Ext.refl) (fun H3 nx3 h => aop_loadAgg (k := 8) evd xrf rfl xrf (hK (h (by decide)))) ?_
  refine zg16 ?_
  refine OpsL.c1 (hf := entersClassesOf) (hc := (classesOfC W0 hM hbare)) (h := ?_)
  rintro v1 N1 H3 ⟨⟨d, d1, d2, rfl, d4⟩, z1⟩
  refine OpsL.nil ⟨fun _ _ _ => z1, ?_⟩
  refine zg16 ?_
  refine OpsL.c2 (hf := entersMerged) (hc := (mergedC W0 (hM.ext z1 hok2) hbare.lens hbare (NewP.ints (NewP.of d4)) hcl)) (h := ?_)
  rintro v2 N2 H4 ⟨V2, τ, rfl, rfl, rfl, ho, hM2⟩
  change MgO τ (smallF m) V2 at hM2
  change OpsL _ _ _ _ ⟨tmPut _ _ (.agg (moV (smallF m) V2).toArray), _, _, _⟩ _
  refine OpsL.nil ⟨fun _ _ _ => z1.trans ho.ext, ?_⟩
  refine zg16 ?_
  have hlt : nx + 1 < N1 := Nat.lt_of_lt_of_le (Nat.lt_of_lt_of_le (Nat.lt_succ_self _) hx.1) z1.1
  have hR2 := ((ho.2 _ hlt).2.trans (z1.2 _ (Nat.lt_of_lt_of_le (Nat.lt_succ_self _) hx.1))).trans hR
  have hRc := (ho.2 _ hlt).1
  have hone := MoIn.one hM2.in
  refine OpsL.upd (aop_store (a := ⟨nx + 1, 0, none⟩) (k := 8) (u := .agg (moV (smallF m) V2).toArray) evd evd xrf rfl (o := (.cells (moV (smallF m) V2) 0 none false (some 29))) (setc_allN (vs := moV (smallF m) V2) hR2 rfl hone)) ?_
  have xp : Chg [.old] τ ⟨τ.nx, τ.C, τ.H.put (nx + 1) (.cells (moV (smallF m) V2) 0 none false (some 29))⟩ := Chg.put (by rw [hRc]; simp)
  refine OpsL.nil ⟨fun k hk h4 => absurd hk (by intro q; simp at q; omega), ?_⟩
  refine zg8 ?_
  repeat (first | (refine OpsL.q (by exact oasg) ?_) | (refine OpsL.nil ?_; (dsimp only)))
  refine OpsQ.nil ?_
  refine ⟨rfl, _, V2, ⟨τ.nx, τ.C, τ.H.put (nx + 1) (.cells (moV (smallF m) V2) 0 none false (some 29))⟩, rfl, stp, stp, Heap.put_eq, ⟨?_, fun i hi => ⟨?_, ?_⟩⟩, hM2.keep xp (by simp)⟩
  ·exact Nat.le_trans (Nat.le_of_lt (Nat.lt_trans (Nat.lt_succ_self _) hlt)) ho.1
  ·exact (ho.2 i (Nat.lt_trans hi (Nat.lt_trans (Nat.lt_succ_self _) hlt))).1
  ·show (τ.H.put (nx + 1) _) i = H i
   have hi' : i < nx := hi
   rw [Heap.put_ne (by omega), (ho.2 i (by show i < N1; omega)).2]
   show H3 i = H i
   rw [z1.2 i (by have := hx.1; omega), hx.2 i (by omega), x1.2 i (by omega), x0.2 i hi']
 clear t1 t2 t4 hP hR hM
 rintro e st ⟨rfl, tm, V2, τ, rfl, t2, t3, hP, hold, hM⟩
 (change Trip _ _ _ _ _)
 refine zg85 ?_
 exact ⟨.inr rfl, _, res_cell2 (a := ⟨nx + 1, 0, none⟩) (v := .agg (moV (smallF m) V2).toArray) stp (readAt_agg (vs := moV (smallF m) V2) xrf rfl xrf (getc_all hP rfl)), V2, τ, stp, rfl, rfl, hold, hM⟩
end Go.Proofs.Ytjgbcpagfghfnaa
