import Derived.Test.YtjgbcpagfghfnaaQXM30
import Derived.Test.YtjgbcpagfghfnaaQXM15
set_option linter.unusedVariables false
set_option linter.unusedSimpArgs false
namespace Go.Am
open Go.RowKit
def mgD (m : Mo) (cls L : List Int) (i : Nat) : Mo :=
 { plains := m.plains, closings := m.closings, entry := pickL cls m.entry
   of := (L.take i).map fun p => m.of.getD p.toNat 0
   final := (L.take i).map fun p => m.final.getD p.toNat false
   inn := (L.take i).map fun p => pickL cls (m.inn.getD p.toNat [])
   low := (L.take i).map fun p => pickL cls (m.low.getD p.toNat [])
   ret := (L.take i).map fun p => (m.ret.getD p.toNat []).map fun row => pickL cls (pickL row L) }
theorem mgD_succ (m : Mo) (cls L : List Int) {i p : Nat} (h : i < L.length) (hp : L.getD i 0 = (p : Int)) : mgD m cls L (i + 1) = { mgD m cls L i with of := (mgD m cls L i).of ++ [m.of.getD p 0], final := (mgD m cls L i).final ++ [m.final.getD p false], inn := (mgD m cls L i).inn ++ [pickL cls (m.inn.getD p [])], low := (mgD m cls L i).low ++ [pickL cls (m.low.getD p [])], ret := (mgD m cls L i).ret ++ [(m.ret.getD p []).map fun row => pickL cls (pickL row L)] } := by
 have e : L[i] = (p : Int) := by rw [← hp, List.getD_eq_getElem?_getD, List.getElem?_eq_getElem h]; rfl
 unfold mgD
 simp only [List.take_succ_eq_append_getElem h, List.map_append, List.map_cons, List.map_nil, e, Int.toNat_natCast]
theorem mgD_all (m : Mo) (cls : List Int) : mgD m cls (leastsL cls) (leastsL cls).length = mergedF m cls := by
 unfold mgD mergedF
 rw [List.take_length]
theorem mgD_len (m : Mo) (cls L : List Int) {i : Nat} (h : i ≤ L.length) : (mgD m cls L i).of.length = i ∧ (mgD m cls L i).final.length = i ∧ (mgD m cls L i).inn.length = i ∧ (mgD m cls L i).low.length = i ∧ (mgD m cls L i).ret.length = i := by
 simp only [mgD, List.length_map, List.length_take]
 omega
theorem OldC.refl {nx : Nat} {G : Heap} : OldC ⟨nx, fun _ => .old, G⟩ ⟨nx, fun _ => .old, G⟩ := ⟨Nat.le_refl _, fun _ _ => ⟨rfl, rfl⟩⟩
end Go.Am
namespace Go.Proofs.Ytjgbcpagfghfnaa
open Go.Am Go.RowKit
attribute [local irreducible] aop OpsL Trip blockExit OpsD OpsK OpsR OpsQ
structure MgO (σ : CH) (m : Mo) (V : MoV) : Prop where
 of : OwnC encN 3 .of σ V.o m.of
 en : PlainC 3 .entry σ V.e (m.entry.map (.int .i64 ·))
 fi : OwnC encBo 4 .final σ V.f m.final
 inn : RowP2 .inn1 .inn σ V.i m.inn
 low : RowP2 .low1 .low σ V.l m.low
 ret : RowP3 σ V.r m.ret
theorem MgO.in {σ : CH} {m : Mo} {V : MoV} (h : MgO σ m V) : MoIn σ.H m V :=
 ⟨h.of.ints, h.en.ints, h.fi.bools, OwnLC.at (fun _ _ _ hr => hr.ints) h.inn, OwnLC.at (fun _ _ _ hr => hr.ints) h.low, OwnLC.at (fun _ _ _ hr => OwnLC.at (fun _ _ _ hr => hr.ints) hr) h.ret⟩
set_option maxRecDepth 20000 in
set_option maxHeartbeats 16000000 in
theorem mergedH (W0 : World) {nx : Nat} {G : Heap} {m : Mo} {V : MoV} {cv : Value} {cls : List Int} {tm : Nat → Value} {n : Nat} {σ : CH} (hn0 : n = 100) (hn : MoLen m) (hst : MoSt m) (hl : cls.length = m.of.length) (okG : ∀ id o, G id = some o → id < nx + 1) (hb : MoBox G nx m V) (hG : MoIn G m V) (hcG : IntsAt G cv cls) (hoσ : OldC ⟨nx + 1, fun _ => .old, G⟩ σ) (hRσ : ObC .tmp σ (nx + 1) (.cells (moV noMo nilV) 0 none false (some 29)))
  (t1 : tm 1 = cv) (t2 : tm 2 = .pointer (some ⟨nx, 0, none⟩)) (t4 : tm 4 = .pointer (some ⟨nx + 1, 0, none⟩)) {Q : AExit → ASt → Prop}
  (hQ : ∀ e st, (e = .normal ∧ ∃ (tm' : Nat → Value) (τ : CH) (A : Nat) (ve : Value), st = ⟨tm', n, τ.H, τ.nx⟩ ∧ tm' 1 = cv ∧ tm' 2 = .pointer (some ⟨nx, 0, none⟩) ∧ tm' 4 = .pointer (some ⟨nx + 1, 0, none⟩) ∧ tm' 5 = .pointer (some ⟨A, 0, none⟩) ∧ OldC ⟨nx + 1, fun _ => .old, G⟩ τ ∧ ObC .self τ A (mObj m.plains m.closings ⟨.slice none 0 0, ve, .slice none 0 0, .slice none 0 0, .slice none 0 0, .slice none 0 0⟩) ∧ ObC .tmp τ (nx + 1) (.cells (moV noMo nilV) 0 none false (some 29)) ∧ PlainC 3 .entry τ ve ((pickL cls m.entry).map (.int .i64 ·))) → Q e st) :
  Trip Try.prog W0 (subC [1, 0] (bodyMk Try.f23)) ⟨tm, n, σ.H, σ.nx⟩ Q := by
 refine Trip.mono (Q := fun e st => e = .normal ∧ ∃ (tm' : Nat → Value) (τ : CH) (A : Nat) (ve : Value), st = ⟨tm', n, τ.H, τ.nx⟩ ∧ tm' 1 = cv ∧ tm' 2 = .pointer (some ⟨nx, 0, none⟩) ∧ tm' 4 = .pointer (some ⟨nx + 1, 0, none⟩) ∧ tm' 5 = .pointer (some ⟨A, 0, none⟩) ∧ OldC ⟨nx + 1, fun _ => .old, G⟩ τ ∧ ObC .self τ A (mObj m.plains m.closings ⟨.slice none 0 0, ve, .slice none 0 0, .slice none 0 0, .slice none 0 0, .slice none 0 0⟩) ∧ ObC .tmp τ (nx + 1) (.cells (moV noMo nilV) 0 none false (some 29)) ∧ PlainC 3 .entry τ ve ((pickL cls m.entry).map (.int .i64 ·))) ?_ hQ
 clear hQ
 have hen : ∀ i, i < m.entry.length → 0 ≤ m.entry.getD i 0 ∧ m.entry.getD i 0 < cls.length := fun i hi => by rw [hl]; exact hst.entry _ (getD_memI hi)
 obtain ⟨ea, ec, ev⟩ := hG.entry.slice
 have eh := hG.entry
 have hK : ∀ τ : CH, OldC ⟨nx + 1, fun _ => .old, G⟩ τ → ∀ l : List Nat, ∀ k ∈ l, cellAt τ.H ⟨nx, 0, none⟩ (.int .i64 m.plains) ∧ cellAt τ.H ⟨nx, 1, none⟩ (.int .i64 m.closings) ∧ cellAt τ.H ⟨nx, 3, none⟩ V.e := fun τ h _ _ _ => ⟨(hb.ext h.ext okG).c0, (hb.ext h.ext okG).c1, (hb.ext h.ext okG).c3⟩
 have h0 := hK σ hoσ [0] 0 (by simp)
 refine OpsQ.drawn [7, 8, 9, 10] (K := fun _ _ H => cellAt H ⟨nx, 0, none⟩ (.int .i64 m.plains) ∧ cellAt H ⟨nx, 1, none⟩ (.int .i64 m.closings) ∧ cellAt H ⟨nx, 3, none⟩ V.e) mixed13 krf krf [0, 1, 2, 3, 4, 5, 6, 7, 8, 9, 10] krf (hK σ hoσ _) ?_
 refine zg4 ?_
 refine OpsQ.sp 8 (v := .int .i64 m.plains) rfl krf sdc h0 (fun H2 nx2 hK => aop_load evr xrf rfl hK.1) ?_
 refine zg4 ?_
 refine OpsQ.sp 8 (v := .int .i64 m.closings) rfl krf sdc h0 (fun H2 nx2 hK => aop_load evr xrf rfl hK.2.1) ?_
 refine zg48 ?_
 refine zg4 ?_
 refine OpsQ.sp 7 (v := V.e) rfl krf sdc h0 (fun H2 nx2 hK => aop_load evr xrf rfl hK.2.2) ?_
 refine OpsQ.go2 7 9 [8, 9, 10] [7, 8, 10] krf (ActStep.walk rfl rfl ?_) (ActStep.walk rfl rfl ?_)
 ·refine OpsL.c2 (hf := entersPick) (hc := (pickC W0 (hcG.ext hoσ.ext okG) (eh.ext hoσ.ext okG) hn.entry hen)) (h := ?_)
  rintro ve nx1 H1 ⟨hp, hx⟩
  obtain ⟨τ1, rfl, rfl, xτ1, hEτ1⟩ := hp.plain hx .entry
  obtain ⟨be, hve, -⟩ := hEτ1.block
  subst hve
  have hoτ1 := hoσ.keep xτ1 (by simp)
  have hRτ1 := hRσ.keep xτ1 (by simp)
  refine OpsL.nil ⟨hK τ1 hoτ1 _, ?_⟩
  refine OpsQ.go2 8 9 [9, 10] [8, 10] krf (ActStep.walk rfl rfl ?_) (ActStep.walk rfl rfl ?_)
  ·refine OpsL.p sdc (aop_build (l := [(0, .int .i64 m.plains), (1, .int .i64 m.closings), (3, .slice (some ⟨be, 0, none⟩) (pickL cls m.entry).length (pickL cls m.entry).length)]) (v := .agg (moC m.plains m.closings ⟨.slice none 0 0, .slice (some ⟨be, 0, none⟩) (pickL cls m.entry).length (pickL cls m.entry).length, .slice none 0 0, .slice none 0 0, .slice none 0 0, .slice none 0 0⟩).toArray) (by simp [evParts, ASt.ev, tmPut, *]) krf) ?_
   refine OpsL.nil ⟨hK τ1 hoτ1 _, ?_⟩
   refine OpsQ.go1 9 [10] krf (ActStep.walk rfl rfl ?_)
   refine OpsL.newC .self (aop_alloc (l := moV noMo nilV) xrf) sdc ?_
   intro τ3 hAτ3 xτ3
   obtain ⟨nxA, hnxA⟩ : ∃ k, τ1.nx = k := ⟨_, rfl⟩
   rw [hnxA] at hAτ3
   try rw [hnxA]
   have hoτ3 := hoτ1.keep xτ3 (by simp)
   have hRτ3 := hRτ1.keep xτ3 (by simp)
   have hEτ3 := hEτ1.keep xτ3 (by simp)
   refine OpsL.nil ⟨hK τ3 hoτ3 _, ?_⟩
   refine OpsQ.go1 10 [] krf (ActStep.walk rfl rfl ?_)
   refine OpsL.setAllC (vs := moC m.plains m.closings ⟨.slice none 0 0, .slice (some ⟨be, 0, none⟩) (pickL cls m.entry).length (pickL cls m.entry).length, .slice none 0 0, .slice none 0 0, .slice none 0 0, .slice none 0 0⟩) hAτ3 xrf rfl rfl rfl evd evd ?_
   intro τ4 hAτ4 xτ4
   have hoτ4 := hoτ3.keep xτ4 (by simp)
   have hRτ4 := hRτ3.keep xτ4 (by simp)
   have hEτ4 := hEτ3.keep xτ4 (by simp)
   refine OpsL.nil ⟨hK τ4 hoτ4 _, ?_⟩
   refine OpsQ.nil ⟨rfl, _, τ4, nxA, .slice (some ⟨be, 0, none⟩) (pickL cls m.entry).length (pickL cls m.entry).length, rfl, stp, stp, stp, stp, hoτ4, hAτ4, hRτ4, hEτ4⟩
  ·refine OpsL.newC .self (aop_alloc (l := moV noMo nilV) xrf) sdc ?_
   intro τ5 hAτ5 xτ5
   obtain ⟨nxA, hnxA⟩ : ∃ k, τ1.nx = k := ⟨_, rfl⟩
   rw [hnxA] at hAτ5
   try rw [hnxA]
   have hoτ5 := hoτ1.keep xτ5 (by simp)
   have hRτ5 := hRτ1.keep xτ5 (by simp)
   have hEτ5 := hEτ1.keep xτ5 (by simp)
   refine OpsL.nil ⟨hK τ5 hoτ5 _, ?_⟩
   refine OpsQ.go1 8 [10] krf (ActStep.walk rfl rfl ?_)
   refine OpsL.p sdc (aop_build (l := [(0, .int .i64 m.plains), (1, .int .i64 m.closings), (3, .slice (some ⟨be, 0, none⟩) (pickL cls m.entry).length (pickL cls m.entry).length)]) (v := .agg (moC m.plains m.closings ⟨.slice none 0 0, .slice (some ⟨be, 0, none⟩) (pickL cls m.entry).length (pickL cls m.entry).length, .slice none 0 0, .slice none 0 0, .slice none 0 0, .slice none 0 0⟩).toArray) (by simp [evParts, ASt.ev, tmPut, *]) krf) ?_
   refine OpsL.nil ⟨hK τ5 hoτ5 _, ?_⟩
   refine OpsQ.go1 10 [] krf (ActStep.walk rfl rfl ?_)
   refine OpsL.setAllC (vs := moC m.plains m.closings ⟨.slice none 0 0, .slice (some ⟨be, 0, none⟩) (pickL cls m.entry).length (pickL cls m.entry).length, .slice none 0 0, .slice none 0 0, .slice none 0 0, .slice none 0 0⟩) hAτ5 xrf rfl rfl rfl evd evd ?_
   intro τ7 hAτ7 xτ7
   have hoτ7 := hoτ5.keep xτ7 (by simp)
   have hRτ7 := hRτ5.keep xτ7 (by simp)
   have hEτ7 := hEτ5.keep xτ7 (by simp)
   refine OpsL.nil ⟨hK τ7 hoτ7 _, ?_⟩
   refine OpsQ.nil ⟨rfl, _, τ7, nxA, .slice (some ⟨be, 0, none⟩) (pickL cls m.entry).length (pickL cls m.entry).length, rfl, stp, stp, stp, stp, hoτ7, hAτ7, hRτ7, hEτ7⟩
 ·refine OpsL.newC .self (aop_alloc (l := moV noMo nilV) xrf) sdc ?_
  intro τ8 hAτ8 xτ8
  obtain ⟨nxA, hnxA⟩ : ∃ k, σ.nx = k := ⟨_, rfl⟩
  rw [hnxA] at hAτ8
  try rw [hnxA]
  have hoτ8 := hoσ.keep xτ8 (by simp)
  have hRτ8 := hRσ.keep xτ8 (by simp)
  refine OpsL.nil ⟨hK τ8 hoτ8 _, ?_⟩
  refine OpsQ.go1 7 [8, 10] krf (ActStep.walk rfl rfl ?_)
  refine OpsL.c2 (hf := entersPick) (hc := (pickC W0 (hcG.ext hoτ8.ext okG) (eh.ext hoτ8.ext okG) hn.entry hen)) (h := ?_)
  rintro ve nx1 H1 ⟨hp, hx⟩
  obtain ⟨τ9, rfl, rfl, xτ9, hEτ9⟩ := hp.plain hx .entry
  obtain ⟨be, hve, -⟩ := hEτ9.block
  subst hve
  have hoτ9 := hoτ8.keep xτ9 (by simp)
  have hRτ9 := hRτ8.keep xτ9 (by simp)
  have hAτ9 := hAτ8.keep xτ9 (by simp)
  refine OpsL.nil ⟨hK τ9 hoτ9 _, ?_⟩
  refine OpsQ.go1 8 [10] krf (ActStep.walk rfl rfl ?_)
  refine OpsL.p sdc (aop_build (l := [(0, .int .i64 m.plains), (1, .int .i64 m.closings), (3, .slice (some ⟨be, 0, none⟩) (pickL cls m.entry).length (pickL cls m.entry).length)]) (v := .agg (moC m.plains m.closings ⟨.slice none 0 0, .slice (some ⟨be, 0, none⟩) (pickL cls m.entry).length (pickL cls m.entry).length, .slice none 0 0, .slice none 0 0, .slice none 0 0, .slice none 0 0⟩).toArray) (by simp [evParts, ASt.ev, tmPut, *]) krf) ?_
  refine OpsL.nil ⟨hK τ9 hoτ9 _, ?_⟩
  refine OpsQ.go1 10 [] krf (ActStep.walk rfl rfl ?_)
  refine OpsL.setAllC (vs := moC m.plains m.closings ⟨.slice none 0 0, .slice (some ⟨be, 0, none⟩) (pickL cls m.entry).length (pickL cls m.entry).length, .slice none 0 0, .slice none 0 0, .slice none 0 0, .slice none 0 0⟩) hAτ9 xrf rfl rfl rfl evd evd ?_
  intro τ11 hAτ11 xτ11
  have hoτ11 := hoτ9.keep xτ11 (by simp)
  have hRτ11 := hRτ9.keep xτ11 (by simp)
  have hEτ11 := hEτ9.keep xτ11 (by simp)
  refine OpsL.nil ⟨hK τ11 hoτ11 _, ?_⟩
  refine OpsQ.nil ⟨rfl, _, τ11, nxA, .slice (some ⟨be, 0, none⟩) (pickL cls m.entry).length (pickL cls m.entry).length, rfl, stp, stp, stp, stp, hoτ11, hAτ11, hRτ11, hEτ11⟩
end Go.Proofs.Ytjgbcpagfghfnaa
namespace Go.Proofs.Ytjgbcpagfghfnaa
open Go.Am Go.RowKit
attribute [local irreducible] aop OpsL Trip blockExit OpsD OpsK OpsR OpsQ
structure MT (tm : Nat → Value) (cv lv : Value) (nx A i p N : Nat) : Prop where
 t1 : tm 1 = cv
 t2 : tm 2 = .pointer (some ⟨nx, 0, none⟩)
 t4 : tm 4 = .pointer (some ⟨nx + 1, 0, none⟩)
 t5 : tm 5 = .pointer (some ⟨A, 0, none⟩)
 t6 : tm 6 = lv
 t8 : tm 8 = .int .i64 p
 t23 : tm 23 = lv
 t24 : tm 24 = .int .i64 N
 t25 : tm 25 = .int .i64 i
set_option maxRecDepth 20000 in
set_option maxHeartbeats 16000000 in
theorem mA6 (W0 : World) {nx : Nat} {G : Heap} {m : Mo} {V0 : MoV} {cv lv : Value} {cls L : List Int} {tm : Nat → Value} {n : Nat} {σ : CH} {A i p N : Nat} {pl cl : Int} {D : Mo} {V : MoV} (hn0 : n = 100) (hn : MoLen m) (hmod : ModOk m) (hl : cls.length = m.of.length) (okG : ∀ id o, G id = some o → id < nx + 1) (hb : MoBox G nx m V0) (hG : MoIn G m V0) (hcG : IntsAt G cv cls) (hp : p < m.of.length) (hT : MT tm cv lv nx A i p N) (hL : OwnC encN 3 .next σ lv L) (h : MgS ⟨nx + 1, fun _ => .old, G⟩ σ A (nx + 1) pl cl D V) (hlen : D.of.length ≤ 1000) {Q : AExit → ASt → Prop} (hQ : ∀ tm' τ V', MT tm' cv lv nx A i p N → OwnC encN 3 .next τ lv L → MgS ⟨nx + 1, fun _ => .old, G⟩ τ A (nx + 1) pl cl { D with of := D.of ++ [m.of.getD p 0] } V' → Q .normal ⟨tm', n, τ.H, τ.nx⟩) : Trip Try.prog W0 (subC [1, 1, 1, 0, 1, 2, 2, 1, 1, 0, 2, 1, 0] (bodyMk Try.f23)) ⟨tm, n, σ.H, σ.nx⟩ Q := by
 have hst := hmod.st
 obtain ⟨t1, t2, t4, t5, t6, t8, t23, t24, t25⟩ := hT
 obtain ⟨oa, oc, ov⟩ := hG.of.slice
 have oh := hG.of
 have gk := (hb.ext h.old.ext okG).c2
 rw [ov] at oh gk
 have hpl := hp
 obtain ⟨q1, rfl, hc1⟩ := IntsAt.atI oh (show (0 : Int) ≤ p by omega) (show (p : Int) < m.of.length by omega)
 rw [Int.toNat_natCast] at hc1
 replace hc1 := cell_ext h.old.ext okG hc1
 have ga : cellAt σ.H ⟨A, 2, none⟩ V.o := h.a.cell rfl
 have hpl2 : (p : Int) < m.of.length := by omega
 clear hpl
 refine OpsQ.drawn [7, 8, 10] (K := fun j _ H => j = 8 → cellAt H ⟨A, 2, none⟩ V.o) mixed13 krf krf [0, 1, 2, 3, 4, 5, 6, 7, 8, 9, 10] krf (fun _ _ _ => ga) ?_
 refine zg4 ?_
 refine OpsQ.sp 8 (v := V.o) rfl krf sdc (fun _ => ga) (fun H2 nx2 hK => aop_load evr xrf rfl (hK rfl)) ?_
 refine zg119 ?_
 refine zg16 ?_
 refine OpsL.litC (σ := σ) (enc := encN) (z := (m.of.getD p 0)) (el := 3) rfl evd krf sdc ?_
 intro σ2 x2 hu
 replace hL := hL.keep x2 (by simp)
 replace h := h.loc x2 (by simp)
 refine OpsL.nil ⟨fun _ _ _ => h.a.cell rfl, ?_⟩
 refine zg16 ?_
 refine OpsL.appC (bytes := 8) (z := [.int .i64 0]) encN_len encN_one h.of hu xrf xrf xrf xrf xrf rfl (by simp; omega) (by omega) evd evd sdc ?_
 intro v3 σ3 hown x3
 replace hL := hL.keep x3 (by simp)
 have ha3 := h.a.keep x3 (by simp)
 obtain ⟨wa, wk, rfl⟩ := OwnC.slice encN_len hown
 refine OpsL.nil ⟨fun k hk e => by simp at hk; omega, ?_⟩
 refine zg110 ?_
 refine OpsL.setC (k := 2) (v := .slice wa (D.of ++ [(m.of.getD p 0)]).length wk) (cs' := moC pl cl { V with o := .slice wa (D.of ++ [(m.of.getD p 0)]).length wk }) ha3 (by simp [moC]) rfl xrf rfl rfl evr evd rfl ?_
 intro τ hat xt _
 replace hL := hL.keep xt (by simp)
 replace hown := hown.keep xt (by simp)
 refine OpsL.nil ⟨fun k hk => absurd hk (by simp), ?_⟩
 refine OpsQ.nil ?_
 exact hQ _ τ _ ⟨stp, stp, stp, stp, stp, stp, stp, stp, stp⟩ hL (h.setOf (x3.trans2 xt (fun c hc => by simp at hc; simp [hc]) (fun c hc => by simp at hc; simp [hc])) hown hat)
set_option maxRecDepth 20000 in
set_option maxHeartbeats 16000000 in
theorem mA7 (W0 : World) {nx : Nat} {G : Heap} {m : Mo} {V0 : MoV} {cv lv : Value} {cls L : List Int} {tm : Nat → Value} {n : Nat} {σ : CH} {A i p N : Nat} {pl cl : Int} {D : Mo} {V : MoV} (hn0 : n = 100) (hn : MoLen m) (hmod : ModOk m) (hl : cls.length = m.of.length) (okG : ∀ id o, G id = some o → id < nx + 1) (hb : MoBox G nx m V0) (hG : MoIn G m V0) (hcG : IntsAt G cv cls) (hp : p < m.of.length) (hT : MT tm cv lv nx A i p N) (hL : OwnC encN 3 .next σ lv L) (h : MgS ⟨nx + 1, fun _ => .old, G⟩ σ A (nx + 1) pl cl D V) (hlen : D.final.length ≤ 1000) {Q : AExit → ASt → Prop} (hQ : ∀ tm' τ V', MT tm' cv lv nx A i p N → OwnC encN 3 .next τ lv L → MgS ⟨nx + 1, fun _ => .old, G⟩ τ A (nx + 1) pl cl { D with final := D.final ++ [m.final.getD p false] } V' → Q .normal ⟨tm', n, τ.H, τ.nx⟩) : Trip Try.prog W0 (subC [1, 1, 1, 0, 1, 2, 2, 1, 1, 0, 2, 1, 1, 0] (bodyMk Try.f23)) ⟨tm, n, σ.H, σ.nx⟩ Q := by
 have hst := hmod.st
 obtain ⟨t1, t2, t4, t5, t6, t8, t23, t24, t25⟩ := hT
 obtain ⟨oa, oc, ov⟩ := hG.final.slice
 have oh := hG.final
 have gk := (hb.ext h.old.ext okG).c4
 rw [ov] at oh gk
 have hpl : p < m.final.length := by have := hmod.fl; omega
 obtain ⟨q1, rfl, hc1⟩ := BoolsAt.atI oh (show (0 : Int) ≤ p by omega) (show (p : Int) < m.final.length by omega)
 rw [Int.toNat_natCast] at hc1
 replace hc1 := cell_ext h.old.ext okG hc1
 have ga : cellAt σ.H ⟨A, 4, none⟩ V.f := h.a.cell rfl
 have hpl2 : (p : Int) < m.final.length := by omega
 clear hpl
 refine OpsQ.drawn [7, 8, 10] (K := fun j _ H => j = 8 → cellAt H ⟨A, 4, none⟩ V.f) mixed13 krf krf [0, 1, 2, 3, 4, 5, 6, 7, 8, 9, 10] krf (fun _ _ _ => ga) ?_
 refine zg4 ?_
 refine OpsQ.sp 8 (v := V.f) rfl krf sdc (fun _ => ga) (fun H2 nx2 hK => aop_load evr xrf rfl (hK rfl)) ?_
 refine zg119 ?_
 refine zg16 ?_
 refine OpsL.litC (σ := σ) (enc := encBo) (z := (m.final.getD p false)) (el := 4) rfl evd krf sdc ?_
 intro σ2 x2 hu
 replace hL := hL.keep x2 (by simp)
 replace h := h.loc x2 (by simp)
 refine OpsL.nil ⟨fun _ _ _ => h.a.cell rfl, ?_⟩
 refine zg16 ?_
 refine OpsL.appC (bytes := 1) (z := [.bool false]) encBo_len encBo_one h.fi hu xrf xrf xrf xrf xrf rfl (by simp; omega) (by omega) evd evd sdc ?_
 intro v3 σ3 hown x3
 replace hL := hL.keep x3 (by simp)
 have ha3 := h.a.keep x3 (by simp)
 obtain ⟨wa, wk, rfl⟩ := OwnC.slice encBo_len hown
 refine OpsL.nil ⟨fun k hk e => by simp at hk; omega, ?_⟩
 refine zg110 ?_
 refine OpsL.setC (k := 4) (v := .slice wa (D.final ++ [(m.final.getD p false)]).length wk) (cs' := moC pl cl { V with f := .slice wa (D.final ++ [(m.final.getD p false)]).length wk }) ha3 (by simp [moC]) rfl xrf rfl rfl evr evd rfl ?_
 intro τ hat xt _
 replace hL := hL.keep xt (by simp)
 replace hown := hown.keep xt (by simp)
 refine OpsL.nil ⟨fun k hk => absurd hk (by simp), ?_⟩
 refine OpsQ.nil ?_
 exact hQ _ τ _ ⟨stp, stp, stp, stp, stp, stp, stp, stp, stp⟩ hL (h.setFi (x3.trans2 xt (fun c hc => by simp at hc; simp [hc]) (fun c hc => by simp at hc; simp [hc])) hown hat)
end Go.Proofs.Ytjgbcpagfghfnaa
namespace Go.Proofs.Ytjgbcpagfghfnaa
open Go.Am Go.RowKit
attribute [local irreducible] aop OpsL Trip blockExit OpsD OpsK OpsR OpsQ
set_option maxRecDepth 20000 in
set_option maxHeartbeats 16000000 in
theorem mA8 (W0 : World) {nx : Nat} {G : Heap} {m : Mo} {V0 : MoV} {cv lv : Value} {cls L : List Int} {tm : Nat → Value} {n : Nat} {σ : CH} {A i p N : Nat} {pl cl : Int} {D : Mo} {V : MoV} (hn0 : n = 100) (hn : MoLen m) (hmod : ModOk m) (hl : cls.length = m.of.length) (okG : ∀ id o, G id = some o → id < nx + 1) (hb : MoBox G nx m V0) (hG : MoIn G m V0) (hcG : IntsAt G cv cls) (hp : p < m.of.length) (hT : MT tm cv lv nx A i p N) (hL : OwnC encN 3 .next σ lv L) (h : MgS ⟨nx + 1, fun _ => .old, G⟩ σ A (nx + 1) pl cl D V) (hlen : D.inn.length ≤ 1000) {Q : AExit → ASt → Prop} (hQ : ∀ tm' τ V', MT tm' cv lv nx A i p N → OwnC encN 3 .next τ lv L → MgS ⟨nx + 1, fun _ => .old, G⟩ τ A (nx + 1) pl cl { D with inn := D.inn ++ [pickL cls (m.inn.getD p [])] } V' → Q .normal ⟨tm', n, τ.H, τ.nx⟩) : Trip Try.prog W0 (subC [1, 1, 1, 0, 1, 2, 2, 1, 1, 0, 2, 1, 1, 1, 0] (bodyMk Try.f23)) ⟨tm, n, σ.H, σ.nx⟩ Q := by
 have hst := hmod.st
 obtain ⟨t1, t2, t4, t5, t6, t8, t23, t24, t25⟩ := hT
 obtain ⟨oa, oc, ov⟩ := hG.inn.slice
 have oh := hG.inn
 have gk := (hb.ext h.old.ext okG).c5
 rw [ov] at oh gk
 have hpl := Nat.lt_of_lt_of_eq hp hmod.il.symm
 obtain ⟨q1, rb, rk, rfl, hc1, hrow⟩ := L2At.atI oh (show (0 : Int) ≤ p by omega) (show (p : Int) < m.inn.length by omega)
 rw [Int.toNat_natCast] at hc1 hrow
 replace hc1 := cell_ext h.old.ext okG hc1
 have ga : cellAt σ.H ⟨A, 5, none⟩ V.i := h.a.cell rfl
 have hin : ∀ i, i < (m.inn.getD p []).length → 0 ≤ (m.inn.getD p []).getD i 0 ∧ (m.inn.getD p []).getD i 0 < cls.length := fun i hi => by rw [hl]; exact hst.inn p _ (getD_memI hi)
 have hrl := hn.inn1 p
 obtain ⟨row, hrw⟩ : ∃ row, m.inn.getD p [] = row := ⟨_, rfl⟩
 rw [hrw] at hc1 hrow hin hrl hQ
 clear hrw
 refine OpsQ.drawn [8, 9, 10, 12] (K := fun j _ H => j = 10 → cellAt H ⟨A, 5, none⟩ V.i) mixed13 krf krf [0, 1, 2, 3, 4, 5, 6, 7, 8, 9, 10, 11, 12] krf (fun _ _ _ => ga) ?_
 refine zg4 ?_
 refine OpsQ.sp 10 (v := V.i) rfl krf sdc (fun _ => ga) (fun H2 nx2 hK => aop_load evr xrf rfl (hK rfl)) ?_
 refine zg48 ?_
 refine zg119 ?_
 clear ga gk hc1 hpl
 refine zg16 ?_
 refine OpsL.c2 (hf := entersPick) (hc := (pickC W0 (hcG.ext h.old.ext okG) (hrow.ext h.old.ext okG) hrl hin)) (h := ?_)
 rintro v1 nx1 H1 ⟨hpk, hx⟩
 obtain ⟨σ1, rfl, rfl, x1, hP⟩ := hpk.plain hx (.inn1 D.inn.length)
 replace hL := hL.keep x1 (by simp)
 replace h := h.loc x1 (by simp)
 obtain ⟨b, hv1, hbk⟩ := hP.block
 obtain ⟨z, hz⟩ : ∃ z : SV, .slice (some ⟨b, 0, none⟩) (pickL cls row).length (pickL cls row).length = slV z := ⟨(some ⟨b, 0, none⟩, (pickL cls row).length, (pickL cls row).length), rfl⟩
 rw [hz] at hv1
 subst hv1
 clear hz
 refine OpsL.nil ⟨fun _ _ _ => h.a.cell rfl, ?_⟩
 refine zg16 ?_
 refine OpsL.litC (σ := σ1) (enc := encS) (a := slV z) (z := z) (el := 22) rfl evd krf sdc ?_
 intro σ2 x2 hu
 replace hL := hL.keep x2 (by simp)
 replace h := h.loc x2 (by simp)
 replace hP := hP.keep x2 (by simp)
 refine OpsL.nil ⟨fun _ _ _ => h.a.cell rfl, ?_⟩
 obtain ⟨vs, hvs, hall⟩ := h.inn
 refine zg16 ?_
 refine OpsL.appC (bytes := 24) (z := [.slice none 0 0]) encS_len encS_one hvs hu xrf xrf xrf xrf xrf rfl (by have := hall.1; simp; omega) (by omega) evd evd sdc ?_
 intro v3 σ3 hown x3
 replace hL := hL.keep x3 (by simp)
 have ha3 := h.a.keep x3 (by simp)
 replace hall := hall.keep (fun i u x _ hr => hr.keep x3 (by simp))
 replace hP := hP.keep x3 (by simp)
 obtain ⟨wa, wk, rfl⟩ := OwnC.slice encS_len hown
 refine OpsL.nil ⟨fun k hk e => by simp at hk; omega, ?_⟩
 refine zg110 ?_
 refine OpsL.setC (k := 5) (v := .slice wa (vs ++ [z]).length wk) (cs' := moC pl cl { V with i := .slice wa (vs ++ [z]).length wk }) ha3 (by simp [moC]) rfl xrf rfl rfl evr evd rfl ?_
 intro τ hat xt _
 replace hL := hL.keep xt (by simp)
 replace hown := hown.keep xt (by simp)
 replace hall := hall.keep (fun i u x _ hr => hr.keep xt (by simp))
 replace hP := hP.keep xt (by simp)
 refine OpsL.nil ⟨fun k hk => absurd hk (by simp), ?_⟩
 refine OpsQ.nil ?_
 have hrw : RowP2 .inn1 .inn τ (.slice wa (vs ++ [z]).length wk) (D.inn ++ [pickL cls row]) := ⟨_, hown, hall.push hP⟩
 have h9 := h.setIn (x3.trans2 xt (fun c hc => by simp at hc; simp [hc]) (fun c hc => by simp at hc; simp [hc])) hrw hat
 exact hQ _ τ _ ⟨stp, stp, stp, stp, stp, stp, stp, stp, stp⟩ hL h9
set_option maxRecDepth 20000 in
set_option maxHeartbeats 16000000 in
theorem mA9 (W0 : World) {nx : Nat} {G : Heap} {m : Mo} {V0 : MoV} {cv lv : Value} {cls L : List Int} {tm : Nat → Value} {n : Nat} {σ : CH} {A i p N : Nat} {pl cl : Int} {D : Mo} {V : MoV} (hn0 : n = 100) (hn : MoLen m) (hmod : ModOk m) (hl : cls.length = m.of.length) (okG : ∀ id o, G id = some o → id < nx + 1) (hb : MoBox G nx m V0) (hG : MoIn G m V0) (hcG : IntsAt G cv cls) (hp : p < m.of.length) (hT : MT tm cv lv nx A i p N) (hL : OwnC encN 3 .next σ lv L) (h : MgS ⟨nx + 1, fun _ => .old, G⟩ σ A (nx + 1) pl cl D V) (hlen : D.low.length ≤ 1000) {Q : AExit → ASt → Prop} (hQ : ∀ tm' τ V', MT tm' cv lv nx A i p N → OwnC encN 3 .next τ lv L → MgS ⟨nx + 1, fun _ => .old, G⟩ τ A (nx + 1) pl cl { D with low := D.low ++ [pickL cls (m.low.getD p [])] } V' → Q .normal ⟨tm', n, τ.H, τ.nx⟩) : Trip Try.prog W0 (subC [1, 1, 1, 0, 1, 2, 2, 1, 1, 0, 2, 1, 1, 1, 1, 0] (bodyMk Try.f23)) ⟨tm, n, σ.H, σ.nx⟩ Q := by
 have hst := hmod.st
 obtain ⟨t1, t2, t4, t5, t6, t8, t23, t24, t25⟩ := hT
 obtain ⟨oa, oc, ov⟩ := hG.low.slice
 have oh := hG.low
 have gk := (hb.ext h.old.ext okG).c6
 rw [ov] at oh gk
 have hpl := Nat.lt_of_lt_of_eq hp hmod.ll.symm
 obtain ⟨q1, rb, rk, rfl, hc1, hrow⟩ := L2At.atI oh (show (0 : Int) ≤ p by omega) (show (p : Int) < m.low.length by omega)
 rw [Int.toNat_natCast] at hc1 hrow
 replace hc1 := cell_ext h.old.ext okG hc1
 have ga : cellAt σ.H ⟨A, 6, none⟩ V.l := h.a.cell rfl
 have hin : ∀ i, i < (m.low.getD p []).length → 0 ≤ (m.low.getD p []).getD i 0 ∧ (m.low.getD p []).getD i 0 < cls.length := fun i hi => by rw [hl]; exact hst.low p _ (getD_memI hi)
 have hrl := hn.low1 p
 obtain ⟨row, hrw⟩ : ∃ row, m.low.getD p [] = row := ⟨_, rfl⟩
 rw [hrw] at hc1 hrow hin hrl hQ
 clear hrw
 refine OpsQ.drawn [8, 9, 10, 12] (K := fun j _ H => j = 10 → cellAt H ⟨A, 6, none⟩ V.l) mixed13 krf krf [0, 1, 2, 3, 4, 5, 6, 7, 8, 9, 10, 11, 12] krf (fun _ _ _ => ga) ?_
 refine zg4 ?_
 refine OpsQ.sp 10 (v := V.l) rfl krf sdc (fun _ => ga) (fun H2 nx2 hK => aop_load evr xrf rfl (hK rfl)) ?_
 refine zg48 ?_
 refine zg119 ?_
 clear ga gk hc1 hpl
 refine zg16 ?_
 refine OpsL.c2 (hf := entersPick) (hc := (pickC W0 (hcG.ext h.old.ext okG) (hrow.ext h.old.ext okG) hrl hin)) (h := ?_)
 rintro v1 nx1 H1 ⟨hpk, hx⟩
 obtain ⟨σ1, rfl, rfl, x1, hP⟩ := hpk.plain hx (.low1 D.low.length)
 replace hL := hL.keep x1 (by simp)
 replace h := h.loc x1 (by simp)
 obtain ⟨b, hv1, hbk⟩ := hP.block
 obtain ⟨z, hz⟩ : ∃ z : SV, .slice (some ⟨b, 0, none⟩) (pickL cls row).length (pickL cls row).length = slV z := ⟨(some ⟨b, 0, none⟩, (pickL cls row).length, (pickL cls row).length), rfl⟩
 rw [hz] at hv1
 subst hv1
 clear hz
 refine OpsL.nil ⟨fun _ _ _ => h.a.cell rfl, ?_⟩
 refine zg16 ?_
 refine OpsL.litC (σ := σ1) (enc := encS) (a := slV z) (z := z) (el := 22) rfl evd krf sdc ?_
 intro σ2 x2 hu
 replace hL := hL.keep x2 (by simp)
 replace h := h.loc x2 (by simp)
 replace hP := hP.keep x2 (by simp)
 refine OpsL.nil ⟨fun _ _ _ => h.a.cell rfl, ?_⟩
 obtain ⟨vs, hvs, hall⟩ := h.low
 refine zg16 ?_
 refine OpsL.appC (bytes := 24) (z := [.slice none 0 0]) encS_len encS_one hvs hu xrf xrf xrf xrf xrf rfl (by have := hall.1; simp; omega) (by omega) evd evd sdc ?_
 intro v3 σ3 hown x3
 replace hL := hL.keep x3 (by simp)
 have ha3 := h.a.keep x3 (by simp)
 replace hall := hall.keep (fun i u x _ hr => hr.keep x3 (by simp))
 replace hP := hP.keep x3 (by simp)
 obtain ⟨wa, wk, rfl⟩ := OwnC.slice encS_len hown
 refine OpsL.nil ⟨fun k hk e => by simp at hk; omega, ?_⟩
 refine zg110 ?_
 refine OpsL.setC (k := 6) (v := .slice wa (vs ++ [z]).length wk) (cs' := moC pl cl { V with l := .slice wa (vs ++ [z]).length wk }) ha3 (by simp [moC]) rfl xrf rfl rfl evr evd rfl ?_
 intro τ hat xt _
 replace hL := hL.keep xt (by simp)
 replace hown := hown.keep xt (by simp)
 replace hall := hall.keep (fun i u x _ hr => hr.keep xt (by simp))
 replace hP := hP.keep xt (by simp)
 refine OpsL.nil ⟨fun k hk => absurd hk (by simp), ?_⟩
 refine OpsQ.nil ?_
 have hrw : RowP2 .low1 .low τ (.slice wa (vs ++ [z]).length wk) (D.low ++ [pickL cls row]) := ⟨_, hown, hall.push hP⟩
 have h9 := h.setLo (x3.trans2 xt (fun c hc => by simp at hc; simp [hc]) (fun c hc => by simp at hc; simp [hc])) hrw hat
 exact hQ _ τ _ ⟨stp, stp, stp, stp, stp, stp, stp, stp, stp⟩ hL h9
end Go.Proofs.Ytjgbcpagfghfnaa
