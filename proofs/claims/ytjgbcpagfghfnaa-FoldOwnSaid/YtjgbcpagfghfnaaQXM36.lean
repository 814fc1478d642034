import Derived.Test.YtjgbcpagfghfnaaQXM35
import Derived.Test.YtjgbcpagfghfnaaQXM15
set_option linter.unusedVariables false
set_option linter.unusedSimpArgs false
set_option linter.unnecessarySimpa false
namespace Go.Am
open Go.RowKit
theorem ways_cnt (m : Mo) : (waysF m).length = 2 + 2 * m.closings.toNat := by
 have : ∀ k, ((List.range k).flatMap fun j => [aboveF m j, belowF m j]).length = 2 * k := by
  intro k
  induction k with
  | zero => rfl
  | succ k ih => rw [List.range_succ, List.flatMap_append, List.length_append, ih]; simp; omega
 unfold waysF
 rw [List.length_append, this]
 rfl
theorem ways_ok {m : Mo} (hm : ModOk m) : ∀ r ∈ waysF m, r.length = m.of.length ∧ ∀ i, (r.getD i []).length ≤ 60 ∧ ∀ q ∈ r.getD i [], 0 ≤ q ∧ q < 60 := by
 intro r hr
 refine ⟨waysF_len hm r hr, fun i => ?_⟩
 have hn := hm.n.2
 have hst := hm.st
 unfold waysF at hr
 rcases List.mem_append.1 hr with h | h
 ·simp only [List.mem_cons, List.not_mem_nil, or_false] at h
  rcases h with rfl | rfl
  ·refine ⟨?_, fun q hq => by have := hst.inn i q hq; omega⟩
   by_cases hi : i < m.of.length
   ·have := (hm.inn i hi).1; have := hm.pl.2; omega
   ·rw [getD_nil (by have := hm.il; omega)]; simp
  ·refine ⟨?_, fun q hq => by have := hst.low i q hq; omega⟩
   by_cases hi : i < m.of.length
   ·by_cases hz : m.of.getD i 0 = 0
    ·have := (hm.low0 i hi hz).1; have := hm.cl.2; omega
    ·rw [hm.low1 i hi hz]; simp
   ·rw [getD_nil (by have := hm.ll; omega)]; simp
 ·obtain ⟨j, hj, h⟩ := List.mem_flatMap.1 h
  rw [List.mem_range] at hj
  have hrg : ∀ {k : Nat}, k < m.of.length → (List.range m.of.length).getD k 0 = k := fun hk => by rw [List.getD_eq_getElem?_getD, List.getElem?_eq_getElem (by simpa using hk)]; simp
  simp only [List.mem_cons, List.not_mem_nil, or_false] at h
  rcases h with rfl | rfl
  ·by_cases hi : i < m.of.length
   ·have e : (aboveF m j).getD i [] = if m.of.getD i 0 = 0 then [] else (m.ret.getD i []).getD j [] := by
     unfold aboveF; rw [map_getD _ _ (by simpa using hi) _ 0, hrg hi]
    rw [e]
    by_cases hz : m.of.getD i 0 = 0
    ·rw [if_pos hz]; exact ⟨by simp, fun q hq => by simp at hq⟩
    ·rw [if_neg hz]
     obtain ⟨l1, l2⟩ := hm.ret1 i hi hz
     obtain ⟨l3, l4⟩ := l2 j (by omega)
     refine ⟨by omega, fun q hq => ?_⟩
     obtain ⟨x, hx, rfl⟩ := List.getElem_of_mem hq
     have := (l4 x (by omega)).1
     rw [List.getD_eq_getElem?_getD (i := x), List.getElem?_eq_getElem hx] at this
     simp only [Option.getD_some] at this
     omega
   ·rw [getD_nil (by simp [aboveF]; omega)]; exact ⟨by simp, fun q hq => by simp at hq⟩
  ·by_cases hi : i < m.of.length
   ·have e : (belowF m j).getD i [] = belT m j m.of.length i := by
     rw [belowF_eq, map_getD _ _ (by simpa using hi) _ 0, hrg hi]
    rw [e]
    refine ⟨by have := belT_len m j m.of.length i; omega, fun q hq => ?_⟩
    unfold belT at hq
    obtain ⟨p, hp, rfl⟩ := List.mem_map.1 hq
    obtain ⟨hp1, hp2⟩ := List.mem_filter.1 hp
    rw [List.mem_range] at hp1
    have hz : m.of.getD p 0 ≠ 0 := by simpa using hp2
    obtain ⟨l1, l2⟩ := hm.ret1 p hp1 hz
    have := ((l2 j (by omega)).2 i hi).1
    omega
   ·rw [getD_nil (by simp [belowF]; omega)]; exact ⟨by simp, fun q hq => by simp at hq⟩
def WW (B : Nat) (σ : CH) (v : Value) (W : List (List (List Int))) : Prop := ∀ H2, (∀ i, i < B → H2 i = σ.H i) → (∀ i, i < σ.nx → σ.C i = .next → H2 i = σ.H i) → L3At H2 v W
theorem WW.keep {B : Nat} {S : List Co} {σ τ : CH} {v : Value} {W : List (List (List Int))} (hc : Chg S σ τ) (h1 : Co.old ∉ S) (h2 : Co.next ∉ S) (hB : ∀ i, i < B → i < σ.nx ∧ σ.C i = .old) (h : WW B σ v W) : WW B τ v W := fun H2 k1 k2 => by
 refine h H2 (fun i hi => ?_) (fun i h3 h4 => ?_)
 ·rw [k1 i hi]
  exact hc.same h1 (hB i hi).1 (hB i hi).2
 ·rw [k2 i (Nat.lt_of_lt_of_le h3 hc.1) (by rw [hc.hue h3]; exact h4)]
  exact hc.same h2 h3 h4
theorem WW.now {B : Nat} {σ : CH} {v : Value} {W : List (List (List Int))} (h : WW B σ v W) : L3At σ.H v W := h _ (fun _ _ => rfl) (fun _ _ _ => rfl)
end Go.Am
namespace Go.Proofs.Ytjgbcpagfghfnaa
open Go.Am Go.RowKit
attribute [local irreducible] aop OpsL Trip blockExit OpsD OpsK OpsR OpsQ
theorem c60_eq (H : Heap) {a b : List Int} {n : Nat} (ha : a.length = n) (hb : b.length = n) (hn : n ≤ 60) : aEq Try.prog H 60 72 (.agg (c60 a).toArray) (.agg (c60 b).toArray) = some (decide (a = b)) := by
 have := i8_eq (P := Try.prog) (el := 70) (t := 72) (len := 60) Try.underlying70 xrf Try.underlying72 H 58 (k := a ++ List.replicate (60 - a.length) 0) (k2 := b ++ List.replicate (60 - b.length) 0) (by simp; omega) (by simp; omega)
 refine this.trans ?_
 congr 1
 rw [Bool.eq_iff_iff, decide_eq_true_eq, decide_eq_true_eq]
 constructor
 ·intro h
  rw [ha, hb] at h
  exact List.append_inj_left h (by rw [ha, hb])
 ·intro h; rw [h]
structure StS (σ0 σ : CH) (R A : Nat) (wv : Value) (W : List (List (List Int))) (c : List Int) : Prop where
 old : OldC σ0 σ
 r : ∃ cs, cs.length = 60 ∧ ObC .tmp σ R (.cells cs 0 none false (some 72))
 a : ObC .self σ A (.cells (c60 c) 0 none false (some 72))
 w : WW σ0.nx σ wv W
theorem StS.keep {σ0 σ τ : CH} {R A : Nat} {wv : Value} {W : List (List (List Int))} {c : List Int} {S : List Co} (hc : Chg S σ τ) (h1 : Co.old ∉ S) (h2 : Co.tmp ∉ S) (h3 : Co.self ∉ S) (h4 : Co.next ∉ S) (h : StS σ0 σ R A wv W c) : StS σ0 τ R A wv W c :=
 ⟨h.old.keep hc h1, by obtain ⟨cs, q1, q2⟩ := h.r; exact ⟨cs, q1, q2.keep hc h2⟩, h.a.keep hc h3, h.w.keep hc h1 h4 fun i hi => ⟨Nat.lt_of_lt_of_le hi h.old.1, (h.old.2 i hi).1⟩⟩
set_option maxRecDepth 20000 in
set_option maxHeartbeats 16000000 in
theorem settledH (W0 : World) {nx R : Nat} {G : Heap} {m : Mo} {V : MoV} {tm : Nat → Value} {n : Nat} {σ : CH} (hn0 : n = 28) (hmod : ModOk m) (okG : ∀ id o, G id = some o → id < nx + 1) (hb : MoBox G nx m V) (hG : MoIn G m V) (hoσ : OldC ⟨nx + 1, fun _ => .old, G⟩ σ) (hRσ : ObC .tmp σ R (.cells (c60 []) 0 none false (some 72)))
  (t1 : tm 1 = .pointer (some ⟨nx, 0, none⟩)) (t2 : tm 2 = .pointer (some ⟨R, 0, none⟩)) {Q : AExit → ASt → Prop} (hQ : ∀ e st, (e = .normal ∧ ∃ (tm' : Nat → Value) (τ : CH) (A : Nat) (wv : Value), st = ⟨tm', n, τ.H, τ.nx⟩ ∧ tm' 1 = .pointer (some ⟨nx, 0, none⟩) ∧ tm' 2 = .pointer (some ⟨R, 0, none⟩) ∧ tm' 3 = .pointer (some ⟨A, 0, none⟩) ∧ tm' 4 = wv ∧ StS ⟨nx + 1, fun _ => .old, G⟩ τ R A wv (waysF m) (firstL m)) → Q e st) :
  Trip Try.prog W0 (subC [1, 0] (bodyMk Try.f41)) ⟨tm, n, σ.H, σ.nx⟩ Q := by
 refine Trip.mono (Q := fun e st => e = .normal ∧ ∃ (tm' : Nat → Value) (τ : CH) (A : Nat) (wv : Value), st = ⟨tm', n, τ.H, τ.nx⟩ ∧ tm' 1 = .pointer (some ⟨nx, 0, none⟩) ∧ tm' 2 = .pointer (some ⟨R, 0, none⟩) ∧ tm' 3 = .pointer (some ⟨A, 0, none⟩) ∧ tm' 4 = wv ∧ StS ⟨nx + 1, fun _ => .old, G⟩ τ R A wv (waysF m) (firstL m)) ?_ hQ
 clear hQ
 have hfl : (firstL m).length ≤ 60 := by rw [firstL_len]; exact hmod.n.2
 have hB : ∀ {σ : CH}, OldC ⟨nx + 1, fun _ => .old, G⟩ σ → ∀ i, i < nx + 1 → i < σ.nx ∧ σ.C i = .old := fun {σ} h i hi => ⟨Nat.lt_of_lt_of_le hi h.1, (h.2 i hi).1⟩
 have hK : ∀ τ : CH, OldC ⟨nx + 1, fun _ => .old, G⟩ τ → ∀ l : List Nat, ∀ k ∈ l, getc τ.H ⟨nx, 0, none⟩ 8 = some (moV m V) := fun τ h _ _ _ => (hb.ext h.ext okG).all
 have h0 := hK σ hoσ [0] 0 (by simp)
 refine OpsQ.drawn [1, 3, 4, 5, 6] (K := fun _ _ H => getc H ⟨nx, 0, none⟩ 8 = some (moV m V)) mixed13 krf krf [0, 2, 1, 3, 4, 5, 6] krf (hK σ hoσ _) ?_
 refine OpsQ.sp 1 (v := .agg (moV m V).toArray) rfl krf sdc h0 (fun H2 nx2 hK => aop_loadAgg (k := 8) evd xrf rfl xrf hK) ?_
 refine OpsQ.sp 3 (v := .agg (moV m V).toArray) rfl krf sdc h0 (fun H2 nx2 hK => aop_loadAgg (k := 8) evd xrf rfl xrf hK) ?_
 clear h0
 refine OpsQ.go2 1 4 [3, 4, 5, 6] [1, 3, 5, 6] krf (ActStep.walk rfl rfl ?_) (ActStep.walk rfl rfl ?_)
 ·refine OpsL.c1 (hf := entersFirst) (hc := (firstC W0 (hG.ext hoσ.ext okG) hmod)) (h := ?_)
  rintro v1 nx1 H1 ⟨rfl, hx⟩
  obtain ⟨τ1, rfl, rfl, xτ1⟩ := Chg.ofExt hx
  have hoτ1 := hoσ.keep xτ1 (by simp)
  have hRτ1 := hRσ.keep xτ1 (by simp)
  refine OpsL.nil ⟨hK τ1 hoτ1 _, ?_⟩
  refine OpsQ.go2 3 4 [4, 5, 6] [3, 5, 6] krf (ActStep.walk rfl rfl ?_) (ActStep.walk rfl rfl ?_)
  ·refine OpsL.c1 (hf := entersWaysOf) (hc := (waysOfC W0 hG okG hoτ1.ext hmod)) (h := ?_)
   rintro wv nx1 H1 ⟨hst, hx⟩
   obtain ⟨τ2, rfl, rfl, xτ2, hnτ2⟩ := Chg.ofExtC .next hx
   have hWτ2 : WW (nx + 1) τ2 wv (waysF m) := fun H2 h1 h2 => hst H2 h1 fun i h3 h4 => h2 i h4 (hnτ2 i h3)
   have hoτ2 := hoτ1.keep xτ2 (by simp)
   have hRτ2 := hRτ1.keep xτ2 (by simp)
   refine OpsL.nil ⟨hK τ2 hoτ2 _, ?_⟩
   refine OpsQ.go1 4 [5, 6] krf (ActStep.walk rfl rfl ?_)
   refine OpsL.newC .self (aop_alloc (l := c60 []) xrf) sdc ?_
   intro τ3 hAτ3 xτ3
   obtain ⟨A, hAn⟩ : ∃ k, τ2.nx = k := ⟨_, rfl⟩
   rw [hAn] at hAτ3
   try rw [hAn]
   have hoτ3 := hoτ2.keep xτ3 (by simp)
   have hRτ3 := hRτ2.keep xτ3 (by simp)
   have hWτ3 := hWτ2.keep xτ3 (by simp) (by simp) (hB hoτ2)
   refine OpsL.nil ⟨hK τ3 hoτ3 _, ?_⟩
   refine OpsQ.go1 5 [6] krf (ActStep.walk rfl rfl ?_)
   refine OpsL.setAllC (vs := c60 (firstL m)) hAτ3 xrf (c60_len hfl) (c60_len hfl) (i8_one _) evd evd ?_
   intro τ4 hAτ4 xτ4
   have hoτ4 := hoτ3.keep xτ4 (by simp)
   have hRτ4 := hRτ3.keep xτ4 (by simp)
   have hWτ4 := hWτ3.keep xτ4 (by simp) (by simp) (hB hoτ3)
   refine OpsL.nil ⟨hK τ4 hoτ4 _, ?_⟩
   refine OpsQ.go1 6 [] krf (ActStep.walk rfl rfl ?_)
   (first | (refine OpsL.q (by exact oasg) ?_))
   refine OpsL.nil ⟨hK τ4 hoτ4 _, ?_⟩
   refine OpsQ.nil ?_
   exact ⟨rfl, _, τ4, A, wv, rfl, stp, stp, stp, stp, ⟨hoτ4, ⟨_, rfl, hRτ4⟩, hAτ4, hWτ4⟩⟩
  ·refine OpsL.newC .self (aop_alloc (l := c60 []) xrf) sdc ?_
   intro τ6 hAτ6 xτ6
   obtain ⟨A, hAn⟩ : ∃ k, τ1.nx = k := ⟨_, rfl⟩
   rw [hAn] at hAτ6
   try rw [hAn]
   have hoτ6 := hoτ1.keep xτ6 (by simp)
   have hRτ6 := hRτ1.keep xτ6 (by simp)
   refine OpsL.nil ⟨hK τ6 hoτ6 _, ?_⟩
   refine OpsQ.go1 3 [5, 6] krf (ActStep.walk rfl rfl ?_)
   refine OpsL.c1 (hf := entersWaysOf) (hc := (waysOfC W0 hG okG hoτ6.ext hmod)) (h := ?_)
   rintro wv nx1 H1 ⟨hst, hx⟩
   obtain ⟨τ7, rfl, rfl, xτ7, hnτ7⟩ := Chg.ofExtC .next hx
   have hWτ7 : WW (nx + 1) τ7 wv (waysF m) := fun H2 h1 h2 => hst H2 h1 fun i h3 h4 => h2 i h4 (hnτ7 i h3)
   have hoτ7 := hoτ6.keep xτ7 (by simp)
   have hRτ7 := hRτ6.keep xτ7 (by simp)
   have hAτ7 := hAτ6.keep xτ7 (by simp)
   refine OpsL.nil ⟨hK τ7 hoτ7 _, ?_⟩
   refine OpsQ.go1 5 [6] krf (ActStep.walk rfl rfl ?_)
   refine OpsL.setAllC (vs := c60 (firstL m)) hAτ7 xrf (c60_len hfl) (c60_len hfl) (i8_one _) evd evd ?_
   intro τ8 hAτ8 xτ8
   have hoτ8 := hoτ7.keep xτ8 (by simp)
   have hRτ8 := hRτ7.keep xτ8 (by simp)
   have hWτ8 := hWτ7.keep xτ8 (by simp) (by simp) (hB hoτ7)
   refine OpsL.nil ⟨hK τ8 hoτ8 _, ?_⟩
   refine OpsQ.go1 6 [] krf (ActStep.walk rfl rfl ?_)
   (first | (refine OpsL.q (by exact oasg) ?_))
   refine OpsL.nil ⟨hK τ8 hoτ8 _, ?_⟩
   refine OpsQ.nil ?_
   exact ⟨rfl, _, τ8, A, wv, rfl, stp, stp, stp, stp, ⟨hoτ8, ⟨_, rfl, hRτ8⟩, hAτ8, hWτ8⟩⟩
 ·refine OpsL.newC .self (aop_alloc (l := c60 []) xrf) sdc ?_
  intro τ10 hAτ10 xτ10
  obtain ⟨A, hAn⟩ : ∃ k, σ.nx = k := ⟨_, rfl⟩
  rw [hAn] at hAτ10
  try rw [hAn]
  have hoτ10 := hoσ.keep xτ10 (by simp)
  have hRτ10 := hRσ.keep xτ10 (by simp)
  refine OpsL.nil ⟨hK τ10 hoτ10 _, ?_⟩
  refine OpsQ.go1 1 [3, 5, 6] krf (ActStep.walk rfl rfl ?_)
  refine OpsL.c1 (hf := entersFirst) (hc := (firstC W0 (hG.ext hoτ10.ext okG) hmod)) (h := ?_)
  rintro v1 nx1 H1 ⟨rfl, hx⟩
  obtain ⟨τ11, rfl, rfl, xτ11⟩ := Chg.ofExt hx
  have hoτ11 := hoτ10.keep xτ11 (by simp)
  have hRτ11 := hRτ10.keep xτ11 (by simp)
  have hAτ11 := hAτ10.keep xτ11 (by simp)
  refine OpsL.nil ⟨hK τ11 hoτ11 _, ?_⟩
  refine OpsQ.go1 3 [5, 6] krf (ActStep.walk rfl rfl ?_)
  refine OpsL.c1 (hf := entersWaysOf) (hc := (waysOfC W0 hG okG hoτ11.ext hmod)) (h := ?_)
  rintro wv nx1 H1 ⟨hst, hx⟩
  obtain ⟨τ12, rfl, rfl, xτ12, hnτ12⟩ := Chg.ofExtC .next hx
  have hWτ12 : WW (nx + 1) τ12 wv (waysF m) := fun H2 h1 h2 => hst H2 h1 fun i h3 h4 => h2 i h4 (hnτ12 i h3)
  have hoτ12 := hoτ11.keep xτ12 (by simp)
  have hRτ12 := hRτ11.keep xτ12 (by simp)
  have hAτ12 := hAτ11.keep xτ12 (by simp)
  refine OpsL.nil ⟨hK τ12 hoτ12 _, ?_⟩
  refine OpsQ.go1 5 [6] krf (ActStep.walk rfl rfl ?_)
  refine OpsL.setAllC (vs := c60 (firstL m)) hAτ12 xrf (c60_len hfl) (c60_len hfl) (i8_one _) evd evd ?_
  intro τ13 hAτ13 xτ13
  have hoτ13 := hoτ12.keep xτ13 (by simp)
  have hRτ13 := hRτ12.keep xτ13 (by simp)
  have hWτ13 := hWτ12.keep xτ13 (by simp) (by simp) (hB hoτ12)
  refine OpsL.nil ⟨hK τ13 hoτ13 _, ?_⟩
  refine OpsQ.go1 6 [] krf (ActStep.walk rfl rfl ?_)
  (first | (refine OpsL.q (by exact oasg) ?_))
  refine OpsL.nil ⟨hK τ13 hoτ13 _, ?_⟩
  refine OpsQ.nil ?_
  exact ⟨rfl, _, τ13, A, wv, rfl, stp, stp, stp, stp, ⟨hoτ13, ⟨_, rfl, hRτ13⟩, hAτ13, hWτ13⟩⟩
theorem entersSettled : Am.Enters Try.prog 41 := ⟨Try.f41, Try.func41, by kernel_rfl, by kernel_rfl⟩
set_option maxRecDepth 20000 in
set_option maxHeartbeats 16000000 in
theorem settledC (W0 : World) {nx : Nat} {H : Heap} {m : Mo} {V : MoV} (hm : MoIn H m V) (hmod : ModOk m) :
  ACalls Try.prog W0 41 [.agg (moV m V).toArray] nx H fun v nx' H' => v = .agg (c60 (classesOfF m)).toArray ∧ Ext nx H nx' H' := by
 refine ACalls.by_trip (fn := Try.f41) (c := _) Try.func41 rfl (fun tm n hn0 htm => ?_)
 have e0 : tm 0 = .agg (moV m V).toArray := htm 0
 clear htm
 replace hn0 : n = 28 := hn0
 refine Trip.ok fun hok => ?_
 replace hok : ∀ id o, H id = some o → id < nx := hok
 refine zg29 ?_
 refine OpsL.boxM hm hok ?_ evd sdc
 intro G x0 okG hb hG
 clear e0
 have hn60 := hmod.n.2
 refine OpsL.newC (σ := ⟨nx + 1, fun _ => .old, G⟩) .tmp (aop_alloc (l := c60 []) xrf) sdc ?_
 intro σ hR x1
 have hold := OldC.keep x1 (by simp) OldC.refl
 obtain ⟨R, hRn⟩ : ∃ R, (CH.nx ⟨nx + 1, fun _ => .old, G⟩) = R := ⟨_, rfl⟩
 rw [hRn] at hR ⊢
 clear hRn x1
 refine zg46 ?_
 (change Trip _ _ _ _ _)
 refine Trip.seq ?_
 refine settledH W0 hn0 hmod okG hb hG hold hR (by simp [tmPut]) (by simp [tmPut]) ?_
 clear hold hR
 rintro e st ⟨rfl, tm, σ, A, wv, rfl, t1, t2, t3, t4, h⟩
 have hways := ways_ok hmod
 have hWl : (waysF m).length ≤ 1000 := by have := ways_cnt m; have := hmod.cl.2; omega
 have hcan := can_num ((List.range m.of.length).map (firstK m))
 change Go.Am.Can (firstL m) at hcan
 have hflen := firstL_len m
 have hres : settledL (waysF m) (m.of.length + 1) (firstL m) = classesOfF m := rfl
 generalize waysF m = W at *
 generalize firstL m = c0 at *
 generalize classesOfF m = CC at *
 generalize hN : m.of.length = N at *
 obtain ⟨wa, wk, rfl⟩ := L3At.slice h.w.now
 (change Trip _ _ _ _ _)
 refine Trip.block ?_
 refine Trip.inv (fun (f : Nat) s => ∃ tm σ c, s = ⟨tm, n, σ.H, σ.nx⟩ ∧ tm 2 = .pointer (some ⟨R, 0, none⟩) ∧ tm 3 = .pointer (some ⟨A, 0, none⟩) ∧ tm 4 = .slice wa W.length wk ∧ StS ⟨nx + 1, fun _ => .old, G⟩ σ R A (.slice wa W.length wk) W c ∧ Go.Am.Can c ∧ c.length = N ∧ N < f + numD c ∧ settledL W f c = CC) (fun f => f) (N + 1) ?_ ?_
 ·exact ⟨_, σ, c0, rfl, stp, stp, stp, h, hcan, hflen, by omega, hres⟩
 clear h t1 t2 t3 t4 hres hcan hflen
 rintro f s ⟨tm, σ, c, rfl, t2, t3, t4, h, hcan, hcl, hf, hres⟩
 have hD := numD_le c
 obtain ⟨f, rfl⟩ : ∃ f', f = f' + 1 := ⟨f - 1, by omega⟩
 have hcl60 : c.length ≤ 60 := by omega
 have hga : getc σ.H ⟨A, 0, none⟩ 60 = some (c60 c) := getc_all h.a.2.2 (c60_len hcl60)
 replace hcl : PLift (c.length = N) := ⟨hcl⟩
 replace hN : PLift (m.of.length = N) := ⟨hN⟩
 refine Trip.block ?_
 refine zg29 ?_
 refine OpsL.p sdc (aop_loadAgg (k := 60) evd xrf rfl xrf hga) ?_
 refine OpsL.newC .of (aop_alloc (l := c60 []) xrf) sdc ?_
 intro σ1 hX x1
 obtain ⟨X, hXn⟩ : ∃ X, σ.nx = X := ⟨_, rfl⟩
 rw [hXn] at hX ⊢
 clear hXn hga
 replace h := h.keep x1 (by simp) (by simp) (by simp) (by simp)
 refine OpsL.setAllC (vs := c60 c) hX xrf (c60_len hcl60) (c60_len hcl60) (i8_one _) evd evd ?_
 intro σ2 hX2 x2
 replace h := h.keep x2 (by simp) (by simp) (by simp) (by simp)
 clear hX x1 x2
 refine zg46 ?_
 (change Trip _ _ _ _ _)
 refine zg54 ?_
 refine Trip.inv (fun (i : Nat) s => ∃ tm σ, s = ⟨tm, n, σ.H, σ.nx⟩ ∧ tm 2 = .pointer (some ⟨R, 0, none⟩) ∧ tm 3 = .pointer (some ⟨A, 0, none⟩) ∧ tm 4 = .slice wa W.length wk ∧ tm 5 = .pointer (some ⟨X, 0, none⟩) ∧ tm 13 = .slice wa W.length wk ∧ tm 14 = .int .i64 W.length ∧ tm 15 = .int .i64 i ∧ i ≤ W.length ∧ StS ⟨nx + 1, fun _ => .old, G⟩ σ R A (.slice wa W.length wk) W c ∧ ObC .of σ X (.cells (c60 (roundL (W.take i) c)) 0 none false (some 72))) (fun i => W.length - i) 0 ?_ ?_
 ·exact ⟨_, σ2, rfl, stp, stp, stp, stp, stp, stp, stp, by omega, h, hX2⟩
 clear h hX2 t2 t3 t4
 rintro i s ⟨tm, σ, rfl, t2, t3, t4, t5, t13, t14, t15, hi, h, hX⟩
 have hrlen : ∀ i, (roundL (W.take i) c).length = N := by
  intro i
  exact (roundL_finer (W.take i) hcan hcl.down (fun r hr => (hways r (List.mem_of_mem_take hr)).1)).2.1
 have hrl := hrlen i
 repeat (first | (refine OpsL.q (by exact olss) ?_) | (refine Trip.seq ?_) | (refine Trip.ops ?_) | (refine Trip.block ?_) | (refine Trip.itA (fun _ => ?_) (fun _ => ?_)) | (refine Trip.skip ?_; (change Trip _ _ _ _ _)) | (refine OpsL.nil ?_; (change Trip _ _ _ _ _)))
 ·have hlt : i < W.length := by omega
  obtain ⟨q1, sb, sk, rfl, hc1, hrw⟩ := L3At.atI h.w.now (show (0 : Int) ≤ i by omega) (show (i : Int) < W.length by omega)
  rw [Int.toNat_natCast] at hc1 hrw
  obtain ⟨hw1, hw2⟩ := hways (W.getD i []) (by rw [List.getD_eq_getElem?_getD, List.getElem?_eq_getElem hlt]; exact List.getElem_mem _)
  have hsn : roundL (W.take (i + 1)) c = partedL (roundL (W.take i) c) (W.getD i []) := by
   unfold roundL
   rw [List.take_succ_eq_append_getElem hlt, List.foldl_append, List.getD_eq_getElem?_getD, List.getElem?_eq_getElem hlt]; rfl
  obtain ⟨rows, hrows⟩ : ∃ r, W.getD i [] = r := ⟨_, rfl⟩
  rw [hrows] at hc1 hrw hw1 hw2 hsn
  clear hrows
  obtain ⟨c1, hc1e⟩ : ∃ c1, roundL (W.take i) c = c1 := ⟨_, rfl⟩
  rw [hc1e] at hX hsn hrl
  have hc160 : c1.length ≤ 60 := by omega
  have hrow60 : rows.length ≤ 60 := by have := hN.down; omega
  have hp60 : (partedL c1 rows).length ≤ 60 := by rw [partedL_len]; exact hrow60
  have hga : getc σ.H ⟨X, 0, none⟩ 60 = some (c60 c1) := getc_all hX.2.2 (c60_len hc160)
  replace hrl : PLift (c1.length = N) := ⟨hrl⟩
  replace hw1 : PLift (rows.length = N) := ⟨hw1⟩
  repeat (first | (refine OpsL.q (by first | exact oixa | exact old | exact oasg) ?_) | (refine Trip.ops ?_) | (refine OpsL.nil ?_; (change Trip _ _ _ _ _)))
  refine OpsL.p sdc (aop_loadAgg (k := 60) evd xrf rfl xrf hga) ?_
  refine zg61 ?_
  refine OpsL.c2 (hf := entersParted) (hc := (partedC W0 hrw hc160 hrow60 (fun i => (hw2 i).1) (fun i => (hw2 i).2))) (h := ?_)
  rintro v2 nx2 H2 ⟨rfl, hx⟩
  obtain ⟨σ3, rfl, rfl, x3⟩ := Chg.ofExt hx
  replace h := h.keep x3 (by simp) (by simp) (by simp) (by simp)
  replace hX := hX.keep x3 (by simp)
  clear hx x3 hga hc1 hrw
  refine OpsL.setAllC (vs := c60 (partedL c1 rows)) hX xrf (c60_len hp60) (by rw [c60_len hp60, c60_len hc160]) (i8_one _) evd evd ?_
  intro σ4 hX4 x4
  replace h := h.keep x4 (by simp) (by simp) (by simp) (by simp)
  refine zg46 ?_
  refine zg32 ?_
  exact ⟨i + 1, ⟨_, σ4, rfl, stp, stp, stp, stp, stp, stp, stp, by omega, h, by rw [hsn]; exact hX4⟩, by omega⟩
 ·have hi2 : i = W.length := by omega
  subst hi2
  rw [List.take_length] at hX hrl
  have hfin := roundL_finer W hcan hcl.down (fun r hr => (hways r hr).1)
  have hres2 : (if roundL W c = c then c else settledL W f (roundL W c)) = CC := hres
  obtain ⟨c2, hc2⟩ : ∃ c2, roundL W c = c2 := ⟨_, rfl⟩
  rw [hc2] at hX hrl hfin hres2
  have hc260 : c2.length ≤ 60 := by omega
  have hgx : getc σ.H ⟨X, 0, none⟩ 60 = some (c60 c2) := getc_all hX.2.2 (c60_len hc260)
  have hga : getc σ.H ⟨A, 0, none⟩ 60 = some (c60 c) := getc_all h.a.2.2 (c60_len hcl60)
  have heq := c60_eq σ.H hrl hcl.down (show N ≤ 60 by omega)
  obtain ⟨f1, f2, f3, f4⟩ := hfin
  replace f2 : PLift (c2.length = N) := ⟨f2⟩
  clear hrl hres
  refine zg39 ?_
  refine OpsL.p sdc (aop_loadAgg (k := 60) evd xrf rfl xrf hgx) ?_
  refine OpsL.p sdc (aop_loadAgg (k := 60) evd xrf rfl xrf hga) ?_
  refine OpsL.p sdc (aop_eqlA evd evd krf heq) ?_
  by_cases e : c2 = c
  ·rw [decide_eq_true e]
   rw [if_pos e] at hres2
   obtain ⟨cs, hcs, hR⟩ := h.r
   replace hcs : PLift (cs.length = 60) := ⟨hcs⟩
   refine zg68 ?_
   refine zg29 ?_
   refine OpsL.p sdc (aop_loadAgg (k := 60) evd xrf rfl xrf hga) ?_
   refine OpsL.setAllC (vs := c60 c) hR xrf (c60_len hcl60) (by rw [hcs.down, c60_len hcl60]) (i8_one _) evd evd ?_
   intro τ hRt xt
   refine zg46 ?_
   (change Trip _ _ _ _ _)
   refine Trip.ret ?_
   ((repeat (refine blockExit_ret ?_)); dsimp only)
   exact ⟨.inr rfl, _, res_cell stp (readAt_agg xrf rfl xrf (getc_all hRt.2.2 (c60_len hcl60))), by rw [hres2], x0.trans (h.old.keep xt (by simp)).ext⟩
  ·rw [decide_eq_false e]
   rw [if_neg e] at hres2
   have hne : numD c ≠ numD c2 := fun q => e (f4 q)
   refine zg107 ?_
   repeat (first | (refine Trip.ops ?_) | (refine Trip.skip ?_; (change Trip _ _ _ _ _)))
   refine OpsL.p sdc (aop_loadAgg (k := 60) evd xrf rfl xrf hgx) ?_
   refine OpsL.setAllC (vs := c60 c2) h.a xrf (c60_len hc260) (by rw [c60_len hc260, c60_len hcl60]) (i8_one _) evd evd ?_
   intro τ hAt xt
   have h2 : StS ⟨nx + 1, fun _ => .old, G⟩ τ R A (.slice wa W.length wk) W c2 := ⟨h.old.keep xt (by simp), by obtain ⟨cs, q1, q2⟩ := h.r; exact ⟨cs, q1, q2.keep xt (by simp)⟩, hAt, h.w.keep xt (by simp) (by simp) fun i hi => ⟨Nat.lt_of_lt_of_le hi h.old.1, (h.old.2 i hi).1⟩⟩
   refine zg46 ?_
   ((repeat (refine blockExit_normal ?_)); dsimp only)
   exact ⟨f, ⟨_, τ, c2, rfl, stp, stp, stp, h2, f1, f2.down, by omega, hres2⟩, by omega⟩
end Go.Proofs.Ytjgbcpagfghfnaa
