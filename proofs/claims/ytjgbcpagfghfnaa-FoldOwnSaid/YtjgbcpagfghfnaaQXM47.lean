import Derived.Test.YtjgbcpagfghfnaaQXM46
import Derived.Test.YtjgbcpagfghfnaaQXM15
set_option linter.unusedVariables false
set_option linter.unusedSimpArgs false
set_option linter.unnecessarySimpa false
namespace Go.Proofs.Ytjgbcpagfghfnaa
open Go.Am Go.RowKit
attribute [local irreducible] aop OpsL Trip blockExit OpsD OpsK OpsR OpsQ
set_option maxRecDepth 20000 in
set_option maxHeartbeats 16000000 in
theorem clsP (W0 : World) {σ0 σ : CH} {m : Mo} {V : MoV} {nx rb bo bn r last n : Nat} {d e0 : List Int} {tm : Nat → Value} (hmod : ModOk m) (hn0 : n = 102) (hFA : ∀ {N : Nat} {H' : Heap}, Ext σ0.nx σ0.H N H' → MoBox H' nx m V ∧ MoIn H' m V) (hrl : PLift ((reachedF m).length = m.of.length)) (hdl : PLift (d.length = m.of.length)) (hel : e0.length = m.of.length)
  (t1 : tm 1 = .pointer (some ⟨nx, 0, none⟩)) (t3 : tm 3 = .slice (some ⟨rb, 0, none⟩) m.of.length m.of.length) (t4 : tm 4 = .slice (some ⟨bo, 0, none⟩) m.of.length m.of.length) (t6 : tm 6 = .int .i64 (last : Nat)) (t7 : tm 7 = .slice (some ⟨bn, 0, none⟩) m.of.length m.of.length) (t8 : tm 8 = .int .i64 0) (t9 : tm 9 = .int .i64 0) (ho : OldC σ0 σ) (hg : ObC .tmp σ rb (.cells ((reachedF m).map .bool) 1 none false (some 4))) (hd : ObC (.tab r) σ bo (.cells (d.map (.int .i64 ·)) 1 none false (some 3))) (he : ObC (.tab (r + 1)) σ bn (.cells ((e0).map (.int .i64 ·)) 1 none false (some 3)))
  {Q : AExit → ASt → Prop} (hQ : ∀ (tm' : Nat → Value) (σ : CH) (e : List Int) (c : Nat), tm' 1 = .pointer (some ⟨nx, 0, none⟩) → tm' 3 = .slice (some ⟨rb, 0, none⟩) m.of.length m.of.length → tm' 4 = .slice (some ⟨bo, 0, none⟩) m.of.length m.of.length → tm' 6 = .int .i64 (last : Nat) → tm' 7 = .slice (some ⟨bn, 0, none⟩) m.of.length m.of.length → tm' 8 = .int .i64 (c : Nat) → OldC σ0 σ → ObC .tmp σ rb (.cells ((reachedF m).map .bool) 1 none false (some 4)) → ObC (.tab r) σ bo (.cells (d.map (.int .i64 ·)) 1 none false (some 3)) → ObC (.tab (r + 1)) σ bn (.cells ((e).map (.int .i64 ·)) 1 none false (some 3)) → e.length = m.of.length → Round m (fun x => d.getD x 0) (fun x => e.getD x 0) m.of.length c → (∀ q, q < m.of.length → (reachedF m).getD q false = false → e.getD q 0 = -1) → c ≤ m.of.length → Q .normal ⟨tm', n, σ.H, σ.nx⟩) :
  Trip Try.prog W0 (subC [1, 1, 1, 1, 1, 2, 2, 2, 1, 1, 0, 1] (bodyMk Try.f15)) ⟨tm, n, σ.H, σ.nx⟩ Q := by
 refine Trip.block ?_
 refine Trip.inv (fun (p : Nat) st => ∃ (tm : Nat → Value) (σ : CH) (e : List Int) (c : Nat), st = ⟨tm, n, σ.H, σ.nx⟩ ∧ tm 1 = .pointer (some ⟨nx, 0, none⟩) ∧ tm 3 = .slice (some ⟨rb, 0, none⟩) m.of.length m.of.length ∧ tm 4 = .slice (some ⟨bo, 0, none⟩) m.of.length m.of.length ∧ tm 6 = .int .i64 (last : Nat) ∧ tm 7 = .slice (some ⟨bn, 0, none⟩) m.of.length m.of.length ∧ tm 8 = .int .i64 (c : Nat) ∧ tm 9 = .int .i64 p ∧ p ≤ m.of.length ∧ OldC σ0 σ ∧ ObC .tmp σ rb (.cells ((reachedF m).map .bool) 1 none false (some 4)) ∧ ObC (.tab r) σ bo (.cells (d.map (.int .i64 ·)) 1 none false (some 3)) ∧ ObC (.tab (r + 1)) σ bn (.cells ((e).map (.int .i64 ·)) 1 none false (some 3)) ∧ HidP (e.length = m.of.length) ∧ Round m (fun x => d.getD x 0) (fun x => e.getD x 0) p c ∧ (∀ q, q < p → (reachedF m).getD q false = false → e.getD q 0 = -1) ∧ (∀ q, q < p → (reachedF m).getD q false = true → 0 ≤ e.getD q 0) ∧ c ≤ p) (fun p => m.of.length - p) 0 ?_ ?_
 ·exact ⟨tm, σ, e0, 0, rfl, t1, t3, t4, t6, t7, t8, t9, by omega, ho, hg, hd, he, hel, Round.zero, fun q hq => by omega, fun q hq => by omega, by omega⟩
 clear t1 t3 t4 t6 t7 t8 t9 ho hg hd he hel
 rintro p st ⟨tm, σ, e, c, rfl, t1, t3, t4, t6, t7, t8, t9, hi, ho, hg, hd, he, hel, hR, hneg, hpos, hc⟩
 replace hel : PLift (e.length = m.of.length) := ⟨hel⟩
 have hn60 := hmod.n.2
 repeat (first | (refine OpsL.q (by first | exact omv | exact olen | exact olss) ?_) | (refine Trip.seq ?_) | (refine Trip.ops ?_) | (refine Trip.block ?_) | (refine Trip.itA (fun _ => ?_) (fun _ => ?_)) | (refine Trip.skip ?_; (change Trip _ _ _ _ _)) | (refine OpsL.nil ?_; (change Trip _ _ _ _ _)))
 ·have hlt : p < m.of.length := by omega
  refine zg94 ?_
  refine OpsL.setC (k := p) (v := .int .i64 (-1)) (cs' := (e.set p (-1)).map (.int .i64 ·)) he (by rw [List.length_map]; have := hel.down; omega) (by rw [List.map_set]) rfl xrf rfl evr (by rfl) (by show (⟨bn, 0 + p * 1, none⟩ : Addr) = _; rw [Nat.zero_add, Nat.mul_one]) ?_
  intro τ he1 x1 _
  replace ho := ho.keep x1 (by simp)
  replace hg := hg.keep x1 (by simp)
  replace hd := hd.keep x1 (by simp)
  clear he x1
  have hel1 : PLift ((e.set p (-1)).length = m.of.length) := ⟨by rw [List.length_set]; exact hel.down⟩
  have hget : ∀ x q, (e.set p x).getD q 0 = if q = p then x else e.getD q 0 := fun x q => getD_set_i (by have := hel.down; omega)
  refine zg46 ?_
  (change Trip _ _ _ _ _)
  refine Trip.seq (Trip.seq ?_)
  refine Trip.ops ?_
  (first | (refine OpsL.q (by exact oasg) ?_))
  refine zg46 ?_
  (change Trip _ _ _ _ _)
  refine clsQ (e1 := e.set p (-1)) (d := d) (r := r) (last := last) (c := c) W0 hmod hn0 hFA hrl hdl hel1 hlt (by rw [hget, if_pos rfl]) (fun q h1 h2 => by rw [hget, if_neg (by omega)]; exact hpos q h1 h2) stp stp stp stp stp stp stp stp ho hg hd he1 ?_
  clear t1 t3 t4 t6 t7 t8 t9 ho hg hd he1
  intro tm σ e' t1 t3 t4 t6 t7 t8 t9 ho hg hd he halt
  dsimp only
  have hel' : PLift (e'.length = m.of.length) := by
   refine ⟨?_⟩
   rcases halt with ⟨rfl, _⟩ | ⟨_, _, _, _, _, rfl⟩
   ·exact hel1.down
   ·rw [List.length_set]; exact hel1.down
  have hlow : ∀ q, q < p → e'.getD q 0 = e.getD q 0 := fun q hq => by
   rcases halt with ⟨rfl, _⟩ | ⟨_, _, _, _, _, rfl⟩
   ·rw [hget, if_neg (by omega)]
   ·rw [getD_set_i (by have := hel1.down; omega), if_neg (by omega), hget, if_neg (by omega)]
  have cg := ofBools_cell hg (i := p) (by have := hrl.down; omega)
  have ce := ofInts_cell he (i := p) (by have := hel'.down; omega)
  have hR' : Round m (fun x => d.getD x 0) (fun x => e'.getD x 0) p c := hR.congr fun q hq => hlow q hq
  obtain ⟨y, hy⟩ : ∃ y, (reachedF m).getD p false = y := ⟨_, rfl⟩
  obtain ⟨z, hzz⟩ : ∃ z, e'.getD p 0 = z := ⟨_, rfl⟩
  rw [hy] at cg halt
  rw [hzz] at ce
  refine zg29 ?_
  repeat (first | (refine OpsL.q (by first | exact omv | exact oixa | exact old) ?_))
  cases y
  ·have hz1 : z = -1 := by
    rcases halt with ⟨rfl, _⟩ | ⟨_, _, h, _⟩
    ·rw [← hzz, hget, if_pos rfl]
    ·cases h
   repeat (first | (refine OpsL.q (by exact opkF) ?_) | (refine OpsL.nil ?_; (change Trip _ _ _ _ _)) | (refine OpsL.skp ?_))
   refine zg88 ?_
   refine zg13 ?_
   refine ⟨p + 1, ⟨_, σ, e', c, rfl, stp, stp, stp, stp, stp, stp, stp, by omega, ho, hg, hd, he, hel'.down, hR'.skip hy, fun q h1 h2 => ?_, fun q h1 h2 => ?_, by omega⟩, by omega⟩
   ·by_cases e : q = p
    ·rw [e, hzz, hz1]
    ·rw [hlow q (by omega)]; exact hneg q (by omega) h2
   ·by_cases e : q = p
    ·rw [e, hy] at h2; cases h2
    ·rw [hlow q (by omega)]; exact hpos q (by omega) h2
  ·repeat (first | (refine OpsL.q (by first | exact omv | exact oixa | exact old) ?_) | (refine OpsL.ung ?_))
   by_cases hzn : z < 0
   ·refine OpsL.lssT ?_ (c := hzn)
    refine zg78 ?_
    refine Trip.ifT ?_
    have hno : ∀ q, q < p → (reachedF m).getD q false = true → ¬ AlikeP m (fun x => d.getD x 0) p q := by
     rcases halt with ⟨_, h⟩ | ⟨q, h1, h2, h3, h4, rfl⟩
     ·exact h rfl
     ·rw [getD_set_i (by have := hel1.down; omega), if_pos rfl, hget, if_neg (by omega)] at hzz
      have := hpos q h1 h3
      omega
    have hget2 : ∀ q, (e'.set p (c : Int)).getD q 0 = if q = p then (c : Int) else e'.getD q 0 := fun q => getD_set_i (by have := hel'.down; omega)
    repeat (first | (refine OpsL.q (by first | exact omv | exact oixa) ?_) | (refine Trip.seq ?_) | (refine Trip.ops ?_))
    refine OpsL.setC (k := p) (v := .int .i64 (c : Int)) (cs' := (e'.set p (c : Int)).map (.int .i64 ·)) he (by rw [List.length_map]; have := hel'.down; omega) (by rw [List.map_set]) rfl xrf rfl evr evd (by show (⟨bn, 0 + p * 1, none⟩ : Addr) = _; rw [Nat.zero_add, Nat.mul_one]) ?_
    intro τ2 he2 x2 _
    replace ho := ho.keep x2 (by simp)
    replace hg := hg.keep x2 (by simp)
    replace hd := hd.keep x2 (by simp)
    clear he x2 cg ce
    refine zg46 ?_
    (change Trip _ _ _ _ _)
    refine zg66 ?_
    repeat fail
    have hR2 : Round m (fun x => d.getD x 0) (fun x => (e'.set p (c : Int)).getD x 0) (p + 1) (c + 1) := Round.new hmod (hR'.congr fun q hq => by show (e'.set p (c : Int)).getD q 0 = _; rw [hget2, if_neg (by omega)]) hy hno (by show (e'.set p (c : Int)).getD p 0 = _; rw [hget2, if_pos rfl])
    refine ⟨p + 1, ⟨_, τ2, _, c + 1, rfl, stp, stp, stp, stp, stp, stp, stp, by omega, ho, hg, hd, he2, (by show (e'.set p (c : Int)).length = _; rw [List.length_set]; exact hel'.down), hR2, fun q h1 h2 => ?_, fun q h1 h2 => ?_, by omega⟩, by omega⟩
    ·by_cases e : q = p
     ·rw [e, hy] at h2; cases h2
     ·rw [hget2, if_neg e, hlow q (by omega)]; exact hneg q (by omega) h2
    ·by_cases e : q = p
     ·rw [hget2, if_pos e]; omega
     ·rw [hget2, if_neg e, hlow q (by omega)]; exact hpos q (by omega) h2
   ·refine OpsL.lssF ?_ (c := hzn)
    refine zg78 ?_
    refine zg88 ?_
    obtain ⟨q, h1, h3, h4, hpq⟩ : ∃ q, q < p ∧ (reachedF m).getD q false = true ∧ AlikeP m (fun x => d.getD x 0) p q ∧ e'.getD p 0 = e'.getD q 0 := by
     rcases halt with ⟨rfl, _⟩ | ⟨q, h1, h2, h3, h4, rfl⟩
     ·rw [hget, if_pos rfl] at hzz; omega
     ·exact ⟨q, h1, h3, h4, by rw [hlow q h1, getD_set_i (by have := hel1.down; omega), if_pos rfl, hget, if_neg (by omega)]⟩
    refine zg13 ?_
    refine ⟨p + 1, ⟨_, σ, e', c, rfl, stp, stp, stp, stp, stp, stp, stp, by omega, ho, hg, hd, he, hel'.down, hR'.old hmod hy h1 h3 h4 hpq, fun q h1 h2 => ?_, fun q h1 h2 => ?_, by omega⟩, by omega⟩
    ·by_cases e : q = p
     ·rw [e, hy] at h2; cases h2
     ·rw [hlow q (by omega)]; exact hneg q (by omega) h2
    ·by_cases e : q = p
     ·rw [e, hzz]; omega
     ·rw [hlow q (by omega)]; exact hpos q (by omega) h2
 ·have hie : p = m.of.length := by omega
  subst hie
  refine zg74 ?_
  exact hQ _ σ e c stp stp stp stp stp stp ho hg hd he hel.down hR hneg hc
end Go.Proofs.Ytjgbcpagfghfnaa
namespace Go.Proofs.Ytjgbcpagfghfnaa
open Go.Am Go.RowKit
attribute [local irreducible] aop OpsL Trip blockExit OpsD OpsK OpsR OpsQ
theorem entersRefClasses : Am.Enters Try.prog 15 := ⟨Try.f15, Try.func15, by kernel_rfl, by kernel_rfl⟩
set_option maxRecDepth 20000 in
set_option maxHeartbeats 16000000 in
theorem refClassesC (W0 : World) {nx : Nat} {H : Heap} {m : Mo} {V : MoV} (hm : MoIn H m V) (hmod : ModOk m) :
  ACalls Try.prog W0 15 [.agg (moV m V).toArray] nx H fun v nx' H' => NewP 3 nx nx' H' v ((classesF m).map (.int .i64 ·)) ∧ Ext nx H nx' H' := by
 refine ACalls.by_trip (fn := Try.f15) (c := _) Try.func15 rfl (fun tm n hn0 htm => ?_)
 have e0 : tm 0 = .agg (moV m V).toArray := htm 0
 clear htm
 replace hn0 : n = 102 := hn0
 refine Trip.ok fun hok => ?_
 replace hok : ∀ id o, H id = some o → id < nx := hok
 refine zg29 ?_
 refine OpsL.boxM hm hok ?_ evd sdc
 intro G x0 okG hb hG
 clear e0
 have hn60 := hmod.n.2
 have hst := hmod.st
 have hrl : PLift ((reachedF m).length = m.of.length) := ⟨reachedF_len hst⟩
 have FA : ∀ {N : Nat} {H' : Heap}, Ext (nx + 1) G N H' → MoBox H' nx m V ∧ MoIn H' m V := fun h => ⟨hb.ext h okG, hG.ext h okG⟩
 clear hm hok hb hG okG
 have hK : OldC ⟨nx + 1, fun _ => .old, G⟩ ⟨nx + 1, fun _ => .old, G⟩ := OldC.refl
 obtain ⟨σ0, hσ0⟩ : ∃ σ0 : CH, ⟨nx + 1, fun _ => .old, G⟩ = σ0 := ⟨_, rfl⟩
 have hσ1 : σ0.nx = nx + 1 := by rw [← hσ0]
 have hσ2 : σ0.H = G := by rw [← hσ0]
 rw [hσ0] at hK
 rw [← hσ1, ← hσ2] at FA ⊢
 refine zg25 ?_
 refine OpsL.loadM (FA hK.ext).1 ?_ evd sdc
 refine OpsL.c1 (hf := entersRefReached) (hc := (refReachedC W0 (FA hK.ext).2 hmod)) (h := ?_)
 rintro v1 nx1 H1 ⟨⟨rb, q1, q2, rfl, q3⟩, hx⟩
 rw [List.length_map, hrl.down]
 obtain ⟨τ, rfl, rfl, x1, hc1⟩ := Chg.ofExtC .tmp hx
 have hg : ObC .tmp τ rb (.cells ((reachedF m).map .bool) 1 none false (some 4)) := ⟨q2, hc1 _ q1, q3⟩
 replace hK := hK.keep x1 (by simp)
 clear hx x1 hc1 q1 q2 q3
 repeat (first | (refine OpsL.q (by first | exact omv | exact olen | exact oasg) ?_) | (refine Trip.seq ?_) | (refine Trip.ops ?_) | (refine OpsL.nil ?_; (change Trip _ _ _ _ _)))
 refine OpsL.newC (.tab 0) (aop_makeSlice evd evd (aMakeSlice_one (m := m.of.length) (bytes := 8) (z := .int .i64 0) xrf xrf xrf xrf (by omega) (by omega))) sdc ?_
 intro σ1 hd x1
 obtain ⟨bo, hbo⟩ : ∃ b, τ.nx = b := ⟨_, rfl⟩
 have hbo2 : nx + 1 ≤ bo := by rw [← hbo, ← hσ1]; exact hK.1
 rw [hbo] at hd ⊢
 replace hK := hK.keep x1 (by simp)
 replace hg := hg.keep x1 (by simp)
 have hrep : List.replicate m.of.length (Value.int .i64 0) = (dL (reachedF m) m.of.length 0).map (.int .i64 ·) := by rw [dL_zero, List.map_replicate]
 rw [hrep] at hd
 clear hrep x1 hbo
 refine zg26 ?_
 refine Trip.mono (Q := fun e st => e = .exit 0 ∧ ∃ (tm' : Nat → Value) (τ : CH), st = ⟨tm', n, τ.H, τ.nx⟩ ∧ tm' 1 = .pointer (some ⟨nx, 0, none⟩) ∧ tm' 3 = .slice (some ⟨rb, 0, none⟩) m.of.length m.of.length ∧ tm' 4 = .slice (some ⟨bo, 0, none⟩) m.of.length m.of.length ∧ OldC σ0 τ ∧ ObC .tmp τ rb (.cells ((reachedF m).map .bool) 1 none false (some 4)) ∧ ObC (.tab 0) τ bo (.cells ((dL (reachedF m) m.of.length m.of.length).map (.int .i64 ·)) 1 none false (some 3))) ?_ ?_
 ·refine Trip.inv (fun (i : Nat) st => ∃ (tm : Nat → Value) (τ : CH), st = ⟨tm, n, τ.H, τ.nx⟩ ∧ tm 1 = .pointer (some ⟨nx, 0, none⟩) ∧ tm 3 = .slice (some ⟨rb, 0, none⟩) m.of.length m.of.length ∧ tm 4 = .slice (some ⟨bo, 0, none⟩) m.of.length m.of.length ∧ tm 5 = .int .i64 i ∧ i ≤ m.of.length ∧ OldC σ0 τ ∧ ObC .tmp τ rb (.cells ((reachedF m).map .bool) 1 none false (some 4)) ∧ ObC (.tab 0) τ bo (.cells ((dL (reachedF m) m.of.length i).map (.int .i64 ·)) 1 none false (some 3))) (fun i => m.of.length - i) 0 ?_ ?_
  ·exact ⟨_, σ1, rfl, stp, stp, stp, stp, by omega, hK, hg, hd⟩
  clear hK hg hd
  rintro i st ⟨tm, τ, rfl, t1, t3, t4, t5, hi, ho, hg, hd⟩
  repeat (first | (refine OpsL.q (by first | exact omv | exact olen | exact olss) ?_) | (refine Trip.seq ?_) | (refine Trip.ops ?_) | (refine Trip.block ?_) | (refine Trip.itA (fun _ => ?_) (fun _ => ?_)) | (refine Trip.skip ?_; (change Trip _ _ _ _ _)) | (refine OpsL.nil ?_; (change Trip _ _ _ _ _)))
  ·have hlt : i < m.of.length := by omega
   have cg := ofBools_cell hg (i := i) (by have := hrl.down; omega)
   obtain ⟨y, hy⟩ : ∃ y, (reachedF m).getD i false = y := ⟨_, rfl⟩
   rw [hy] at cg
   refine zg59 ?_
   cases y
   ·refine Trip.ifT ?_
    repeat (first | (refine OpsL.q (by first | exact omv | exact oixa) ?_) | (refine Trip.ops ?_))
    refine OpsL.setC (k := i) (v := .int .i64 (-1)) (cs' := (dL (reachedF m) m.of.length (i + 1)).map (.int .i64 ·)) hd (by rw [List.length_map, dL_len]; exact hlt) (by rw [← dL_set hlt hy, List.map_set]) rfl xrf rfl evr (by rfl) (by show (⟨bo, 0 + i * 1, none⟩ : Addr) = _; rw [Nat.zero_add, Nat.mul_one]) ?_
    intro τ2 hd2 x2 _
    replace ho := ho.keep x2 (by simp)
    replace hg := hg.keep x2 (by simp)
    clear hd x2 cg
    refine zg46 ?_
    refine zg14 ?_
    exact ⟨i + 1, ⟨_, τ2, rfl, stp, stp, stp, stp, by omega, ho, hg, hd2⟩, by omega⟩
   ·refine Trip.ifF ?_
    rw [← dL_same hy] at hd
    refine zg13 ?_
    exact ⟨i + 1, ⟨_, τ, rfl, stp, stp, stp, stp, by omega, ho, hg, hd⟩, by omega⟩
  ·have hie : i = m.of.length := by omega
   rw [hie] at hd
   repeat (first | (refine Trip.exit ?_; (dsimp only)))
   exact ⟨rfl, _, τ, rfl, stp, stp, stp, ho, hg, hd⟩
 clear hK hg hd
 rintro e st ⟨rfl, tm, σ, rfl, t1, t3, t4, ho, hg, hd⟩
 refine zg104 ?_
 refine zg26 ?_
 have hco : CoarseR m (fun x => (dL (reachedF m) m.of.length m.of.length).getD x 0) := fun p q hp hq _ => by
  have h0 : ∀ x, (reachedF m).getD x false = true → (dL (reachedF m) m.of.length m.of.length).getD x 0 = 0 := fun x hx => by
   rw [dL_get (reached_lt hmod hx)]
   unfold dN
   rw [if_neg (by rw [hx]; simp)]
  show (dL (reachedF m) m.of.length m.of.length).getD p 0 = (dL (reachedF m) m.of.length m.of.length).getD q 0
  rw [h0 p hp, h0 q hq]
 -- the rounds
 refine Trip.inv (fun (last : Nat) st => ∃ (tm : Nat → Value) (σ : CH) (r bo : Nat) (d : List Int), st = ⟨tm, n, σ.H, σ.nx⟩ ∧ tm 1 = .pointer (some ⟨nx, 0, none⟩) ∧ tm 3 = .slice (some ⟨rb, 0, none⟩) m.of.length m.of.length ∧ tm 4 = .slice (some ⟨bo, 0, none⟩) m.of.length m.of.length ∧ tm 6 = .int .i64 (last : Nat) ∧ last ≤ m.of.length ∧ OldC σ0 σ ∧ ObC .tmp σ rb (.cells ((reachedF m).map .bool) 1 none false (some 4)) ∧ ObC (.tab r) σ bo (.cells (d.map (.int .i64 ·)) 1 none false (some 3)) ∧ HidP (d.length = m.of.length) ∧ CoarseR m (fun x => d.getD x 0) ∧ (last ≤ 0 ∨ numD ((preL (reachedF m) m.of.length).map fun x => d.getD x 0) = last)) (fun last => m.of.length - last) 0 ?_ ?_
 ·exact ⟨_, σ, 0, bo, _, rfl, stp, stp, stp, stp, by omega, ho, hg, hd, dL_len _ _ _, hco, .inl (Nat.le_refl _)⟩
 clear t1 t3 t4 ho hg hd hco hbo2 bo
 rintro last st ⟨tm, σ, r, bo, d, rfl, t1, t3, t4, t6, hlast, ho, hg, hd, hdl, hco, hnum⟩
 replace hdl : PLift (d.length = m.of.length) := ⟨hdl⟩
 refine Trip.block ?_
 repeat (first | (refine OpsL.q (by first | exact omv | exact olen) ?_) | (refine Trip.seq ?_) | (refine Trip.ops ?_))
 refine OpsL.newC (.tab (r + 1)) (aop_makeSlice evd evd (aMakeSlice_one (m := m.of.length) (bytes := 8) (z := .int .i64 0) xrf xrf xrf xrf (by omega) (by omega))) sdc ?_
 intro σ2 he x1
 obtain ⟨bn, hbn⟩ : ∃ b, σ.nx = b := ⟨_, rfl⟩
 have hbn2 : nx + 1 ≤ bn := by rw [← hbn, ← hσ1]; exact ho.1
 rw [hbn] at he ⊢
 replace ho := ho.keep x1 (by simp)
 replace hg := hg.keep x1 (by simp)
 replace hd := hd.keep x1 (by simp)
 have hrep : List.replicate m.of.length (Value.int .i64 0) = (List.replicate m.of.length (0 : Int)).map (.int .i64 ·) := by rw [List.map_replicate]
 rw [hrep] at he
 clear hrep x1 hbn
 (first | (refine OpsL.q (by exact oasg) ?_))
 refine zg46 ?_
 (change Trip _ _ _ _ _)
 refine zg29 ?_
 (first | (refine OpsL.q (by exact oasg) ?_))
 refine zg46 ?_
 (change Trip _ _ _ _ _)
 refine Trip.seq (Trip.seq ?_)
 refine Trip.ops ?_
 (first | (refine OpsL.q (by exact oasg) ?_))
 refine zg46 ?_
 (change Trip _ _ _ _ _)
 refine clsP (e0 := List.replicate m.of.length 0) (d := d) (r := r) (last := last) W0 hmod hn0 FA hrl hdl List.length_replicate stp stp stp stp stp stp stp ho hg hd he ?_
 clear t1 t3 t4 t6 ho hg hd he
 intro tm σ e c t1 t3 t4 t6 t7 t8 ho hg hd he hel hR hno hc
 dsimp only
 have hmore := hR.more hmod
 refine zg29 ?_
 refine zg50 ?_
 by_cases hce : c = last
 ·refine OpsL.eqlT ?_
  have hfin : e = classesF m := hR.final hmod hco (by omega) hel hno
  refine zg68 ?_
  repeat (first | (refine OpsL.q (by first | exact omv | exact oasg) ?_) | (refine Trip.seq ?_) | (refine Trip.ops ?_) | (refine Trip.ret ?_; ((repeat (refine blockExit_ret ?_)); dsimp only)) | (refine OpsL.nil ?_; (change Trip _ _ _ _ _)))
  exact ⟨.inr rfl, _, res_tmp, ⟨bn, by omega, he.1, by rw [← hfin, List.length_map, hel]; exact stp, by rw [← hfin]; exact he.2.2⟩, x0.trans (by have := ho.ext; rw [hσ1, hσ2] at this; exact this)⟩
 ·refine OpsL.eqlF ?_
  refine zg107 ?_
  repeat (first | (refine OpsL.q (by first | exact omv | exact oasg) ?_) | (refine Trip.ops ?_) | (refine Trip.skip ?_; (change Trip _ _ _ _ _)) | (refine OpsL.nil ?_; ((repeat (refine blockExit_normal ?_)); dsimp only)))
  exact ⟨c, ⟨_, σ, r + 1, bn, e, rfl, stp, stp, stp, stp, hc, ho, hg, he, hel, hR.coarse hmod hco, .inr hR.num⟩, by omega⟩
end Go.Proofs.Ytjgbcpagfghfnaa
namespace Go.Proofs.Ytjgbcpagfghfnaa
open Go.Am Go.RowKit
attribute [local irreducible] aop OpsL Trip blockExit OpsD OpsK OpsR OpsQ
theorem entersRefClasses2 : Am.Enters Try.prog 28 := ⟨Try.f28, Try.func28, by kernel_rfl, by kernel_rfl⟩
set_option maxRecDepth 20000 in
set_option maxHeartbeats 16000000 in
theorem refClassesC2 (W0 : World) {nx : Nat} {H : Heap} {ov lv : Value} {cls l : List Int} (hc : IntsAt H ov cls) (hl : IntsAt H lv l) (hb : ∀ x ∈ l, 0 ≤ x ∧ x < (cls.length : Int)) (hll : l.length ≤ 1000) (hcl : cls.length ≤ 1000) :
  ACalls Try.prog W0 28 [ov, lv] nx H fun v nx' H' => ∃ ob, OwnOf encN 1 3 H' ob v (pickL cls l) ∧ (∀ b t, ob = some (b, t) → nx ≤ b ∧ b < nx') ∧ Ext nx H nx' H' := by
 refine ACalls.by_trip (fn := Try.f28) (c := _) Try.func28 rfl (fun tm n hn0 htm => ?_)
 have e0 : tm 0 = ov := htm 0
 have e1 : tm 1 = lv := htm 1
 clear htm
 replace hn0 : n = 24 := hn0
 refine Trip.ok fun hok => ?_
 replace hok : ∀ id o, H id = some o → id < nx := hok
 have FC : ∀ {τ : CH}, OldC ⟨nx, fun _ => .old, H⟩ τ → IntsAt τ.H ov cls ∧ IntsAt τ.H lv l := fun h => ⟨hc.ext h.ext hok, hl.ext h.ext hok⟩
 obtain ⟨oa, oc, rfl⟩ := hc.slice
 obtain ⟨la, lc, rfl⟩ := hl.slice
 clear hc hl hok
 refine zg26 ?_
 have hK : OldC ⟨nx, fun _ => .old, H⟩ ⟨nx, fun _ => .old, H⟩ := OldC.refl
 obtain ⟨σ0, hσ0⟩ : ∃ σ0 : CH, (⟨nx, fun _ => .old, H⟩ : CH) = σ0 := ⟨_, rfl⟩
 have hσ1 : σ0.nx = nx := by rw [← hσ0]
 have hσ2 : σ0.H = H := by rw [← hσ0]
 have hσ3 : ∀ i, σ0.C i = .old := fun i => by rw [← hσ0]
 rw [hσ0] at hK FC
 rw [← hσ1, ← hσ2]
 clear hσ0
 refine Trip.inv (fun (i : Nat) s => ∃ tm σ v, s = ⟨tm, n, σ.H, σ.nx⟩ ∧ tm 0 = .slice oa cls.length oc ∧ tm 1 = .slice la l.length lc ∧ tm 5 = v ∧ tm 6 = .int .i64 i ∧ i ≤ l.length ∧ OldC σ0 σ ∧ OwnC encN 3 .next σ v (pickL cls (l.take i))) (fun i => l.length - i) 0 ?_ ?_
 ·exact ⟨_, σ0, _, rfl, stp, stp, stp, stp, by omega, hK, OwnC.nil⟩
 clear hK e0 e1
 rintro i s ⟨tm, σ, v, rfl, t0, t1, t5, t6, hi, ho, hv⟩
 repeat (first | (refine OpsL.q (by first | exact omv | exact olen | exact olss) ?_) | (refine Trip.seq ?_) | (refine Trip.ops ?_) | (refine Trip.block ?_) | (refine Trip.itA (fun _ => ?_) (fun _ => ?_)) | (refine Trip.skip ?_; (change Trip _ _ _ _ _)) | (refine OpsL.nil ?_; (change Trip _ _ _ _ _)))
 ·have hlt : i < l.length := by omega
  obtain ⟨hci, hli⟩ := FC ho
  have hm := hb _ (getD_memI hlt)
  obtain ⟨q1, rfl, hc1⟩ := hli.atI (show (0 : Int) ≤ i by omega) (show (i : Int) < l.length by omega)
  rw [Int.toNat_natCast] at hc1
  have hsn : pickL cls (l.take (i + 1)) = pickL cls (l.take i) ++ [cls.getD (l.getD i 0).toNat 0] := by
   unfold pickL
   rw [List.take_succ_eq_append_getElem hlt, List.map_append, List.getD_eq_getElem?_getD (l := l), List.getElem?_eq_getElem hlt]; rfl
  have hml : (pickL cls (l.take i)).length ≤ 1000 := by rw [pickL_len, List.length_take]; omega
  obtain ⟨x, hx⟩ : ∃ x, l.getD i 0 = x := ⟨_, rfl⟩
  rw [hx] at hc1 hm hsn
  obtain ⟨q2, rfl, hc2⟩ := hci.atI hm.1 hm.2
  clear hx hci hli
  generalize pickL cls (l.take i) = R at *
  refine zg100 ?_
  refine OpsL.litC (σ := σ) (enc := encN) (z := cls.getD x.toNat 0) (el := 3) rfl evd krf sdc ?_
  intro σ2 x2 hu
  replace ho := ho.keep x2 (by simp)
  replace hv := hv.keep x2 (by simp)
  refine OpsL.appC (bytes := 8) (z := [.int .i64 0]) encN_len encN_one hv hu xrf xrf xrf xrf xrf rfl (by simp; omega) (by omega) evd evd sdc ?_
  intro v3 σ3 hv3 x3
  replace ho := ho.keep x3 (by simp)
  rw [← hsn] at hv3
  clear hv hu hc1 hc2 x2 x3
  refine zg120 ?_
  exact ⟨i + 1, ⟨_, σ3, v3, rfl, stp, stp, stp, stp, by omega, ho, hv3⟩, by omega⟩
 ·have hie : i = l.length := by omega
  rw [hie, List.take_length] at hv
  obtain ⟨ob, hown, hob⟩ := hv
  refine zg24 ?_
  refine ⟨.inr rfl, _, res_tmp, ob, by simpa [tmPut, t5] using hown, fun b t e => ?_, ho.ext⟩
  obtain ⟨k1, k2⟩ := hob b t e
  refine ⟨?_, k1⟩
  by_cases hlt : b < nx
  ·have := (ho.2 b (by rw [hσ1]; exact hlt)).1
   rw [k2] at this
   cases this
  ·rw [hσ1]; omega
end Go.Proofs.Ytjgbcpagfghfnaa
