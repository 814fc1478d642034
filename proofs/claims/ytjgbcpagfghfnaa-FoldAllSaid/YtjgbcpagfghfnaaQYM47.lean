import Derived.Test.YtjgbcpagfghfnaaQYM46
import Derived.Test.YtjgbcpagfghfnaaQYM15
import Derived.Test.YtjgbcpagfghfnaaQYM38
import Derived.Test.YtjgbcpagfghfnaaQYM45
set_option linter.unusedVariables false
set_option linter.unusedSimpArgs false
namespace Go.Proofs.Ytjgbcpagfghfnaa
open Go.Am Go.RowKit
attribute [local irreducible] aop OpsL Trip zt z1X z1E OpsR OpsQ
set_option maxRecDepth 20000 in
set_option maxHeartbeats 16000000 in
theorem zhK (W0 : World) {σ0 σ : CH} {m : Mo} {V : MoV} {nx rb bo bn r last n : Nat} {d e0 : List Int} {tm : Nat → Value} (hmod : ModOk m) (hn0 : n = 102) (hFA : ∀ {N : Nat} {H' : Heap}, Ext σ0.nx σ0.H N H' → MoBox H' nx m V ∧ MoIn H' m V) (hrl : PLift ((z0 m).length = m.of.length)) (hdl : PLift (d.length = m.of.length)) (hel : e0.length = m.of.length)
  (t1 : tm 1 = .pointer (some ⟨nx, 0, none⟩)) (t3 : tm 3 = .slice (some ⟨rb, 0, none⟩) m.of.length m.of.length) (t4 : tm 4 = .slice (some ⟨bo, 0, none⟩) m.of.length m.of.length) (t6 : tm 6 = .int .i64 (last : Nat)) (t7 : tm 7 = .slice (some ⟨bn, 0, none⟩) m.of.length m.of.length) (t8 : tm 8 = .int .i64 0) (t9 : tm 9 = .int .i64 0) (ho : OldC σ0 σ) (hg : ObC .tmp σ rb (.cells ((z0 m).map .bool) 1 none false (some 4))) (hd : ObC (.tab r) σ bo (.cells (d.map (.int .i64 ·)) 1 none false (some 3))) (he : ObC (.tab (r + 1)) σ bn (.cells ((e0).map (.int .i64 ·)) 1 none false (some 3)))
  {Q : AExit → ASt → Prop} (hQ : ∀ (tm' : Nat → Value) (σ : CH) (e : List Int) (c : Nat), tm' 1 = .pointer (some ⟨nx, 0, none⟩) → tm' 3 = .slice (some ⟨rb, 0, none⟩) m.of.length m.of.length → tm' 4 = .slice (some ⟨bo, 0, none⟩) m.of.length m.of.length → tm' 6 = .int .i64 (last : Nat) → tm' 7 = .slice (some ⟨bn, 0, none⟩) m.of.length m.of.length → tm' 8 = .int .i64 (c : Nat) → OldC σ0 σ → ObC .tmp σ rb (.cells ((z0 m).map .bool) 1 none false (some 4)) → ObC (.tab r) σ bo (.cells (d.map (.int .i64 ·)) 1 none false (some 3)) → ObC (.tab (r + 1)) σ bn (.cells ((e).map (.int .i64 ·)) 1 none false (some 3)) → e.length = m.of.length → Round m (fun x => d.getD x 0) (fun x => e.getD x 0) m.of.length c → (∀ q, q < m.of.length → (z0 m).getD q false = false → e.getD q 0 = -1) → c ≤ m.of.length → Q .normal ⟨tm', n, σ.H, σ.nx⟩) :
  Trip Try.prog W0 (z3t [1, 1, 1, 1, 1, 2, 2, 2, 1, 1, 0, 1] (z0B Try.f15)) ⟨tm, n, σ.H, σ.nx⟩ Q := by
 refine Trip.block ?_;refine zG (fun (p : Nat) st => ∃ (tm : Nat → Value) (σ : CH) (e : List Int) (c : Nat), st = ⟨tm, n, σ.H, σ.nx⟩ ∧ tm 1 = .pointer (some ⟨nx, 0, none⟩) ∧ tm 3 = .slice (some ⟨rb, 0, none⟩) m.of.length m.of.length ∧ tm 4 = .slice (some ⟨bo, 0, none⟩) m.of.length m.of.length ∧ tm 6 = .int .i64 (last : Nat) ∧ tm 7 = .slice (some ⟨bn, 0, none⟩) m.of.length m.of.length ∧ tm 8 = .int .i64 (c : Nat) ∧ tm 9 = .int .i64 p ∧ p ≤ m.of.length ∧ OldC σ0 σ ∧ ObC .tmp σ rb (.cells ((z0 m).map .bool) 1 none false (some 4)) ∧ ObC (.tab r) σ bo (.cells (d.map (.int .i64 ·)) 1 none false (some 3)) ∧ ObC (.tab (r + 1)) σ bn (.cells ((e).map (.int .i64 ·)) 1 none false (some 3)) ∧ zhu (e.length = m.of.length) ∧ Round m (fun x => d.getD x 0) (fun x => e.getD x 0) p c ∧ (∀ q, q < p → (z0 m).getD q false = false → e.getD q 0 = -1) ∧ (∀ q, q < p → (z0 m).getD q false = true → 0 ≤ e.getD q 0) ∧ c ≤ p) (fun p => m.of.length - p) 0 ?_ ?_
 ·exact ⟨tm, σ, e0, 0, rfl, t1, t3, t4, t6, t7, t8, t9, by omega, ho, hg, hd, he, hel, Round.zero, fun q hq => by omega, fun q hq => by omega, by omega⟩
 clear t1 t3 t4 t6 t7 t8 t9 ho hg hd he hel;rintro p st ⟨tm, σ, e, c, rfl, t1, t3, t4, t6, t7, t8, t9, hi, ho, hg, hd, he, hel, hR, hneg, hpos, hc⟩;replace hel : PLift (e.length = m.of.length) := ⟨hel⟩;have hn60 := hmod.n.2
 repeat (first | (refine zc (by first | exact omv | exact z1g | exact z24) ?_) | (refine Trip.seq ?_) | (refine zd ?_) | (refine Trip.block ?_) | (refine zJ (fun _ => ?_) (fun _ => ?_)) | (refine Trip.skip ?_; (change Trip _ _ _ _ _)) | (refine OpsL.nil ?_; (change Trip _ _ _ _ _)))
 ·have hlt : p < m.of.length := by omega
  refine zbl ?_;refine zP (k := p) (v := .int .i64 (-1)) (cs' := (e.set p (-1)).map (.int .i64 ·)) he (by rw [List.length_map]; have := hel.down; omega) (by rw [List.map_set]) rfl xrf rfl evr (by rfl) (by show (⟨bn, 0 + p * 1, none⟩ : Addr) = _; rw [Nat.zero_add, Nat.mul_one]) ?_;intro τ he1 x1 _;replace ho := ho.keep x1 (by simp);replace hg := hg.keep x1 (by simp);replace hd := hd.keep x1 (by simp);clear he x1;have hel1 : PLift ((e.set p (-1)).length = m.of.length) := ⟨by rw [List.length_set]; exact hel.down⟩;have hget : ∀ x q, (e.set p x).getD q 0 = if q = p then x else e.getD q 0 := fun x q => z2R (by have := hel.down; omega)
  refine z0n ?_
  (change Trip _ _ _ _ _)
  refine Trip.seq (Trip.seq ?_);refine zd ?_
  (first | (refine zc (by exact z09) ?_))
  refine z0n ?_
  (change Trip _ _ _ _ _)
  refine zhJ (e1 := e.set p (-1)) (d := d) (r := r) (last := last) (c := c) W0 hmod hn0 hFA hrl hdl hel1 hlt (by rw [hget, if_pos rfl]) (fun q h1 h2 => by rw [hget, if_neg (by omega)]; exact hpos q h1 h2) stp stp stp stp stp stp stp stp ho hg hd he1 ?_;clear t1 t3 t4 t6 t7 t8 t9 ho hg hd he1;intro tm σ e' t1 t3 t4 t6 t7 t8 t9 ho hg hd he halt;dsimp only
  have hel' : PLift (e'.length = m.of.length) := by
   refine ⟨?_⟩;rcases halt with ⟨rfl, _⟩ | ⟨_, _, _, _, _, rfl⟩
   ·exact hel1.down
   ·rw [List.length_set]; exact hel1.down
  have hlow : ∀ q, q < p → e'.getD q 0 = e.getD q 0 := fun q hq => by
   rcases halt with ⟨rfl, _⟩ | ⟨_, _, _, _, _, rfl⟩
   ·rw [hget, if_neg (by omega)]
   ·rw [z2R (by have := hel1.down; omega), if_neg (by omega), hget, if_neg (by omega)]
  have cg := z3a hg (i := p) (by have := hrl.down; omega);have ce := z33 he (i := p) (by have := hel'.down; omega);have hR' : Round m (fun x => d.getD x 0) (fun x => e'.getD x 0) p c := hR.congr fun q hq => hlow q hq;obtain ⟨y, hy⟩ : ∃ y, (z0 m).getD p false = y := ⟨_, rfl⟩;obtain ⟨z, hzz⟩ : ∃ z, e'.getD p 0 = z := ⟨_, rfl⟩;rw [hy] at cg halt;rw [hzz] at ce;refine z2k ?_
  repeat (first | (refine zc (by first | exact omv | exact z1j | exact old) ?_))
  cases y
  ·have hz1 : z = -1 := by
    rcases halt with ⟨rfl, _⟩ | ⟨_, _, h, _⟩
    ·rw [← hzz, hget, if_pos rfl]
    ·cases h
   repeat (first | (refine zc (by exact z3u) ?_) | (refine OpsL.nil ?_; (change Trip _ _ _ _ _)) | (refine z0e ?_))
   refine z2r ?_;refine z9R ?_;refine ⟨p + 1, ⟨_, σ, e', c, rfl, stp, stp, stp, stp, stp, stp, stp, by omega, ho, hg, hd, he, hel'.down, hR'.skip hy, fun q h1 h2 => ?_, fun q h1 h2 => ?_, by omega⟩, by omega⟩
   ·by_cases e : q = p
    ·rw [e, hzz, hz1]
    ·rw [hlow q (by omega)]; exact hneg q (by omega) h2
   ·by_cases e : q = p
    ·rw [e, hy] at h2; cases h2
    ·rw [hlow q (by omega)]; exact hpos q (by omega) h2
  ·repeat (first | (refine zc (by first | exact omv | exact z1j | exact old) ?_) | (refine zB ?_))
   by_cases hzn : z < 0
   ·refine z0y ?_ (c := hzn);refine zeE ?_;refine z07 ?_
    have hno : ∀ q, q < p → (z0 m).getD q false = true → ¬ AlikeP m (fun x => d.getD x 0) p q := by
     rcases halt with ⟨_, h⟩ | ⟨q, h1, h2, h3, h4, rfl⟩
     ·exact h rfl
     ·rw [z2R (by have := hel1.down; omega), if_pos rfl, hget, if_neg (by omega)] at hzz;have := hpos q h1 h3;omega
    have hget2 : ∀ q, (e'.set p (c : Int)).getD q 0 = if q = p then (c : Int) else e'.getD q 0 := fun q => z2R (by have := hel'.down; omega)
    repeat (first | (refine zc (by first | exact omv | exact z1j) ?_) | (refine Trip.seq ?_) | (refine zd ?_))
    refine zP (k := p) (v := .int .i64 (c : Int)) (cs' := (e'.set p (c : Int)).map (.int .i64 ·)) he (by rw [List.length_map]; have := hel'.down; omega) (by rw [List.map_set]) rfl xrf rfl evr evd (by show (⟨bn, 0 + p * 1, none⟩ : Addr) = _; rw [Nat.zero_add, Nat.mul_one]) ?_;intro τ2 he2 x2 _;replace ho := ho.keep x2 (by simp);replace hg := hg.keep x2 (by simp);replace hd := hd.keep x2 (by simp);clear he x2 cg ce;refine z0n ?_
    (change Trip _ _ _ _ _)
    refine zgT ?_
    repeat fail
    have hR2 : Round m (fun x => d.getD x 0) (fun x => (e'.set p (c : Int)).getD x 0) (p + 1) (c + 1) := Round.new hmod (hR'.congr fun q hq => by show (e'.set p (c : Int)).getD q 0 = _; rw [hget2, if_neg (by omega)]) hy hno (by show (e'.set p (c : Int)).getD p 0 = _; rw [hget2, if_pos rfl]);refine ⟨p + 1, ⟨_, τ2, _, c + 1, rfl, stp, stp, stp, stp, stp, stp, stp, by omega, ho, hg, hd, he2, (by show (e'.set p (c : Int)).length = _; rw [List.length_set]; exact hel'.down), hR2, fun q h1 h2 => ?_, fun q h1 h2 => ?_, by omega⟩, by omega⟩
    ·by_cases e : q = p
     ·rw [e, hy] at h2; cases h2
     ·rw [hget2, if_neg e, hlow q (by omega)]; exact hneg q (by omega) h2
    ·by_cases e : q = p
     ·rw [hget2, if_pos e]; omega
     ·rw [hget2, if_neg e, hlow q (by omega)]; exact hpos q (by omega) h2
   ·refine z0z ?_ (c := hzn);refine zeE ?_;refine z2r ?_
    obtain ⟨q, h1, h3, h4, hpq⟩ : ∃ q, q < p ∧ (z0 m).getD q false = true ∧ AlikeP m (fun x => d.getD x 0) p q ∧ e'.getD p 0 = e'.getD q 0 := by
     rcases halt with ⟨rfl, _⟩ | ⟨q, h1, h2, h3, h4, rfl⟩
     ·rw [hget, if_pos rfl] at hzz; omega
     ·exact ⟨q, h1, h3, h4, by rw [hlow q h1, z2R (by have := hel1.down; omega), if_pos rfl, hget, if_neg (by omega)]⟩
    refine z9R ?_;refine ⟨p + 1, ⟨_, σ, e', c, rfl, stp, stp, stp, stp, stp, stp, stp, by omega, ho, hg, hd, he, hel'.down, hR'.old hmod hy h1 h3 h4 hpq, fun q h1 h2 => ?_, fun q h1 h2 => ?_, by omega⟩, by omega⟩
    ·by_cases e : q = p
     ·rw [e, hy] at h2; cases h2
     ·rw [hlow q (by omega)]; exact hneg q (by omega) h2
    ·by_cases e : q = p
     ·rw [e, hzz]; omega
     ·rw [hlow q (by omega)]; exact hpos q (by omega) h2
 ·have hie : p = m.of.length := by omega
  subst hie;refine zeD ?_;exact hQ _ σ e c stp stp stp stp stp stp ho hg hd he hel.down hR hneg hc
end Go.Proofs.Ytjgbcpagfghfnaa
namespace Go.Proofs.Ytjgbcpagfghfnaa
open Go.Am Go.RowKit
attribute [local irreducible] aop OpsL Trip zt z1X z1E OpsR OpsQ
theorem z3S : Am.z1G Try.prog 15 := ⟨Try.f15, Try.func15, by kernel_rfl, by kernel_rfl⟩
set_option maxRecDepth 20000 in
set_option maxHeartbeats 16000000 in
theorem z6V (W0 : World) {nx : Nat} {H : Heap} {m : Mo} {V : MoV} (hm : MoIn H m V) (hmod : ModOk m) :
  ACalls Try.prog W0 15 [.agg (moV m V).toArray] nx H fun v nx' H' => NewP 3 nx nx' H' v ((zx m).map (.int .i64 ·)) ∧ Ext nx H nx' H' := by
 refine zg (fn := Try.f15) (c := _) Try.func15 rfl (fun tm n hn0 htm => ?_);have e0 : tm 0 = .agg (moV m V).toArray := htm 0;clear htm;replace hn0 : n = 102 := hn0;refine Trip.ok fun hok => ?_;replace hok : ∀ id o, H id = some o → id < nx := hok;refine z2k ?_;refine zY hm hok ?_ evd sdc;intro G x0 okG hb hG;clear e0;have hn60 := hmod.n.2;have hst := hmod.st;have hrl : PLift ((z0 m).length = m.of.length) := ⟨z0j hst⟩;have FA : ∀ {N : Nat} {H' : Heap}, Ext (nx + 1) G N H' → MoBox H' nx m V ∧ MoIn H' m V := fun h => ⟨hb.ext h okG, hG.ext h okG⟩;clear hm hok hb hG okG;have hK : OldC ⟨nx + 1, fun _ => .old, G⟩ ⟨nx + 1, fun _ => .old, G⟩ := OldC.refl;obtain ⟨σ0, hσ0⟩ : ∃ σ0 : CH, ⟨nx + 1, fun _ => .old, G⟩ = σ0 := ⟨_, rfl⟩;have hσ1 : σ0.nx = nx + 1 := by rw [← hσ0]
 have hσ2 : σ0.H = G := by rw [← hσ0]
 rw [hσ0] at hK;rw [← hσ1, ← hσ2] at FA ⊢;refine zaF ?_;refine zS (FA hK.ext).1 ?_ evd sdc;refine OpsL.c1 (hf := z3R) (hc := (z6U W0 (FA hK.ext).2 hmod)) (h := ?_);rintro v1 nx1 H1 ⟨⟨rb, q1, q2, rfl, q3⟩, hx⟩;rw [List.length_map, hrl.down];obtain ⟨τ, rfl, rfl, x1, hc1⟩ := z0N .tmp hx;have hg : ObC .tmp τ rb (.cells ((z0 m).map .bool) 1 none false (some 4)) := ⟨q2, hc1 _ q1, q3⟩;replace hK := hK.keep x1 (by simp);clear hx x1 hc1 q1 q2 q3
 repeat (first | (refine zc (by first | exact omv | exact z1g | exact z09) ?_) | (refine Trip.seq ?_) | (refine zd ?_) | (refine OpsL.nil ?_; (change Trip _ _ _ _ _)))
 refine zo (.tab 0) (z0m evd evd (z0f (m := m.of.length) (bytes := 8) (z := .int .i64 0) xrf xrf xrf xrf (by omega) (by omega))) sdc ?_;intro σ1 hd x1;obtain ⟨bo, hbo⟩ : ∃ b, τ.nx = b := ⟨_, rfl⟩;have hbo2 : nx + 1 ≤ bo := by rw [← hbo, ← hσ1]; exact hK.1
 rw [hbo] at hd ⊢;replace hK := hK.keep x1 (by simp);replace hg := hg.keep x1 (by simp);have hrep : List.replicate m.of.length (Value.int .i64 0) = (dL (z0 m) m.of.length 0).map (.int .i64 ·) := by rw [zfd, List.map_replicate]
 rw [hrep] at hd;clear hrep x1 hbo;refine zdt ?_;refine Trip.mono (Q := fun e st => e = .exit 0 ∧ ∃ (tm' : Nat → Value) (τ : CH), st = ⟨tm', n, τ.H, τ.nx⟩ ∧ tm' 1 = .pointer (some ⟨nx, 0, none⟩) ∧ tm' 3 = .slice (some ⟨rb, 0, none⟩) m.of.length m.of.length ∧ tm' 4 = .slice (some ⟨bo, 0, none⟩) m.of.length m.of.length ∧ OldC σ0 τ ∧ ObC .tmp τ rb (.cells ((z0 m).map .bool) 1 none false (some 4)) ∧ ObC (.tab 0) τ bo (.cells ((dL (z0 m) m.of.length m.of.length).map (.int .i64 ·)) 1 none false (some 3))) ?_ ?_
 ·refine zG (fun (i : Nat) st => ∃ (tm : Nat → Value) (τ : CH), st = ⟨tm, n, τ.H, τ.nx⟩ ∧ tm 1 = .pointer (some ⟨nx, 0, none⟩) ∧ tm 3 = .slice (some ⟨rb, 0, none⟩) m.of.length m.of.length ∧ tm 4 = .slice (some ⟨bo, 0, none⟩) m.of.length m.of.length ∧ tm 5 = .int .i64 i ∧ i ≤ m.of.length ∧ OldC σ0 τ ∧ ObC .tmp τ rb (.cells ((z0 m).map .bool) 1 none false (some 4)) ∧ ObC (.tab 0) τ bo (.cells ((dL (z0 m) m.of.length i).map (.int .i64 ·)) 1 none false (some 3))) (fun i => m.of.length - i) 0 ?_ ?_
  ·exact ⟨_, σ1, rfl, stp, stp, stp, stp, by omega, hK, hg, hd⟩
  clear hK hg hd;rintro i st ⟨tm, τ, rfl, t1, t3, t4, t5, hi, ho, hg, hd⟩
  repeat (first | (refine zc (by first | exact omv | exact z1g | exact z24) ?_) | (refine Trip.seq ?_) | (refine zd ?_) | (refine Trip.block ?_) | (refine zJ (fun _ => ?_) (fun _ => ?_)) | (refine Trip.skip ?_; (change Trip _ _ _ _ _)) | (refine OpsL.nil ?_; (change Trip _ _ _ _ _)))
  ·have hlt : i < m.of.length := by omega
   have cg := z3a hg (i := i) (by have := hrl.down; omega);obtain ⟨y, hy⟩ : ∃ y, (z0 m).getD i false = y := ⟨_, rfl⟩;rw [hy] at cg;refine zfD ?_;cases y
   ·refine z07 ?_
    repeat (first | (refine zc (by first | exact omv | exact z1j) ?_) | (refine zd ?_))
    refine zP (k := i) (v := .int .i64 (-1)) (cs' := (dL (z0 m) m.of.length (i + 1)).map (.int .i64 ·)) hd (by rw [List.length_map, zeA]; exact hlt) (by rw [← zgs hlt hy, List.map_set]) rfl xrf rfl evr (by rfl) (by show (⟨bo, 0 + i * 1, none⟩ : Addr) = _; rw [Nat.zero_add, Nat.mul_one]) ?_;intro τ2 hd2 x2 _;replace ho := ho.keep x2 (by simp);replace hg := hg.keep x2 (by simp);clear hd x2 cg;refine z0n ?_;refine zc4 ?_;exact ⟨i + 1, ⟨_, τ2, rfl, stp, stp, stp, stp, by omega, ho, hg, hd2⟩, by omega⟩
   ·refine z2d ?_;rw [← zfe hy] at hd;refine z9R ?_;exact ⟨i + 1, ⟨_, τ, rfl, stp, stp, stp, stp, by omega, ho, hg, hd⟩, by omega⟩
  ·have hie : i = m.of.length := by omega
   rw [hie] at hd
   repeat (first | (refine Trip.exit ?_; (dsimp only)))
   exact ⟨rfl, _, τ, rfl, stp, stp, stp, ho, hg, hd⟩
 clear hK hg hd;rintro e st ⟨rfl, tm, σ, rfl, t1, t3, t4, ho, hg, hd⟩
 ((repeat (refine zD ?_)); change Trip _ _ _ _ _)
 refine zdt ?_
 have hco : CoarseR m (fun x => (dL (z0 m) m.of.length m.of.length).getD x 0) := fun p q hp hq _ => by
  have h0 : ∀ x, (z0 m).getD x false = true → (dL (z0 m) m.of.length m.of.length).getD x 0 = 0 := fun x hx => by
   rw [zgt (z0g hmod hx)];unfold dN;rw [if_neg (by rw [hx]; simp)]
  show (dL (z0 m) m.of.length m.of.length).getD p 0 = (dL (z0 m) m.of.length m.of.length).getD q 0;rw [h0 p hp, h0 q hq]
 -- the rounds
 refine zG (fun (last : Nat) st => ∃ (tm : Nat → Value) (σ : CH) (r bo : Nat) (d : List Int), st = ⟨tm, n, σ.H, σ.nx⟩ ∧ tm 1 = .pointer (some ⟨nx, 0, none⟩) ∧ tm 3 = .slice (some ⟨rb, 0, none⟩) m.of.length m.of.length ∧ tm 4 = .slice (some ⟨bo, 0, none⟩) m.of.length m.of.length ∧ tm 6 = .int .i64 (last : Nat) ∧ last ≤ m.of.length ∧ OldC σ0 σ ∧ ObC .tmp σ rb (.cells ((z0 m).map .bool) 1 none false (some 4)) ∧ ObC (.tab r) σ bo (.cells (d.map (.int .i64 ·)) 1 none false (some 3)) ∧ zhu (d.length = m.of.length) ∧ CoarseR m (fun x => d.getD x 0) ∧ (last ≤ 0 ∨ z3e ((z3U (z0 m) m.of.length).map fun x => d.getD x 0) = last)) (fun last => m.of.length - last) 0 ?_ ?_
 ·exact ⟨_, σ, 0, bo, _, rfl, stp, stp, stp, stp, by omega, ho, hg, hd, zeA _ _ _, hco, .inl (Nat.le_refl _)⟩
 clear t1 t3 t4 ho hg hd hco hbo2 bo;rintro last st ⟨tm, σ, r, bo, d, rfl, t1, t3, t4, t6, hlast, ho, hg, hd, hdl, hco, hnum⟩;replace hdl : PLift (d.length = m.of.length) := ⟨hdl⟩;refine Trip.block ?_;refine zgC ?_;refine zo (.tab (r + 1)) (z0m evd evd (z0f (m := m.of.length) (bytes := 8) (z := .int .i64 0) xrf xrf xrf xrf (by omega) (by omega))) sdc ?_;intro σ2 he x1;obtain ⟨bn, hbn⟩ : ∃ b, σ.nx = b := ⟨_, rfl⟩;have hbn2 : nx + 1 ≤ bn := by rw [← hbn, ← hσ1]; exact ho.1
 rw [hbn] at he ⊢;replace ho := ho.keep x1 (by simp);replace hg := hg.keep x1 (by simp);replace hd := hd.keep x1 (by simp);have hrep : List.replicate m.of.length (Value.int .i64 0) = (List.replicate m.of.length (0 : Int)).map (.int .i64 ·) := by rw [List.map_replicate]
 rw [hrep] at he;clear hrep x1 hbn
 (first | (refine zc (by exact z09) ?_))
 refine z0n ?_
 (change Trip _ _ _ _ _)
 refine z2k ?_
 (first | (refine zc (by exact z09) ?_))
 refine z0n ?_
 (change Trip _ _ _ _ _)
 refine Trip.seq (Trip.seq ?_);refine zd ?_
 (first | (refine zc (by exact z09) ?_))
 refine z0n ?_
 (change Trip _ _ _ _ _)
 refine zhK (e0 := List.replicate m.of.length 0) (d := d) (r := r) (last := last) W0 hmod hn0 FA hrl hdl List.length_replicate stp stp stp stp stp stp stp ho hg hd he ?_;clear t1 t3 t4 t6 ho hg hd he;intro tm σ e c t1 t3 t4 t6 t7 t8 ho hg hd he hel hR hno hc;dsimp only;have hmore := hR.more hmod;refine z2k ?_;refine zfp ?_;by_cases hce : c = last
 ·refine z0H ?_;have hfin : e = zx m := hR.final hmod hco (by omega) hel hno;refine z9O ?_
  repeat (first | (refine zc (by first | exact omv | exact z09) ?_) | (refine Trip.seq ?_) | (refine zd ?_) | (refine Trip.ret ?_; ((repeat (refine z0h ?_)); dsimp only)) | (refine OpsL.nil ?_; (change Trip _ _ _ _ _)))
  exact ⟨.inr rfl, _, zn, ⟨bn, by omega, he.1, by rw [← hfin, List.length_map, hel]; exact stp, by rw [← hfin]; exact he.2.2⟩, x0.trans (by have := ho.ext; rw [hσ1, hσ2] at this; exact this)⟩
 ·refine z30 ?_;refine z68 ?_
  repeat (first | (refine zc (by first | exact omv | exact z09) ?_) | (refine zd ?_) | (refine Trip.skip ?_; (change Trip _ _ _ _ _)) | (refine OpsL.nil ?_; ((repeat (refine zH ?_)); dsimp only)))
  exact ⟨c, ⟨_, σ, r + 1, bn, e, rfl, stp, stp, stp, stp, hc, ho, hg, he, hel, hR.coarse hmod hco, .inr hR.num⟩, by omega⟩
end Go.Proofs.Ytjgbcpagfghfnaa
namespace Go.Proofs.Ytjgbcpagfghfnaa
open Go.Am Go.RowKit
attribute [local irreducible] aop OpsL Trip zt z1X z1E OpsR OpsQ
set_option maxRecDepth 20000 in
set_option maxHeartbeats 16000000 in
theorem zeW (W0 : World) {nx n B i N : Nat} {H : Heap} {m : Mo} {wv : Value} {ua : Option Addr} {ul uc : Nat} {ea : Option Addr} {ec : Nat} {p x1 x2 : Int} {tm : Nat → Value} (hn0 : n = 152) (hul : ul ≤ 100000) (hel : m.entry.length ≤ 100000) (t1 : tm 1 = wv) (t2 : tm 2 = .pointer (some ⟨nx, 0, none⟩)) (t5 : tm 5 = .int .i64 p) (t6 : tm 6 = .slice ua ul uc) (t7 : tm 7 = .int .i64 (i : Nat)) (t8 : tm 8 = .pointer (some ⟨B, 0, none⟩)) (c0 : zf H ⟨B, 0, none⟩ (.int .i64 x1)) (c1 : zf H ⟨B, 1, none⟩ (.int .i64 x2)) (g0 : zf H ⟨nx, 0, none⟩ (.int .i64 m.plains)) (g1 : zf H ⟨nx, 1, none⟩ (.int .i64 m.closings)) (g3 : zf H ⟨nx, 3, none⟩ (.slice ea m.entry.length ec))
  {Q : AExit → ASt → Prop} (hQ : ∀ (tm' : Nat → Value) (d : Bool), tm' 1 = wv → tm' 2 = .pointer (some ⟨nx, 0, none⟩) → tm' 5 = .int .i64 p → tm' 6 = .slice ua ul uc → tm' 7 = .int .i64 (i : Nat) → tm' 8 = .pointer (some ⟨B, 0, none⟩) → tm' 24 = .bool d → (d = true ↔ x1 = 3 ∧ 0 ≤ x2 ∧ x2 < m.plains) → Q .normal ⟨tm', n, H, N⟩) :
  Trip Try.prog W0 (z3t [1, 1, 1, 0, 1, 2, 2, 1, 0, 2, 1, 2, 0] (z0B Try.f18)) ⟨tm, n, H, N⟩ Q := by
 refine zdz ?_;by_cases hk : x1 = 3
 rotate_left
 ·refine zw sdc (z2c evr (by rfl) hk) ?_;refine zgF ?_;exact hQ _ false stp stp stp stp stp stp stp ⟨(fun h => by cases h), fun h => absurd h.1 hk⟩
 refine zw sdc (z39 evr (by rfl) hk) ?_;refine zfA ?_;by_cases h0 : 0 ≤ x2
 rotate_left
 ·refine zw sdc (z55 evr (by rfl) h0) ?_;refine zfE ?_;exact hQ _ false stp stp stp stp stp stp stp ⟨(fun h => by cases h), fun h => absurd h.2.1 h0⟩
 refine zw sdc (z54 evr (by rfl) h0) ?_;refine zeN ?_;by_cases h1 : x2 < m.plains
 rotate_left
 ·refine z0z ?_;refine zej ?_;exact hQ _ false stp stp stp stp stp stp stp ⟨(fun h => by cases h), fun h => absurd h.2.2 (by omega)⟩
 refine z0y ?_;refine zej ?_;exact hQ _ true stp stp stp stp stp stp stp ⟨fun _ => ⟨hk, h0, h1⟩, fun _ => rfl⟩
set_option maxRecDepth 20000 in
set_option maxHeartbeats 16000000 in
theorem zeX (W0 : World) {nx n B i N : Nat} {H : Heap} {m : Mo} {wv : Value} {ua : Option Addr} {ul uc : Nat} {ea : Option Addr} {ec : Nat} {p x1 x2 : Int} {tm : Nat → Value} (hn0 : n = 152) (hul : ul ≤ 100000) (hel : m.entry.length ≤ 100000) (t1 : tm 1 = wv) (t2 : tm 2 = .pointer (some ⟨nx, 0, none⟩)) (t5 : tm 5 = .int .i64 p) (t6 : tm 6 = .slice ua ul uc) (t7 : tm 7 = .int .i64 (i : Nat)) (t8 : tm 8 = .pointer (some ⟨B, 0, none⟩)) (c0 : zf H ⟨B, 0, none⟩ (.int .i64 x1)) (c1 : zf H ⟨B, 1, none⟩ (.int .i64 x2)) (g0 : zf H ⟨nx, 0, none⟩ (.int .i64 m.plains)) (g1 : zf H ⟨nx, 1, none⟩ (.int .i64 m.closings)) (g3 : zf H ⟨nx, 3, none⟩ (.slice ea m.entry.length ec))
  {Q : AExit → ASt → Prop} (hQ : ∀ (tm' : Nat → Value) (d : Bool), tm' 1 = wv → tm' 2 = .pointer (some ⟨nx, 0, none⟩) → tm' 5 = .int .i64 p → tm' 6 = .slice ua ul uc → tm' 7 = .int .i64 (i : Nat) → tm' 8 = .pointer (some ⟨B, 0, none⟩) → tm' 49 = .bool d → (d = true ↔ x1 = 1 ∧ 0 ≤ x2 ∧ x2 < (m.entry.length : Int) - 1) → Q .normal ⟨tm', n, H, N⟩) :
  Trip Try.prog W0 (z3t [1, 1, 1, 0, 1, 2, 2, 1, 0, 2, 1, 2, 1, 4, 0] (z0B Try.f18)) ⟨tm, n, H, N⟩ Q := by
 refine zdz ?_;by_cases hk : x1 = 1
 rotate_left
 ·refine zw sdc (z2c evr (by rfl) hk) ?_;refine zgF ?_;exact hQ _ false stp stp stp stp stp stp stp ⟨(fun h => by cases h), fun h => absurd h.1 hk⟩
 refine zw sdc (z39 evr (by rfl) hk) ?_;refine zfA ?_;by_cases h0 : 0 ≤ x2
 rotate_left
 ·refine zw sdc (z55 evr (by rfl) h0) ?_;refine zfE ?_;exact hQ _ false stp stp stp stp stp stp stp ⟨(fun h => by cases h), fun h => absurd h.2.1 h0⟩
 refine zw sdc (z54 evr (by rfl) h0) ?_
 repeat (first | (refine zc (by first | exact omv | exact z3O | exact ofa | exact old | exact z1g | exact zc9) ?_) | (refine zB ?_))
 by_cases h1 : x2 < (m.entry.length : Int) - 1
 rotate_left
 ·refine z0z ?_;refine zej ?_;exact hQ _ false stp stp stp stp stp stp stp ⟨(fun h => by cases h), fun h => absurd h.2.2 (by omega)⟩
 refine z0y ?_;refine zej ?_;exact hQ _ true stp stp stp stp stp stp stp ⟨fun _ => ⟨hk, h0, h1⟩, fun _ => rfl⟩
set_option maxRecDepth 20000 in
set_option maxHeartbeats 16000000 in
theorem zgg (W0 : World) {nx n B i N : Nat} {H : Heap} {m : Mo} {wv : Value} {ua : Option Addr} {ul uc : Nat} {ea : Option Addr} {ec : Nat} {p x1 x2 : Int} {tm : Nat → Value} (hn0 : n = 152) (hul : ul ≤ 100000) (hel : m.entry.length ≤ 100000) (t1 : tm 1 = wv) (t2 : tm 2 = .pointer (some ⟨nx, 0, none⟩)) (t5 : tm 5 = .int .i64 p) (t6 : tm 6 = .slice ua ul uc) (t7 : tm 7 = .int .i64 (i : Nat)) (t8 : tm 8 = .pointer (some ⟨B, 0, none⟩)) (c0 : zf H ⟨B, 0, none⟩ (.int .i64 x1)) (c1 : zf H ⟨B, 1, none⟩ (.int .i64 x2)) (g0 : zf H ⟨nx, 0, none⟩ (.int .i64 m.plains)) (g1 : zf H ⟨nx, 1, none⟩ (.int .i64 m.closings)) (g3 : zf H ⟨nx, 3, none⟩ (.slice ea m.entry.length ec))
  {Q : AExit → ASt → Prop} (hQ : ∀ (tm' : Nat → Value) (d : Bool), tm' 1 = wv → tm' 2 = .pointer (some ⟨nx, 0, none⟩) → tm' 5 = .int .i64 p → tm' 6 = .slice ua ul uc → tm' 7 = .int .i64 (i : Nat) → tm' 8 = .pointer (some ⟨B, 0, none⟩) → tm' 78 = .bool d → (d = true ↔ x1 = 2 ∧ 0 ≤ x2 ∧ x2 < m.closings ∧ 0 < ul) → Q .normal ⟨tm', n, H, N⟩) :
  Trip Try.prog W0 (z3t [1, 1, 1, 0, 1, 2, 2, 1, 0, 2, 1, 2, 1, 4, 1, 4, 0] (z0B Try.f18)) ⟨tm, n, H, N⟩ Q := by
 refine zdz ?_;by_cases hk : x1 = 2
 rotate_left
 ·refine zw sdc (z2c evr (by rfl) hk) ?_;refine zgF ?_;exact hQ _ false stp stp stp stp stp stp stp ⟨(fun h => by cases h), fun h => absurd h.1 hk⟩
 refine zw sdc (z39 evr (by rfl) hk) ?_;refine zfA ?_;by_cases h0 : 0 ≤ x2
 rotate_left
 ·refine zw sdc (z55 evr (by rfl) h0) ?_;refine zfE ?_;exact hQ _ false stp stp stp stp stp stp stp ⟨(fun h => by cases h), fun h => absurd h.2.1 h0⟩
 refine zw sdc (z54 evr (by rfl) h0) ?_;refine zeN ?_;by_cases h1 : x2 < m.closings
 rotate_left
 ·refine z0z ?_;refine zfE ?_;exact hQ _ false stp stp stp stp stp stp stp ⟨(fun h => by cases h), fun h => absurd h.2.2.1 (by omega)⟩
 refine z0y ?_
 repeat (first | (refine zc (by first | exact omv | exact z3O | exact z1g) ?_) | (refine zB ?_))
 by_cases h2 : 0 < ul
 rotate_left
 ·refine zw sdc (zbd evr (by rfl) (by omega)) ?_;refine zej ?_;exact hQ _ false stp stp stp stp stp stp stp ⟨(fun h => by cases h), fun h => absurd h.2.2.2 h2⟩
 refine zw sdc (zbc evr (by rfl) (by omega)) ?_;refine zej ?_;exact hQ _ true stp stp stp stp stp stp stp ⟨fun _ => ⟨hk, h0, h1, h2⟩, fun _ => rfl⟩
set_option maxRecDepth 20000 in
set_option maxHeartbeats 16000000 in
theorem zh3 (W0 : World) {nx n B i N : Nat} {H : Heap} {m : Mo} {wv : Value} {ua : Option Addr} {ul uc : Nat} {ea : Option Addr} {ec : Nat} {p x1 x2 : Int} {tm : Nat → Value} (hn0 : n = 152) (hul : ul ≤ 100000) (hel : m.entry.length ≤ 100000) (t1 : tm 1 = wv) (t2 : tm 2 = .pointer (some ⟨nx, 0, none⟩)) (t5 : tm 5 = .int .i64 p) (t6 : tm 6 = .slice ua ul uc) (t7 : tm 7 = .int .i64 (i : Nat)) (t8 : tm 8 = .pointer (some ⟨B, 0, none⟩)) (c0 : zf H ⟨B, 0, none⟩ (.int .i64 x1)) (c1 : zf H ⟨B, 1, none⟩ (.int .i64 x2)) (g0 : zf H ⟨nx, 0, none⟩ (.int .i64 m.plains)) (g1 : zf H ⟨nx, 1, none⟩ (.int .i64 m.closings)) (g3 : zf H ⟨nx, 3, none⟩ (.slice ea m.entry.length ec))
  {Q : AExit → ASt → Prop} (hQ : ∀ (tm' : Nat → Value) (d : Bool), tm' 1 = wv → tm' 2 = .pointer (some ⟨nx, 0, none⟩) → tm' 5 = .int .i64 p → tm' 6 = .slice ua ul uc → tm' 7 = .int .i64 (i : Nat) → tm' 8 = .pointer (some ⟨B, 0, none⟩) → tm' 122 = .bool d → (d = true ↔ x1 = 2 ∧ 0 ≤ x2 ∧ x2 < m.closings) → Q .normal ⟨tm', n, H, N⟩) :
  Trip Try.prog W0 (z3t [1, 1, 1, 0, 1, 2, 2, 1, 0, 2, 1, 2, 1, 4, 1, 4, 1, 4, 0] (z0B Try.f18)) ⟨tm, n, H, N⟩ Q := by
 refine zdz ?_;by_cases hk : x1 = 2
 rotate_left
 ·refine zw sdc (z2c evr (by rfl) hk) ?_;refine zgF ?_;exact hQ _ false stp stp stp stp stp stp stp ⟨(fun h => by cases h), fun h => absurd h.1 hk⟩
 refine zw sdc (z39 evr (by rfl) hk) ?_;refine zfA ?_;by_cases h0 : 0 ≤ x2
 rotate_left
 ·refine zw sdc (z55 evr (by rfl) h0) ?_;refine zfE ?_;exact hQ _ false stp stp stp stp stp stp stp ⟨(fun h => by cases h), fun h => absurd h.2.1 h0⟩
 refine zw sdc (z54 evr (by rfl) h0) ?_;refine zeN ?_;by_cases h1 : x2 < m.closings
 rotate_left
 ·refine z0z ?_;refine zej ?_;exact hQ _ false stp stp stp stp stp stp stp ⟨(fun h => by cases h), fun h => absurd h.2.2 (by omega)⟩
 refine z0y ?_;refine zej ?_;exact hQ _ true stp stp stp stp stp stp stp ⟨fun _ => ⟨hk, h0, h1⟩, fun _ => rfl⟩
end Go.Proofs.Ytjgbcpagfghfnaa
