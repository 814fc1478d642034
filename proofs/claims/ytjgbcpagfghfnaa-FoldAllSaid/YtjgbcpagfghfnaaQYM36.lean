import Derived.Test.YtjgbcpagfghfnaaQYM35
import Derived.Test.YtjgbcpagfghfnaaQYM15
set_option linter.unusedVariables false
set_option linter.unusedSimpArgs false
set_option linter.unnecessarySimpa false
namespace Go.Am
open Go.RowKit
theorem zdB (m : Mo) : (z1F m).length = 2 + 2 * m.closings.toNat := by
 have : ∀ k, ((List.range k).flatMap fun j => [z0O m j, z0M m j]).length = 2 * k := by
  intro k
  induction k with
  | zero => rfl
  | succ k ih => rw [List.range_succ, List.flatMap_append, List.length_append, ih]; simp; omega
 unfold z1F;rw [List.length_append, this];rfl
theorem zeV {m : Mo} (hm : ModOk m) : ∀ r ∈ z1F m, r.length = m.of.length ∧ ∀ i, (r.getD i []).length ≤ 60 ∧ ∀ q ∈ r.getD i [], 0 ≤ q ∧ q < 60 := by
 intro r hr;refine ⟨z59 hm r hr, fun i => ?_⟩;have hn := hm.n.2;have hst := hm.st;unfold z1F at hr;rcases List.mem_append.1 hr with h | h
 ·simp only [List.mem_cons, List.not_mem_nil, or_false] at h;rcases h with rfl | rfl
  ·refine ⟨?_, fun q hq => by have := hst.inn i q hq; omega⟩;by_cases hi : i < m.of.length
   ·have := (hm.inn i hi).1; have := hm.pl.2; omega
   ·rw [z4r (by have := hm.il; omega)]; simp
  ·refine ⟨?_, fun q hq => by have := hst.low i q hq; omega⟩;by_cases hi : i < m.of.length
   ·by_cases hz : m.of.getD i 0 = 0
    ·have := (hm.low0 i hi hz).1; have := hm.cl.2; omega
    ·rw [hm.low1 i hi hz]; simp
   ·rw [z4r (by have := hm.ll; omega)]; simp
 ·obtain ⟨j, hj, h⟩ := List.mem_flatMap.1 h;rw [List.mem_range] at hj;have hrg : ∀ {k : Nat}, k < m.of.length → (List.range m.of.length).getD k 0 = k := fun hk => by rw [List.getD_eq_getElem?_getD, List.getElem?_eq_getElem (by simpa using hk)]; simp
  simp only [List.mem_cons, List.not_mem_nil, or_false] at h;rcases h with rfl | rfl
  ·by_cases hi : i < m.of.length
   ·have e : (z0O m j).getD i [] = if m.of.getD i 0 = 0 then [] else (m.ret.getD i []).getD j [] := by
     unfold z0O; rw [zL _ _ (by simpa using hi) _ 0, hrg hi]
    rw [e];by_cases hz : m.of.getD i 0 = 0
    ·rw [if_pos hz]; exact ⟨by simp, fun q hq => by simp at hq⟩
    ·rw [if_neg hz];obtain ⟨l1, l2⟩ := hm.ret1 i hi hz;obtain ⟨l3, l4⟩ := l2 j (by omega);refine ⟨by omega, fun q hq => ?_⟩;obtain ⟨x, hx, rfl⟩ := List.getElem_of_mem hq;have := (l4 x (by omega)).1;rw [List.getD_eq_getElem?_getD (i := x), List.getElem?_eq_getElem hx] at this;simp only [Option.getD_some] at this;omega
   ·rw [z4r (by simp [z0O]; omega)]; exact ⟨by simp, fun q hq => by simp at hq⟩
  ·by_cases hi : i < m.of.length
   ·have e : (z0M m j).getD i [] = z66 m j m.of.length i := by
     rw [z9e, zL _ _ (by simpa using hi) _ 0, hrg hi]
    rw [e];refine ⟨by have := zb9 m j m.of.length i; omega, fun q hq => ?_⟩;unfold z66 at hq;obtain ⟨p, hp, rfl⟩ := List.mem_map.1 hq;obtain ⟨hp1, hp2⟩ := List.mem_filter.1 hp;rw [List.mem_range] at hp1;have hz : m.of.getD p 0 ≠ 0 := by simpa using hp2
    obtain ⟨l1, l2⟩ := hm.ret1 p hp1 hz;have := ((l2 j (by omega)).2 i hi).1;omega
   ·rw [z4r (by simp [z0M]; omega)]; exact ⟨by simp, fun q hq => by simp at hq⟩
def WW (B : Nat) (σ : CH) (v : Value) (W : List (List (List Int))) : Prop := ∀ H2, (∀ i, i < B → H2 i = σ.H i) → (∀ i, i < σ.nx → σ.C i = .next → H2 i = σ.H i) → L3At H2 v W
theorem WW.keep {B : Nat} {S : List Co} {σ τ : CH} {v : Value} {W : List (List (List Int))} (hc : Chg S σ τ) (h1 : Co.old ∉ S) (h2 : Co.next ∉ S) (hB : ∀ i, i < B → i < σ.nx ∧ σ.C i = .old) (h : WW B σ v W) : WW B τ v W := fun H2 k1 k2 => by
 refine h H2 (fun i hi => ?_) (fun i h3 h4 => ?_)
 ·rw [k1 i hi];exact hc.same h1 (hB i hi).1 (hB i hi).2
 ·rw [k2 i (Nat.lt_of_lt_of_le h3 hc.1) (by rw [hc.hue h3]; exact h4)];exact hc.same h2 h3 h4
theorem WW.now {B : Nat} {σ : CH} {v : Value} {W : List (List (List Int))} (h : WW B σ v W) : L3At σ.H v W := h _ (fun _ _ => rfl) (fun _ _ _ => rfl)
end Go.Am
namespace Go.Proofs.Ytjgbcpagfghfnaa
open Go.Am Go.RowKit
attribute [local irreducible] aop OpsL Trip zt z1X z1E OpsR OpsQ
theorem zgv (H : Heap) {a b : List Int} {n : Nat} (ha : a.length = n) (hb : b.length = n) (hn : n ≤ 60) : aEq Try.prog H 60 72 (.agg (c60 a).toArray) (.agg (c60 b).toArray) = some (decide (a = b)) := by
 have := zfZ (P := Try.prog) (el := 70) (t := 72) (len := 60) Try.underlying70 xrf Try.underlying72 H 58 (k := a ++ List.replicate (60 - a.length) 0) (k2 := b ++ List.replicate (60 - b.length) 0) (by simp; omega) (by simp; omega);refine this.trans ?_;congr 1;rw [Bool.eq_iff_iff, decide_eq_true_eq, decide_eq_true_eq];constructor
 ·intro h;rw [ha, hb] at h;exact List.append_inj_left h (by rw [ha, hb])
 ·intro h; rw [h]
structure StS (σ0 σ : CH) (R A : Nat) (wv : Value) (W : List (List (List Int))) (c : List Int) : Prop where
 old : OldC σ0 σ
 r : ∃ cs, cs.length = 60 ∧ ObC .tmp σ R (.cells cs 0 none false (some 72))
 a : ObC .self σ A (.cells (c60 c) 0 none false (some 72))
 w : WW σ0.nx σ wv W
theorem StS.keep {σ0 σ τ : CH} {R A : Nat} {wv : Value} {W : List (List (List Int))} {c : List Int} {S : List Co} (hc : Chg S σ τ) (h1 : Co.old ∉ S) (h2 : Co.tmp ∉ S) (h3 : Co.self ∉ S) (h4 : Co.next ∉ S) (h : StS σ0 σ R A wv W c) : StS σ0 τ R A wv W c :=
 ⟨h.old.keep hc h1, by obtain ⟨cs, q1, q2⟩ := h.r; exact ⟨cs, q1, q2.keep hc h2⟩, h.a.keep hc h3, h.w.keep hc h1 h4 fun i hi => ⟨Nat.lt_of_lt_of_le hi h.old.1, (h.old.2 i hi).1⟩⟩
set_option maxRecDepth 20000 in
set_option maxHeartbeats 16000000 in
theorem zdH (W0 : World) {nx R : Nat} {G : Heap} {m : Mo} {V : MoV} {tm : Nat → Value} {n : Nat} {σ : CH} (hn0 : n = 28) (hmod : ModOk m) (okG : ∀ id o, G id = some o → id < nx + 1) (hb : MoBox G nx m V) (hG : MoIn G m V) (hoσ : OldC ⟨nx + 1, fun _ => .old, G⟩ σ) (hRσ : ObC .tmp σ R (.cells (c60 []) 0 none false (some 72)))
  (t1 : tm 1 = .pointer (some ⟨nx, 0, none⟩)) (t2 : tm 2 = .pointer (some ⟨R, 0, none⟩)) {Q : AExit → ASt → Prop} (hQ : ∀ e st, (e = .normal ∧ ∃ (tm' : Nat → Value) (τ : CH) (A : Nat) (wv : Value), st = ⟨tm', n, τ.H, τ.nx⟩ ∧ tm' 1 = .pointer (some ⟨nx, 0, none⟩) ∧ tm' 2 = .pointer (some ⟨R, 0, none⟩) ∧ tm' 3 = .pointer (some ⟨A, 0, none⟩) ∧ tm' 4 = wv ∧ StS ⟨nx + 1, fun _ => .old, G⟩ τ R A wv (z1F m) (z2A m)) → Q e st) :
  Trip Try.prog W0 (z3t [1, 0] (z0B Try.f41)) ⟨tm, n, σ.H, σ.nx⟩ Q := by
 refine Trip.mono (Q := fun e st => e = .normal ∧ ∃ (tm' : Nat → Value) (τ : CH) (A : Nat) (wv : Value), st = ⟨tm', n, τ.H, τ.nx⟩ ∧ tm' 1 = .pointer (some ⟨nx, 0, none⟩) ∧ tm' 2 = .pointer (some ⟨R, 0, none⟩) ∧ tm' 3 = .pointer (some ⟨A, 0, none⟩) ∧ tm' 4 = wv ∧ StS ⟨nx + 1, fun _ => .old, G⟩ τ R A wv (z1F m) (z2A m)) ?_ hQ;clear hQ;have hfl : (z2A m).length ≤ 60 := by rw [z4C]; exact hmod.n.2
 have hB : ∀ {σ : CH}, OldC ⟨nx + 1, fun _ => .old, G⟩ σ → ∀ i, i < nx + 1 → i < σ.nx ∧ σ.C i = .old := fun {σ} h i hi => ⟨Nat.lt_of_lt_of_le hi h.1, (h.2 i hi).1⟩;have hK : ∀ τ : CH, OldC ⟨nx + 1, fun _ => .old, G⟩ τ → ∀ l : List Nat, ∀ k ∈ l, z1f τ.H ⟨nx, 0, none⟩ 8 = some (moV m V) := fun τ h _ _ _ => (hb.ext h.ext okG).all;have h0 := hK σ hoσ [0] 0 (by simp);refine OpsQ.drawn [1, 3, 4, 5, 6] (K := fun _ _ H => z1f H ⟨nx, 0, none⟩ 8 = some (moV m V)) zU krf krf [0, 2, 1, 3, 4, 5, 6] krf (hK σ hoσ _) ?_;refine z00 1 (v := .agg (moV m V).toArray) rfl krf sdc h0 (fun H2 nx2 hK => zy (k := 8) evd xrf rfl xrf hK) ?_;refine z00 3 (v := .agg (moV m V).toArray) rfl krf sdc h0 (fun H2 nx2 hK => zy (k := 8) evd xrf rfl xrf hK) ?_;clear h0;refine z2L 1 4 [3, 4, 5, 6] [1, 3, 5, 6] krf (zh rfl rfl ?_) (zh rfl rfl ?_)
 ·refine OpsL.c1 (hf := z70) (hc := (zey W0 (hG.ext hoσ.ext okG) hmod)) (h := ?_);rintro v1 nx1 H1 ⟨rfl, hx⟩;obtain ⟨τ1, rfl, rfl, xτ1⟩ := z6R hx;have hoτ1 := hoσ.keep xτ1 (by simp);have hRτ1 := hRσ.keep xτ1 (by simp);refine OpsL.nil ⟨hK τ1 hoτ1 _, ?_⟩;refine z2L 3 4 [4, 5, 6] [3, 5, 6] krf (zh rfl rfl ?_) (zh rfl rfl ?_)
  ·refine OpsL.c1 (hf := z4j) (hc := (za5 W0 hG okG hoτ1.ext hmod)) (h := ?_);rintro wv nx1 H1 ⟨hst, hx⟩;obtain ⟨τ2, rfl, rfl, xτ2, hnτ2⟩ := z0N .next hx;have hWτ2 : WW (nx + 1) τ2 wv (z1F m) := fun H2 h1 h2 => hst H2 h1 fun i h3 h4 => h2 i h4 (hnτ2 i h3);have hoτ2 := hoτ1.keep xτ2 (by simp);have hRτ2 := hRτ1.keep xτ2 (by simp);refine OpsL.nil ⟨hK τ2 hoτ2 _, ?_⟩;refine zW 4 [5, 6] krf (zh rfl rfl ?_);refine zo .self (zV (l := c60 []) xrf) sdc ?_;intro τ3 hAτ3 xτ3;obtain ⟨A, hAn⟩ : ∃ k, τ2.nx = k := ⟨_, rfl⟩;rw [hAn] at hAτ3
   try rw [hAn]
   have hoτ3 := hoτ2.keep xτ3 (by simp);have hRτ3 := hRτ2.keep xτ3 (by simp);have hWτ3 := hWτ2.keep xτ3 (by simp) (by simp) (hB hoτ2);refine OpsL.nil ⟨hK τ3 hoτ3 _, ?_⟩;refine zW 5 [6] krf (zh rfl rfl ?_);refine zO (vs := c60 (z2A m)) hAτ3 xrf (z0l hfl) (z0l hfl) (z3Z _) evd evd ?_;intro τ4 hAτ4 xτ4;have hoτ4 := hoτ3.keep xτ4 (by simp);have hRτ4 := hRτ3.keep xτ4 (by simp);have hWτ4 := hWτ3.keep xτ4 (by simp) (by simp) (hB hoτ3);refine OpsL.nil ⟨hK τ4 hoτ4 _, ?_⟩;refine zW 6 [] krf (zh rfl rfl ?_)
   (first | (refine zc (by exact z09) ?_))
   refine OpsL.nil ⟨hK τ4 hoτ4 _, ?_⟩;refine OpsQ.nil ?_;exact ⟨rfl, _, τ4, A, wv, rfl, stp, stp, stp, stp, ⟨hoτ4, ⟨_, rfl, hRτ4⟩, hAτ4, hWτ4⟩⟩
  ·refine zo .self (zV (l := c60 []) xrf) sdc ?_;intro τ6 hAτ6 xτ6;obtain ⟨A, hAn⟩ : ∃ k, τ1.nx = k := ⟨_, rfl⟩;rw [hAn] at hAτ6
   try rw [hAn]
   have hoτ6 := hoτ1.keep xτ6 (by simp);have hRτ6 := hRτ1.keep xτ6 (by simp);refine OpsL.nil ⟨hK τ6 hoτ6 _, ?_⟩;refine zW 3 [5, 6] krf (zh rfl rfl ?_);refine OpsL.c1 (hf := z4j) (hc := (za5 W0 hG okG hoτ6.ext hmod)) (h := ?_);rintro wv nx1 H1 ⟨hst, hx⟩;obtain ⟨τ7, rfl, rfl, xτ7, hnτ7⟩ := z0N .next hx;have hWτ7 : WW (nx + 1) τ7 wv (z1F m) := fun H2 h1 h2 => hst H2 h1 fun i h3 h4 => h2 i h4 (hnτ7 i h3);have hoτ7 := hoτ6.keep xτ7 (by simp);have hRτ7 := hRτ6.keep xτ7 (by simp);have hAτ7 := hAτ6.keep xτ7 (by simp);refine OpsL.nil ⟨hK τ7 hoτ7 _, ?_⟩;refine zW 5 [6] krf (zh rfl rfl ?_);refine zO (vs := c60 (z2A m)) hAτ7 xrf (z0l hfl) (z0l hfl) (z3Z _) evd evd ?_;intro τ8 hAτ8 xτ8;have hoτ8 := hoτ7.keep xτ8 (by simp);have hRτ8 := hRτ7.keep xτ8 (by simp);have hWτ8 := hWτ7.keep xτ8 (by simp) (by simp) (hB hoτ7);refine OpsL.nil ⟨hK τ8 hoτ8 _, ?_⟩;refine zW 6 [] krf (zh rfl rfl ?_)
   (first | (refine zc (by exact z09) ?_))
   refine OpsL.nil ⟨hK τ8 hoτ8 _, ?_⟩;refine OpsQ.nil ?_;exact ⟨rfl, _, τ8, A, wv, rfl, stp, stp, stp, stp, ⟨hoτ8, ⟨_, rfl, hRτ8⟩, hAτ8, hWτ8⟩⟩
 ·refine zo .self (zV (l := c60 []) xrf) sdc ?_;intro τ10 hAτ10 xτ10;obtain ⟨A, hAn⟩ : ∃ k, σ.nx = k := ⟨_, rfl⟩;rw [hAn] at hAτ10
  try rw [hAn]
  have hoτ10 := hoσ.keep xτ10 (by simp);have hRτ10 := hRσ.keep xτ10 (by simp);refine OpsL.nil ⟨hK τ10 hoτ10 _, ?_⟩;refine zW 1 [3, 5, 6] krf (zh rfl rfl ?_);refine OpsL.c1 (hf := z70) (hc := (zey W0 (hG.ext hoτ10.ext okG) hmod)) (h := ?_);rintro v1 nx1 H1 ⟨rfl, hx⟩;obtain ⟨τ11, rfl, rfl, xτ11⟩ := z6R hx;have hoτ11 := hoτ10.keep xτ11 (by simp);have hRτ11 := hRτ10.keep xτ11 (by simp);have hAτ11 := hAτ10.keep xτ11 (by simp);refine OpsL.nil ⟨hK τ11 hoτ11 _, ?_⟩;refine zW 3 [5, 6] krf (zh rfl rfl ?_);refine OpsL.c1 (hf := z4j) (hc := (za5 W0 hG okG hoτ11.ext hmod)) (h := ?_);rintro wv nx1 H1 ⟨hst, hx⟩;obtain ⟨τ12, rfl, rfl, xτ12, hnτ12⟩ := z0N .next hx;have hWτ12 : WW (nx + 1) τ12 wv (z1F m) := fun H2 h1 h2 => hst H2 h1 fun i h3 h4 => h2 i h4 (hnτ12 i h3);have hoτ12 := hoτ11.keep xτ12 (by simp);have hRτ12 := hRτ11.keep xτ12 (by simp);have hAτ12 := hAτ11.keep xτ12 (by simp);refine OpsL.nil ⟨hK τ12 hoτ12 _, ?_⟩;refine zW 5 [6] krf (zh rfl rfl ?_);refine zO (vs := c60 (z2A m)) hAτ12 xrf (z0l hfl) (z0l hfl) (z3Z _) evd evd ?_;intro τ13 hAτ13 xτ13;have hoτ13 := hoτ12.keep xτ13 (by simp);have hRτ13 := hRτ12.keep xτ13 (by simp);have hWτ13 := hWτ12.keep xτ13 (by simp) (by simp) (hB hoτ12);refine OpsL.nil ⟨hK τ13 hoτ13 _, ?_⟩;refine zW 6 [] krf (zh rfl rfl ?_)
  (first | (refine zc (by exact z09) ?_))
  refine OpsL.nil ⟨hK τ13 hoτ13 _, ?_⟩;refine OpsQ.nil ?_;exact ⟨rfl, _, τ13, A, wv, rfl, stp, stp, stp, stp, ⟨hoτ13, ⟨_, rfl, hRτ13⟩, hAτ13, hWτ13⟩⟩
theorem z8j : Am.z1G Try.prog 41 := ⟨Try.f41, Try.func41, by kernel_rfl, by kernel_rfl⟩
set_option maxRecDepth 20000 in
set_option maxHeartbeats 16000000 in
theorem zdI (W0 : World) {nx : Nat} {H : Heap} {m : Mo} {V : MoV} (hm : MoIn H m V) (hmod : ModOk m) :
  ACalls Try.prog W0 41 [.agg (moV m V).toArray] nx H fun v nx' H' => v = .agg (c60 (zF m)).toArray ∧ Ext nx H nx' H' := by
 refine zg (fn := Try.f41) (c := _) Try.func41 rfl (fun tm n hn0 htm => ?_);have e0 : tm 0 = .agg (moV m V).toArray := htm 0;clear htm;replace hn0 : n = 28 := hn0;refine Trip.ok fun hok => ?_;replace hok : ∀ id o, H id = some o → id < nx := hok;refine z2k ?_;refine zY hm hok ?_ evd sdc;intro G x0 okG hb hG;clear e0;have hn60 := hmod.n.2;refine zo (σ := ⟨nx + 1, fun _ => .old, G⟩) .tmp (zV (l := c60 []) xrf) sdc ?_;intro σ hR x1;have hold := OldC.keep x1 (by simp) OldC.refl;obtain ⟨R, hRn⟩ : ∃ R, (CH.nx ⟨nx + 1, fun _ => .old, G⟩) = R := ⟨_, rfl⟩;rw [hRn] at hR ⊢;clear hRn x1;refine z0n ?_
 (change Trip _ _ _ _ _)
 refine Trip.seq ?_;refine zdH W0 hn0 hmod okG hb hG hold hR (by simp [zb]) (by simp [zb]) ?_;clear hold hR;rintro e st ⟨rfl, tm, σ, A, wv, rfl, t1, t2, t3, t4, h⟩;have hways := zeV hmod;have hWl : (z1F m).length ≤ 1000 := by have := zdB m; have := hmod.cl.2; omega
 have hcan := z7U ((List.range m.of.length).map (z17 m));change Go.Am.Can (z2A m) at hcan;have hflen := z4C m;have hres : z1b (z1F m) (m.of.length + 1) (z2A m) = zF m := rfl;generalize z1F m = W at *;generalize z2A m = c0 at *;generalize zF m = CC at *;generalize hN : m.of.length = N at *;obtain ⟨wa, wk, rfl⟩ := L3At.slice h.w.now
 (change Trip _ _ _ _ _)
 refine Trip.block ?_;refine zG (fun (f : Nat) s => ∃ tm σ c, s = ⟨tm, n, σ.H, σ.nx⟩ ∧ tm 2 = .pointer (some ⟨R, 0, none⟩) ∧ tm 3 = .pointer (some ⟨A, 0, none⟩) ∧ tm 4 = .slice wa W.length wk ∧ StS ⟨nx + 1, fun _ => .old, G⟩ σ R A (.slice wa W.length wk) W c ∧ Go.Am.Can c ∧ c.length = N ∧ N < f + z3e c ∧ z1b W f c = CC) (fun f => f) (N + 1) ?_ ?_
 ·exact ⟨_, σ, c0, rfl, stp, stp, stp, h, hcan, hflen, by omega, hres⟩
 clear h t1 t2 t3 t4 hres hcan hflen;rintro f s ⟨tm, σ, c, rfl, t2, t3, t4, h, hcan, hcl, hf, hres⟩;have hD := za6 c;obtain ⟨f, rfl⟩ : ∃ f', f = f' + 1 := ⟨f - 1, by omega⟩;have hcl60 : c.length ≤ 60 := by omega
 have hga : z1f σ.H ⟨A, 0, none⟩ 60 = some (c60 c) := z0d h.a.2.2 (z0l hcl60);replace hcl : PLift (c.length = N) := ⟨hcl⟩;replace hN : PLift (m.of.length = N) := ⟨hN⟩;refine Trip.block ?_;refine z2k ?_;refine zw sdc (zy (k := 60) evd xrf rfl xrf hga) ?_;refine zo .of (zV (l := c60 []) xrf) sdc ?_;intro σ1 hX x1;obtain ⟨X, hXn⟩ : ∃ X, σ.nx = X := ⟨_, rfl⟩;rw [hXn] at hX ⊢;clear hXn hga;replace h := h.keep x1 (by simp) (by simp) (by simp) (by simp);refine zO (vs := c60 c) hX xrf (z0l hcl60) (z0l hcl60) (z3Z _) evd evd ?_;intro σ2 hX2 x2;replace h := h.keep x2 (by simp) (by simp) (by simp) (by simp);clear hX x1 x2;refine z0n ?_
 (change Trip _ _ _ _ _)
 refine zgJ ?_;refine zG (fun (i : Nat) s => ∃ tm σ, s = ⟨tm, n, σ.H, σ.nx⟩ ∧ tm 2 = .pointer (some ⟨R, 0, none⟩) ∧ tm 3 = .pointer (some ⟨A, 0, none⟩) ∧ tm 4 = .slice wa W.length wk ∧ tm 5 = .pointer (some ⟨X, 0, none⟩) ∧ tm 13 = .slice wa W.length wk ∧ tm 14 = .int .i64 W.length ∧ tm 15 = .int .i64 i ∧ i ≤ W.length ∧ StS ⟨nx + 1, fun _ => .old, G⟩ σ R A (.slice wa W.length wk) W c ∧ ObC .of σ X (.cells (c60 (z12 (W.take i) c)) 0 none false (some 72))) (fun i => W.length - i) 0 ?_ ?_
 ·exact ⟨_, σ2, rfl, stp, stp, stp, stp, stp, stp, stp, by omega, h, hX2⟩
 clear h hX2 t2 t3 t4;rintro i s ⟨tm, σ, rfl, t2, t3, t4, t5, t13, t14, t15, hi, h, hX⟩
 have hrlen : ∀ i, (z12 (W.take i) c).length = N := by
  intro i;exact (z2D (W.take i) hcan hcl.down (fun r hr => (hways r (List.mem_of_mem_take hr)).1)).2.1
 have hrl := hrlen i
 repeat (first | (refine zc (by exact z24) ?_) | (refine Trip.seq ?_) | (refine zd ?_) | (refine Trip.block ?_) | (refine zJ (fun _ => ?_) (fun _ => ?_)) | (refine Trip.skip ?_; (change Trip _ _ _ _ _)) | (refine OpsL.nil ?_; (change Trip _ _ _ _ _)))
 ·have hlt : i < W.length := by omega
  obtain ⟨q1, sb, sk, rfl, hc1, hrw⟩ := L3At.atI h.w.now (show (0 : Int) ≤ i by omega) (show (i : Int) < W.length by omega);rw [Int.toNat_natCast] at hc1 hrw;obtain ⟨hw1, hw2⟩ := hways (W.getD i []) (by rw [List.getD_eq_getElem?_getD, List.getElem?_eq_getElem hlt]; exact List.getElem_mem _)
  have hsn : z12 (W.take (i + 1)) c = z0s (z12 (W.take i) c) (W.getD i []) := by
   unfold z12;rw [List.take_succ_eq_append_getElem hlt, List.foldl_append, List.getD_eq_getElem?_getD, List.getElem?_eq_getElem hlt]; rfl
  obtain ⟨rows, hrows⟩ : ∃ r, W.getD i [] = r := ⟨_, rfl⟩;rw [hrows] at hc1 hrw hw1 hw2 hsn;clear hrows;obtain ⟨c1, hc1e⟩ : ∃ c1, z12 (W.take i) c = c1 := ⟨_, rfl⟩;rw [hc1e] at hX hsn hrl;have hc160 : c1.length ≤ 60 := by omega
  have hrow60 : rows.length ≤ 60 := by have := hN.down; omega
  have hp60 : (z0s c1 rows).length ≤ 60 := by rw [z3C]; exact hrow60
  have hga : z1f σ.H ⟨X, 0, none⟩ 60 = some (c60 c1) := z0d hX.2.2 (z0l hc160);replace hrl : PLift (c1.length = N) := ⟨hrl⟩;replace hw1 : PLift (rows.length = N) := ⟨hw1⟩
  repeat (first | (refine zc (by first | exact z1j | exact old | exact z09) ?_) | (refine zd ?_) | (refine OpsL.nil ?_; (change Trip _ _ _ _ _)))
  refine zw sdc (zy (k := 60) evd xrf rfl xrf hga) ?_;refine z9V ?_;refine OpsL.c2 (hf := z9x) (hc := (zf5 W0 hrw hc160 hrow60 (fun i => (hw2 i).1) (fun i => (hw2 i).2))) (h := ?_);rintro v2 nx2 H2 ⟨rfl, hx⟩;obtain ⟨σ3, rfl, rfl, x3⟩ := z6R hx;replace h := h.keep x3 (by simp) (by simp) (by simp) (by simp);replace hX := hX.keep x3 (by simp);clear hx x3 hga hc1 hrw;refine zO (vs := c60 (z0s c1 rows)) hX xrf (z0l hp60) (by rw [z0l hp60, z0l hc160]) (z3Z _) evd evd ?_;intro σ4 hX4 x4;replace h := h.keep x4 (by simp) (by simp) (by simp) (by simp);refine z0n ?_;refine zen ?_;exact ⟨i + 1, ⟨_, σ4, rfl, stp, stp, stp, stp, stp, stp, stp, by omega, h, by rw [hsn]; exact hX4⟩, by omega⟩
 ·have hi2 : i = W.length := by omega
  subst hi2;rw [List.take_length] at hX hrl;have hfin := z2D W hcan hcl.down (fun r hr => (hways r hr).1);have hres2 : (if z12 W c = c then c else z1b W f (z12 W c)) = CC := hres;obtain ⟨c2, hc2⟩ : ∃ c2, z12 W c = c2 := ⟨_, rfl⟩;rw [hc2] at hX hrl hfin hres2;have hc260 : c2.length ≤ 60 := by omega
  have hgx : z1f σ.H ⟨X, 0, none⟩ 60 = some (c60 c2) := z0d hX.2.2 (z0l hc260);have hga : z1f σ.H ⟨A, 0, none⟩ 60 = some (c60 c) := z0d h.a.2.2 (z0l hcl60);have heq := zgv σ.H hrl hcl.down (show N ≤ 60 by omega);obtain ⟨f1, f2, f3, f4⟩ := hfin;replace f2 : PLift (c2.length = N) := ⟨f2⟩;clear hrl hres;refine zeG ?_;refine zw sdc (zy (k := 60) evd xrf rfl xrf hgx) ?_;refine zw sdc (zy (k := 60) evd xrf rfl xrf hga) ?_;refine zw sdc (zec evd evd krf heq) ?_;by_cases e : c2 = c
  ·rw [decide_eq_true e];rw [if_pos e] at hres2;obtain ⟨cs, hcs, hR⟩ := h.r;replace hcs : PLift (cs.length = 60) := ⟨hcs⟩;refine z9O ?_;refine z2k ?_;refine zw sdc (zy (k := 60) evd xrf rfl xrf hga) ?_;refine zO (vs := c60 c) hR xrf (z0l hcl60) (by rw [hcs.down, z0l hcl60]) (z3Z _) evd evd ?_;intro τ hRt xt;refine z0n ?_
   (change Trip _ _ _ _ _)
   refine Trip.ret ?_
   ((repeat (refine z0h ?_)); dsimp only)
   exact ⟨.inr rfl, _, z50 stp (z2n xrf rfl xrf (z0d hRt.2.2 (z0l hcl60))), by rw [hres2], x0.trans (h.old.keep xt (by simp)).ext⟩
  ·rw [decide_eq_false e];rw [if_neg e] at hres2;have hne : z3e c ≠ z3e c2 := fun q => e (f4 q);refine z68 ?_
   repeat (first | (refine zd ?_) | (refine Trip.skip ?_; (change Trip _ _ _ _ _)))
   refine zw sdc (zy (k := 60) evd xrf rfl xrf hgx) ?_;refine zO (vs := c60 c2) h.a xrf (z0l hc260) (by rw [z0l hc260, z0l hcl60]) (z3Z _) evd evd ?_;intro τ hAt xt;have h2 : StS ⟨nx + 1, fun _ => .old, G⟩ τ R A (.slice wa W.length wk) W c2 := ⟨h.old.keep xt (by simp), by obtain ⟨cs, q1, q2⟩ := h.r; exact ⟨cs, q1, q2.keep xt (by simp)⟩, hAt, h.w.keep xt (by simp) (by simp) fun i hi => ⟨Nat.lt_of_lt_of_le hi h.old.1, (h.old.2 i hi).1⟩⟩;refine z0n ?_
   ((repeat (refine zH ?_)); dsimp only)
   exact ⟨f, ⟨_, τ, c2, rfl, stp, stp, stp, h2, f1, f2.down, by omega, hres2⟩, by omega⟩
end Go.Proofs.Ytjgbcpagfghfnaa
