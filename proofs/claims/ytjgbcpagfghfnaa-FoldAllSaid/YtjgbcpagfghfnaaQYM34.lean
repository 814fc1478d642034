import Derived.Test.YtjgbcpagfghfnaaQYM33
import Derived.Test.YtjgbcpagfghfnaaQYM15
set_option linter.unusedVariables false
set_option linter.unusedSimpArgs false
set_option linter.unnecessarySimpa false
namespace Go.Am
open Go.RowKit
def abT (m : Mo) (j p : Nat) : List Int := if m.of.getD p 0 = 0 then [] else (m.ret.getD p []).getD j []
theorem zd9 (m : Mo) (j : Nat) : z0O m j = (List.range m.of.length).map (abT m j) := rfl
def z66 (m : Mo) (j i q : Nat) : List Int := ((List.range i).filter fun p => decide (m.of.getD p 0 ≠ 0)).map fun p => ((m.ret.getD p []).getD j []).getD q 0
theorem z9e (m : Mo) (j : Nat) : z0M m j = (List.range m.of.length).map (z66 m j m.of.length) := rfl
theorem z9f (m : Mo) (j i q : Nat) : z66 m j (i + 1) q = z66 m j i q ++ (if m.of.getD i 0 = 0 then [] else [((m.ret.getD i []).getD j []).getD q 0]) := by
 unfold z66;rw [List.range_succ, List.filter_append, List.map_append];congr 1;by_cases h : m.of.getD i 0 = 0
 ·rw [if_pos h]; simp at h; simp [h]
 ·rw [if_neg h]; simp at h; simp [h]
theorem zb9 (m : Mo) (j i q : Nat) : (z66 m j i q).length ≤ i := by
 unfold z66;rw [List.length_map];have := List.length_filter_le (fun p => decide (m.of.getD p 0 ≠ 0)) (List.range i);simpa using this
def RowsV (H : Heap) (vs : List SV) (T : Nat → List Int) : Prop := ∀ q, q < vs.length → ∃ u, vs[q]? = some u ∧ IntsAt H (slV u) (T q)
theorem RowsV.at {G0 H : Heap} {b e : Nat} {tg : Option Nat} {ro : Bool} {el : Option TypeId} {vs : List SV} {T : Nat → List Int} {n : Nat} (h : RowsV G0 vs T) (hG : ∀ u l, IntsAt G0 u l → IntsAt H u l) (hn : vs.length = n) (hb : H b = some (.cells (vs.map slV) e tg ro el)) : L2At H (.slice (some ⟨b, 0, tg⟩) n n) ((List.range n).map T) := by
 refine .inr ⟨⟨b, 0, tg⟩, n, by simp, fun i hi => ?_⟩;simp only [List.length_map, List.length_range] at hi;obtain ⟨u, h1, h2⟩ := h i (by omega);refine ⟨slV u, ?_, by simpa using hG _ _ h2⟩;rw [Nat.zero_add];exact z0c hb (by rw [List.getElem?_map, h1]; rfl)
def Stab (B nx nx' : Nat) (H' : Heap) (P : Heap → Prop) : Prop := ∀ H2, (∀ i, i < B → H2 i = H' i) → (∀ i, nx ≤ i → i < nx' → H2 i = H' i) → P H2
theorem Stab.now {B nx nx' : Nat} {H' : Heap} {P : Heap → Prop} (h : Stab B nx nx' H' P) : P H' := h H' (fun _ _ => rfl) (fun _ _ _ => rfl)
end Go.Am
namespace Go.Proofs.Ytjgbcpagfghfnaa
open Go.Am Go.RowKit
attribute [local irreducible] aop OpsL Trip zt z1X z1E OpsR OpsQ
theorem zap : Am.z1G Try.prog 55 := ⟨Try.f55, Try.func55, by kernel_rfl, by kernel_rfl⟩
set_option maxRecDepth 20000 in
set_option maxHeartbeats 16000000 in
theorem zgx (W0 : World) {nx B0 : Nat} {H G0 : Heap} {m : Mo} {V : MoV} {j : Nat} (hm0 : MoIn G0 m V) (ok0 : ∀ id o, G0 id = some o → id < B0) (hx0 : Ext B0 G0 nx H) (hmod : ModOk m) (hj : (j : Int) < m.closings) :
  ACalls Try.prog W0 55 [.agg (moV m V).toArray, .int .i64 j] nx H fun v nx' H' => Stab B0 nx nx' H' (fun H2 => L2At H2 v (z0O m j)) ∧ Ext nx H nx' H' := by
 have hm := hm0.ext hx0 ok0;refine zg (fn := Try.f55) (c := _) Try.func55 rfl (fun tm n hn0 htm => ?_);have e0 : tm 0 = .agg (moV m V).toArray := htm 0;have e1 : tm 1 = .int .i64 j := htm 1;clear htm;replace hn0 : n = 35 := hn0;refine Trip.ok fun hok => ?_;replace hok : ∀ id o, H id = some o → id < nx := hok;refine z2k ?_;refine zY hm hok ?_ evd sdc;intro G x0 okG hb hG;clear e0;have y0 := hx0.trans x0;have hn60 := hmod.n.2;obtain ⟨oa, oc, ov⟩ := hG.of.slice;have oh := hG.of;have g2 := hb.c2;rw [ov] at oh g2;refine zgQ ?_;refine OpsL.new sdc (z0m evd evd (z0f (m := m.of.length) (bytes := 24) (z := .slice none 0 0) xrf xrf xrf xrf (by omega) (by omega))) ?_;obtain ⟨F, hF⟩ : ∃ F, (G.put (nx + 1) (.cells (List.replicate m.of.length (.slice none 0 0)) 1 none false (some 22))) = F := ⟨_, rfl⟩;have hf : F (nx + 1) = some (.cells ((List.replicate m.of.length ((none, 0, 0) : SV)).map slV) 1 none false (some 22)) := by rw [← hF, zu, List.map_replicate]; rfl
 have x1 : Ext (nx + 1) G (nx + 1 + 1) F := by rw [← hF]; exact z0p
 rw [hF];clear hF;replace g2 := zI x1 okG g2;refine zgU ?_;clear g2;refine zG (fun (p : Nat) s => ∃ (tm : Nat → Value) (F : Heap) (vs : List SV), s = ⟨tm, n, F, nx + 1 + 1⟩ ∧ Ext (nx + 1) G (nx + 1 + 1) F ∧ F (nx + 1) = some (.cells (vs.map slV) 1 none false (some 22)) ∧ vs.length = m.of.length ∧ RowsV G0 vs (fun q => if q < p then abT m j q else []) ∧ tm 1 = .int .i64 j ∧ tm 2 = .pointer (some ⟨nx, 0, none⟩) ∧ tm 5 = .slice (some ⟨nx + 1, 0, none⟩) m.of.length m.of.length ∧ tm 13 = .slice oa m.of.length oc ∧ tm 14 = .int .i64 m.of.length ∧ tm 15 = .int .i64 p ∧ p ≤ m.of.length) (fun p => m.of.length - p) 0 ?_ ?_
 ·refine ⟨_, _, _, rfl, x1, hf, by simp, fun q hq => ?_, stp, stp, stp, stp, stp, stp, by omega⟩;rw [List.length_replicate] at hq;exact ⟨(none, 0, 0), by rw [List.getElem?_replicate, if_pos hq], .inl ⟨0, rfl, rfl⟩⟩
 clear hf x1 e1;rintro p s ⟨tm, F, vs, rfl, hx, hf, hvl, hv, t1, t2, t5, t13, t14, t15, hp⟩;replace hvl : PLift (vs.length = m.of.length) := ⟨hvl⟩
 repeat (first | (refine zc (by first | exact omv | exact z24) ?_) | (refine Trip.seq ?_) | (refine zd ?_) | (refine Trip.block ?_) | (refine zJ (fun _ => ?_) (fun _ => ?_)) | (refine Trip.skip ?_; (change Trip _ _ _ _ _)) | (refine OpsL.nil ?_; (change Trip _ _ _ _ _)))
 ·have hlt : p < m.of.length := by omega
  obtain ⟨q1, rfl, hc1⟩ := IntsAt.atI oh (show (0 : Int) ≤ p by omega) (show (p : Int) < m.of.length by omega);rw [Int.toNat_natCast] at hc1;replace hc1 := zI hx okG hc1;obtain ⟨k, hk⟩ : ∃ k, m.of.getD p 0 = k := ⟨_, rfl⟩;rw [hk] at hc1
  have hstep : ∀ {vs' : List SV} {u : SV}, (∀ q, q ≠ p → vs'[q]? = vs[q]?) → vs'.length = vs.length → (p < vs.length → vs'[p]? = some u) → IntsAt G0 (slV u) (abT m j p) → RowsV G0 vs' (fun q => if q < p + 1 then abT m j q else []) := by
   intro vs' u h1 h2 h3 h5 q hq;by_cases e : q = p
   ·subst e;exact ⟨u, h3 (by omega), by simp only [Nat.lt_succ_self, if_true]; exact h5⟩
   ·obtain ⟨w, w1, w2⟩ := hv q (by omega);refine ⟨w, by rw [h1 q e]; exact w1, ?_⟩
    have : (if q < p + 1 then abT m j q else []) = if q < p then abT m j q else [] := by
     by_cases e2 : q < p
     ·rw [if_pos e2, if_pos (by omega)]
     ·rw [if_neg e2, if_neg (by omega)]
    show IntsAt G0 (slV w) (if q < p + 1 then abT m j q else []);rw [this];exact w2
  refine zfq ?_;clear hc1;by_cases h0 : k = 0
  ·refine z02 ?_ (c := h0);have hab : abT m j p = [] := by unfold abT; rw [hk, if_pos h0]
   clear h0 hk;refine z68 ?_;refine zc6 ?_;obtain ⟨u, u1, u2⟩ := hv p (by have := hvl.down; omega);refine ⟨p + 1, ⟨_, F, vs, rfl, hx, hf, hvl.down, hstep (u := u) (fun _ _ => rfl) rfl (fun _ => u1) ?_, stp, stp, stp, stp, stp, stp, by omega⟩, by omega⟩;rw [hab];have : (if p < p then abT m j p else []) = [] := if_neg (by omega);simp only [this] at u2;exact u2
  ·refine z08 ?_ (c := h0);have hz : m.of.getD p 0 ≠ 0 := by rw [hk]; exact h0
   have hab : abT m j p = (m.ret.getD p []).getD j [] := by unfold abT; rw [if_neg hz]
   have hr1 := (hmod.ret1 p hlt hz).1;clear h0 hk;obtain ⟨ra, rc, rv⟩ := hm0.ret.slice;have rh := hm0.ret;have g7 := (hb.ext hx okG).c7;rw [rv] at rh g7;have hpr := Nat.lt_of_lt_of_eq hlt hmod.rl.symm;obtain ⟨q2, rb, rk, rfl, hc2, hrow⟩ := L3At.atI rh (show (0 : Int) ≤ p by omega) (show (p : Int) < m.ret.length by omega);rw [Int.toNat_natCast] at hc2 hrow;replace hc2 := zI (y0.trans hx) ok0 hc2;obtain ⟨Rw, hRw⟩ : ∃ R, m.ret.getD p [] = R := ⟨_, rfl⟩;rw [hRw] at hc2 hrow hab hr1;clear hRw;obtain ⟨q3, sb, sk, rfl, hc3, hrw⟩ := L2At.atI hrow (show (0 : Int) ≤ j by omega) (show (j : Int) < Rw.length by omega);rw [Int.toNat_natCast] at hc3 hrw;replace hc3 := zI (y0.trans hx) ok0 hc3;have hjr : (j : Int) < Rw.length := by omega
   obtain ⟨rw', hrw'⟩ : ∃ r, Rw.getD j [] = r := ⟨_, rfl⟩;rw [hrw'] at hc3 hrw hab;clear hrw' hr1;refine z9O ?_
   repeat (first | (refine zc (by first | exact omv | exact ofa | exact old | exact z1j) ?_) | (refine zd ?_))
   refine OpsL.storeAt (a := ⟨nx + 1, 0 + (p : Int).toNat * 1, none⟩) (v := .slice sb rw'.length sk) (cs' := (vs.set p (sb, rw'.length, sk)).map slV) p evr evd xrf rfl rfl hf (by simp) (by rw [List.length_map, hvl.down]; exact hlt) (by rw [List.map_set]; rfl) ?_;have hx2 : Ext (nx + 1) G (nx + 1 + 1) (F.put (nx + 1) (.cells ((vs.set p (sb, rw'.length, sk)).map slV) 1 none false (some 22))) := ⟨hx.1, fun i hi => by rw [zj (by omega)]; exact hx.2 i hi⟩;clear hc2 hc3 g7;refine zeo ?_;refine ⟨p + 1, ⟨_, _, vs.set p (sb, rw'.length, sk), rfl, hx2, zu, by rw [List.length_set]; exact hvl.down, hstep (u := (sb, rw'.length, sk)) (fun q hq => List.getElem?_set_ne (fun e => hq e.symm)) (by rw [List.length_set]) (fun h => List.getElem?_set_self h) (by rw [hab]; exact hrw), stp, stp, stp, stp, stp, stp, by omega⟩, by omega⟩
 ·have hp2 : p = m.of.length := by omega
  subst hp2;refine zdu ?_
  have e : (List.range m.of.length).map (fun q => if q < m.of.length then abT m j q else []) = z0O m j := by
   rw [zd9];refine List.map_congr_left fun q hq => if_pos (List.mem_range.1 hq)
  refine ⟨.inr rfl, _, zn, fun H2 h1 h2 => ?_, x0.trans hx⟩;have hxx : Ext B0 G0 (nx + 1 + 1) H2 := ⟨Nat.le_trans y0.1 hx.1, fun i hi => by rw [h1 i hi]; exact (y0.trans hx).2 i hi⟩;have hat := hv.at (fun u l h => IntsAt.ext hxx ok0 h) hvl.down (show H2 (nx + 1) = _ by rw [h2 (nx + 1) (by omega) (by show nx + 1 < nx + 1 + 1; omega)]; exact hf);rw [e] at hat;simpa [zb, *] using hat
end Go.Proofs.Ytjgbcpagfghfnaa
namespace Go.Proofs.Ytjgbcpagfghfnaa
open Go.Am Go.RowKit
attribute [local irreducible] aop OpsL Trip zt z1X z1E OpsR OpsQ
theorem z8n : Am.z1G Try.prog 56 := ⟨Try.f56, Try.func56, by kernel_rfl, by kernel_rfl⟩
set_option maxRecDepth 20000 in
set_option maxHeartbeats 16000000 in
theorem zgw (W0 : World) {nx : Nat} {H : Heap} {m : Mo} {V : MoV} {j : Nat} (hm : MoIn H m V) (hmod : ModOk m) (hj : (j : Int) < m.closings) :
  ACalls Try.prog W0 56 [.agg (moV m V).toArray, .int .i64 j] nx H fun v nx' H' => Stab 0 nx nx' H' (fun H2 => L2At H2 v (z0M m j)) ∧ Ext nx H nx' H' := by
 refine zg (fn := Try.f56) (c := _) Try.func56 rfl (fun tm n hn0 htm => ?_);have e0 : tm 0 = .agg (moV m V).toArray := htm 0;have e1 : tm 1 = .int .i64 j := htm 1;clear htm;replace hn0 : n = 51 := hn0;refine Trip.ok fun hok => ?_;replace hok : ∀ id o, H id = some o → id < nx := hok;refine z2k ?_;refine zY hm hok ?_ evd sdc;intro G x0 okG hb hG;clear e0;have hn60 := hmod.n.2;obtain ⟨oa, oc, ov⟩ := hG.of.slice;have oh := hG.of;have g2 := hb.c2;rw [ov] at oh g2;refine zgQ ?_;refine zo (σ := ⟨nx + 1, fun _ => .old, G⟩) .table (z0m evd evd (z0f (m := m.of.length) (bytes := 24) (z := .slice none 0 0) xrf xrf xrf xrf (by omega) (by omega))) sdc ?_;intro σ1 hM x1;have ho1 := OldC.keep x1 (by simp) OldC.refl;obtain ⟨B, hBn⟩ : ∃ B, (CH.nx ⟨nx + 1, fun _ => .old, G⟩) = B := ⟨_, rfl⟩;rw [hBn] at hM
 have hT : TabC σ1 (.slice (some ⟨B, 0, none⟩) m.of.length m.of.length) ((List.range m.of.length).map (z66 m j 0)) := by
  refine ⟨List.replicate m.of.length (none, 0, 0), ⟨B, by simp, by rw [List.map_replicate]; exact hM⟩, by simp, fun i x hx => ?_⟩;rw [List.getElem?_map] at hx;by_cases hi : i < m.of.length
  ·rw [List.getElem?_range hi] at hx;cases hx;exact ⟨(none, 0, 0), by rw [List.getElem?_replicate, if_pos hi], OwnC.nil⟩
  ·rw [List.getElem?_eq_none (by simpa using hi)] at hx; cases hx
 change OpsL _ _ _ _ ⟨zb _ _ (.slice (some ⟨CH.nx ⟨nx + 1, fun _ => .old, G⟩, 0, none⟩) _ _), _, _, _⟩ _;rw [hBn];clear hM x1 hBn;replace g2 := zI ho1.ext okG g2;refine zgU ?_;clear g2;refine zG (fun (i : Nat) s => ∃ tm σ, s = ⟨tm, n, σ.H, σ.nx⟩ ∧ tm 1 = .int .i64 j ∧ tm 2 = .pointer (some ⟨nx, 0, none⟩) ∧ tm 5 = .slice (some ⟨B, 0, none⟩) m.of.length m.of.length ∧ tm 15 = .slice oa m.of.length oc ∧ tm 16 = .int .i64 m.of.length ∧ tm 17 = .int .i64 i ∧ i ≤ m.of.length ∧ OldC ⟨nx + 1, fun _ => .old, G⟩ σ ∧ TabC σ (.slice (some ⟨B, 0, none⟩) m.of.length m.of.length) ((List.range m.of.length).map (z66 m j i))) (fun i => m.of.length - i) 0 ?_ ?_
 ·exact ⟨_, σ1, rfl, stp, stp, stp, stp, stp, stp, by omega, ho1, hT⟩
 clear ho1 hT e1;rintro i s ⟨tm, σ, rfl, t1, t2, t5, t15, t16, t17, hi, ho, hT⟩
 repeat (first | (refine zc (by first | exact omv | exact z24) ?_) | (refine Trip.seq ?_) | (refine zd ?_) | (refine Trip.block ?_) | (refine zJ (fun _ => ?_) (fun _ => ?_)) | (refine Trip.skip ?_; (change Trip _ _ _ _ _)) | (refine OpsL.nil ?_; (change Trip _ _ _ _ _)))
 ·have hlt : i < m.of.length := by omega
  obtain ⟨q1, rfl, hc1⟩ := IntsAt.atI oh (show (0 : Int) ≤ i by omega) (show (i : Int) < m.of.length by omega);rw [Int.toNat_natCast] at hc1;replace hc1 := zI ho.ext okG hc1;obtain ⟨k, hk⟩ : ∃ k, m.of.getD i 0 = k := ⟨_, rfl⟩;rw [hk] at hc1;refine zfq ?_;clear hc1;by_cases h0 : k = 0
  ·refine z0H ?_ (c := h0);have hTs : (List.range m.of.length).map (z66 m j (i + 1)) = (List.range m.of.length).map (z66 m j i) := List.map_congr_left fun q _ => by rw [z9f, hk, if_pos h0, List.append_nil]
   clear h0 hk;refine z9O ?_
   repeat (first | (refine zc (by first | exact omv | exact z6e) ?_) | (refine zd ?_) | (refine Trip.exit ?_; ((repeat (refine zD ?_)); change Trip _ _ _ _ _)) | (refine OpsL.nil ?_; (dsimp only)))
   exact ⟨i + 1, ⟨_, σ, rfl, stp, stp, stp, stp, stp, stp, by omega, ho, by rw [hTs]; exact hT⟩, by omega⟩
  ·refine z30 ?_ (c := h0);have hz : m.of.getD i 0 ≠ 0 := by rw [hk]; exact h0
   have hr1 := (hmod.ret1 i hlt hz).1;have hr2 := (hmod.ret1 i hlt hz).2 j (by omega);clear h0 hk;obtain ⟨ra, rc, rv⟩ := hG.ret.slice;have rh := hG.ret;have g7 := (hb.ext ho.ext okG).c7;rw [rv] at rh g7;have hpr := Nat.lt_of_lt_of_eq hlt hmod.rl.symm;obtain ⟨q2, rb, rk, rfl, hc2, hrow⟩ := L3At.atI rh (show (0 : Int) ≤ i by omega) (show (i : Int) < m.ret.length by omega);rw [Int.toNat_natCast] at hc2 hrow;replace hc2 := zI ho.ext okG hc2;have hTs : (List.range m.of.length).map (z66 m j (i + 1)) = (List.range m.of.length).map fun x => z66 m j i x ++ (if x < m.of.length then [((m.ret.getD i []).getD j []).getD x 0] else []) := List.map_congr_left fun q hq => by rw [z9f, if_neg hz, if_pos (List.mem_range.1 hq)]
   obtain ⟨Rw, hRw⟩ : ∃ R, m.ret.getD i [] = R := ⟨_, rfl⟩;rw [hRw] at hc2 hrow hr1 hr2 hTs;clear hRw;obtain ⟨q3, sb, sk, rfl, hc3, hrw⟩ := L2At.atI hrow (show (0 : Int) ≤ j by omega) (show (j : Int) < Rw.length by omega);rw [Int.toNat_natCast] at hc3 hrw;replace hc3 := zI ho.ext okG hc3;have hjr : (j : Int) < Rw.length := by omega
   obtain ⟨r, hr⟩ : ∃ r, Rw.getD j [] = r := ⟨_, rfl⟩;rw [hr] at hc3 hrw hr2 hTs;clear hr hr1;have hrl := Nat.le_of_eq hr2.1;have hrl2 := Nat.le_of_eq hr2.1.symm
   replace hT : TabC σ (.slice (some ⟨B, 0, none⟩) m.of.length m.of.length) ((List.range m.of.length).map fun x => z66 m j i x ++ (if x < 0 then [r.getD x 0] else [])) := by
    have : (List.range m.of.length).map (fun x => z66 m j i x ++ (if x < 0 then [r.getD x 0] else [])) = (List.range m.of.length).map (z66 m j i) := List.map_congr_left fun q _ => by simp
    rw [this]; exact hT
   refine z68 ?_
   repeat (first | (refine zc (by first | exact omv | exact ofa | exact old | exact z1j | exact z1g) ?_) | (refine Trip.seq ?_) | (refine zd ?_) | (refine Trip.block ?_) | (refine Trip.skip ?_; (change Trip _ _ _ _ _)) | (refine OpsL.nil ?_; (change Trip _ _ _ _ _)))
   clear hc2 hc3 g7;refine zG (fun (q : Nat) s => ∃ tm σ, s = ⟨tm, n, σ.H, σ.nx⟩ ∧ tm 1 = .int .i64 j ∧ tm 2 = .pointer (some ⟨nx, 0, none⟩) ∧ tm 5 = .slice (some ⟨B, 0, none⟩) m.of.length m.of.length ∧ tm 15 = .slice (some q1) m.of.length oc ∧ tm 16 = .int .i64 m.of.length ∧ tm 17 = .int .i64 i ∧ tm 31 = .slice sb r.length sk ∧ tm 32 = .int .i64 r.length ∧ tm 33 = .int .i64 q ∧ q ≤ r.length ∧ OldC ⟨nx + 1, fun _ => .old, G⟩ σ ∧ TabC σ (.slice (some ⟨B, 0, none⟩) m.of.length m.of.length) ((List.range m.of.length).map fun x => z66 m j i x ++ (if x < q then [r.getD x 0] else []))) (fun q => r.length - q) 0 ?_ ?_
   ·exact ⟨_, σ, rfl, stp, stp, stp, stp, stp, stp, stp, stp, stp, by omega, ho, hT⟩
   clear ho hT t1 t2 t5 t15 t16 t17;rintro q s ⟨tm, σ, rfl, t1, t2, t5, t15, t16, t17, t31, t32, t33, hq, ho, hT⟩
   repeat (first | (refine zc (by first | exact omv | exact z24) ?_) | (refine Trip.seq ?_) | (refine zd ?_) | (refine Trip.block ?_) | (refine zJ (fun _ => ?_) (fun _ => ?_)) | (refine Trip.skip ?_; (change Trip _ _ _ _ _)) | (refine OpsL.nil ?_; (change Trip _ _ _ _ _)))
   ·have hlq : q < r.length := by omega
    obtain ⟨q4, rfl, hc4⟩ := hrw.atI (show (0 : Int) ≤ q by omega) (show (q : Int) < r.length by omega);rw [Int.toNat_natCast] at hc4;replace hc4 := zI ho.ext okG hc4;obtain ⟨z, hzz⟩ : ∃ z, r.getD q 0 = z := ⟨_, rfl⟩;rw [hzz] at hc4;obtain ⟨vs, bt, ta, tk, htv, hbt, hall, hvc, hrow⟩ := hT.row (c := q) (by simp; omega);rw [z0x (by omega)] at hvc hrow;have e0 : (if q < q then [r.getD q 0] else []) = ([] : List Int) := if_neg (by omega);rw [e0, List.append_nil] at hvc hrow;clear e0;simp only [Value.slice.injEq, Option.some.injEq, Addr.mk.injEq, and_true] at htv;obtain ⟨hbe, -⟩ := htv;subst hbe
    have g3 : zf σ.H ⟨B, 0 + q * 1, none⟩ (.slice ta (z66 m j i q).length tk) := by
     rw [Nat.zero_add, Nat.mul_one];exact hbt.cell (by rw [List.getElem?_map, hvc]; rfl)
    have htl := zb9 m j i q;have hvl : q < (vs.map slV).length := by have := hall.1; simp at this; rw [List.length_map, this]; omega
    have hvl2 : PLift (vs.length = m.of.length) := ⟨by have := hall.1; simpa using this⟩
    repeat (first | (refine zc (by first | exact omv | exact z1j | exact old | exact z09) ?_) | (refine zd ?_) | (refine OpsL.nil ?_; (change Trip _ _ _ _ _)))
    refine z0i (σ := σ) (enc := z1L) (z := z) (el := 3) rfl evd krf sdc ?_;intro σ2 x2 hu;replace hrow := zm x2 (by simp) hrow;refine zT (bytes := 8) (z := [.int .i64 0]) zR z0I hrow hu xrf xrf xrf xrf xrf rfl (by simp; omega) (by omega) evd evd sdc ?_;intro v3 σ3 hrow3 x3;obtain ⟨va, vk, rfl⟩ := OwnC.slice zR hrow3;replace hbt := (hbt.keep x2 (by simp)).keep x3 (by simp);refine zbl ?_;refine zP (k := q) (v := .slice va (z66 m j i q ++ [z]).length vk) (cs' := (vs.set q (va, (z66 m j i q ++ [z]).length, vk)).map slV) hbt hvl (by rw [List.map_set]; rfl) xrf rfl rfl evr evd (by show Addr.mk _ (0 + (q : Int).toNat * 1) _ = _; simp) ?_;rintro σ4 hbt4 x4 -;have x24 : Chg [.tab q, .table] σ σ4 := ((x2.mono (by simp)).trans (x3.mono (by simp))).trans (x4.mono (by simp));have hrow4 := zm x4 (by simp) hrow3
    have hT4 : TabC σ4 (.slice (some ⟨B, 0, none⟩) m.of.length m.of.length) ((List.range m.of.length).map fun x => z66 m j i x ++ (if x < q + 1 then [r.getD x 0] else [])) := by
     have hs : ((List.range m.of.length).map fun x => z66 m j i x ++ (if x < q then [r.getD x 0] else [])).set q (z66 m j i q ++ [z]) = (List.range m.of.length).map fun x => z66 m j i x ++ (if x < q + 1 then [r.getD x 0] else []) :=
      z3J (by omega) (by rw [if_pos (Nat.lt_succ_self _), hzz]) (fun x hx => by
       by_cases e : x < q
       ·rw [if_pos e, if_pos (by omega)]
       ·rw [if_neg e, if_neg (by omega)])
     refine ⟨_, ⟨B, (by rw [List.length_map, List.length_set, hvl2.down]), hbt4⟩, ?_⟩;rw [← hs];exact hall.set (fun i' _ _ _ hi' hr => zm x24 (by simp [hi']) hr) hrow4
    replace ho := ho.keep x24 (by simp);clear hbt hbt4 hrow hrow3 hrow4 hT hall hvc g3 hu x2 x3 x4 x24 hzz hc4;refine z0n ?_;refine zen ?_;exact ⟨q + 1, ⟨_, σ4, rfl, stp, stp, stp, stp, stp, stp, stp, stp, stp, by omega, ho, hT4⟩, by omega⟩
   ·have hq2 : q = m.of.length := by omega
    subst hq2;rw [← hTs] at hT;refine zfU ?_;exact ⟨i + 1, ⟨_, σ, rfl, stp, stp, stp, stp, stp, stp, by omega, ho, hT⟩, by omega⟩
 ·have hi2 : i = m.of.length := by omega
  subst hi2;refine zdu ?_;refine ⟨.inr rfl, _, zn, fun H2 _ h2' => ?_, x0.trans ho.ext⟩;rw [← z9e] at hT
  have hnew : ∀ {b : Nat} {c : Co}, b < σ.nx → σ.C b = c → c ≠ .old → H2 b = σ.H b := fun {b c} h1 h2 h3 => h2' b (by
   by_cases e : b < nx + 1
   ·exact absurd ((ho.2 b e).1.symm.trans h2).symm h3
   ·omega) h1
  obtain ⟨vs, ⟨b, h1, h2⟩, h3⟩ := hT;have hl := h3.1;rw [List.length_map, hl] at h1
  have hat : L2At H2 (.slice (some ⟨b, 0, none⟩) (z0M m j).length (z0M m j).length) (z0M m j) := by
   refine .inr ⟨⟨b, 0, none⟩, (z0M m j).length, rfl, fun i hi => ?_⟩;obtain ⟨u, q1, q2⟩ := h3.2 i (z0M m j)[i] (List.getElem?_eq_getElem hi);refine ⟨slV u, ?_, ?_⟩
   ·rw [Nat.zero_add];exact z0c (by rw [hnew h2.1 h2.2.1 (by simp)]; exact h2.2.2) (by rw [List.getElem?_map, q1]; rfl)
   ·obtain ⟨ob, o1, o2⟩ := q2;exact z7B (OwnOf.at zR (z81 (fun b' t e => hnew (o2 b' t e).1 (o2 b' t e).2 (by simp)) o1))
  rw [← h1] at hat;simpa [zb, *] using hat
end Go.Proofs.Ytjgbcpagfghfnaa
