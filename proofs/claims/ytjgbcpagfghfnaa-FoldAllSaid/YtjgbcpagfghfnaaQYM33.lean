import Derived.Test.YtjgbcpagfghfnaaQYM32
import Derived.Test.YtjgbcpagfghfnaaQYM15
set_option linter.unusedVariables false
set_option linter.unusedSimpArgs false
set_option linter.unnecessarySimpa false
namespace Go.Am
open Go.RowKit
theorem z0A {P : Program} {nx : Nat} {H : Heap} {ev : Operand → Option Value} {dst : Option Tmp} {type : TypeId} {pos : String} {after : Array Edge} {guard : Option (Nat × Bool)} {t e : TypeId} {x i : Operand} {a : Addr} {len sz : Nat} {k : IntKind} {j : Int} (hx : ev x = some (.pointer (some a))) (hi : ev i = some (.int k j)) (hu : P.underlying t = some (.array len e)) (hs : z1W P e = some sz) (h0 : 0 ≤ j) (h1 : j < len) :
  aop P H nx ev ⟨dst, .indexAddr t x i, type, pos, after, guard⟩ = some (.pointer (some ⟨a.block, a.off + j.toNat * sz, a.spot⟩), .none) := by
 simp [aop, z3q, hx, hi, hu, hs, h0, h1]
theorem za7 (N : List (List Int) × List Int) (key : List Int) : z5M N key = (if key ∈ N.1 then N.1 else N.1 ++ [key], N.2 ++ [(N.1.idxOf key : Int)]) := by
 have hb : (instBEqOfDecidableEq : BEq (List Int)) = (List.instBEq : BEq (List Int)) := by
  have h : ∀ a b : List Int, (@BEq.beq _ instBEqOfDecidableEq a b) = (@BEq.beq _ List.instBEq a b) := fun a b => by
   rw [Bool.eq_iff_iff];simp
  cases h1 : (instBEqOfDecidableEq : BEq (List Int)) with
  | mk f =>
   cases h2 : (List.instBEq : BEq (List Int)) with
   | mk g =>
    congr 1;funext a b;have := h a b;rw [h1, h2] at this;exact this
 unfold z5M;rw [Prod.mk.injEq];refine ⟨by split <;> simp_all, ?_⟩;have : @List.idxOf _ instBEqOfDecidableEq key N.1 = @List.idxOf _ List.instBEq key N.1 := by rw [hb]
 exact congrArg (fun i : Nat => N.2 ++ [(i : Int)]) this
def c60 (l : List Int) : List Value := i8 (l ++ List.replicate (60 - l.length) 0)
theorem z0l {l : List Int} (h : l.length ≤ 60) : (c60 l).length = 60 := by simp [c60, i8]; omega
theorem zex (l : List Int) (i : Nat) (x : Int) : (i8 l).set i (.int .i8 x) = i8 (l.set i x) := by unfold i8; rw [List.map_set]
theorem z86 {l : List Int} {i : Nat} {x : Int} (hl : l.length = i) (h : i < 60) : (c60 l).set i (.int .i8 x) = c60 (l ++ [x]) := by
 unfold c60;rw [zex, hl, z51 hl h];simp [hl]
theorem zac {l : List Int} {i : Nat} (h : i < 60) (hl : l.length ≤ 60) : (c60 l)[i]? = some (.int .i8 (l.getD i 0)) := by
 unfold c60 i8;rw [List.getElem?_map];by_cases hi : i < l.length
 ·rw [List.getElem?_append_left hi, List.getElem?_eq_getElem hi, List.getD_eq_getElem?_getD, List.getElem?_eq_getElem hi]; rfl
 ·rw [List.getElem?_append_right (by omega), List.getElem?_replicate, if_pos (by omega), List.getD_eq_getElem?_getD, List.getElem?_eq_none (by omega)]; rfl
theorem z3Z (l : List Int) : (i8 l).all (·.oneCell') = true := by
 unfold i8;rw [List.all_map, List.all_eq_true];intro x _;rfl
def z1P (x : Int) (l : List Int) : List Int := x :: l ++ List.replicate (60 - l.length) 0
theorem z8R (x : Int) {l : List Int} (h : l.length ≤ 60) : (z1P x l).length = 61 := by simp [z1P]; omega
theorem zbr {x y : Int} {l : List Int} {i : Nat} (hl : l.length = i) (h : i < 60) : (i8 (z1P x l)).set (1 + i) (.int .i8 y) = i8 (z1P x (l ++ [y])) := by
 rw [zex];unfold z1P;rw [hl, show 1 + i = i + 1 by omega, List.cons_append, List.set_cons_succ, z51 hl h];simp [hl]
theorem zdk {σ : CH} {nx' mt : Nat} {H' : Heap} (hC : σ.C mt = .table) (hle : σ.nx ≤ nx') (h : ∀ i, i < σ.nx → i ≠ mt → H' i = σ.H i) : ∃ τ : CH, nx' = τ.nx ∧ H' = τ.H ∧ Chg [.table] σ τ := by
 refine ⟨⟨nx', fun i => if i < σ.nx then σ.C i else .entry, H'⟩, rfl, rfl, hle, fun i hi => ⟨if_pos hi, fun hn => h i hi fun e => ?_⟩⟩;subst e;rw [hC] at hn;exact hn (List.mem_singleton.2 rfl)
end Go.Am
namespace Go.Proofs.Ytjgbcpagfghfnaa
open Go.Am Go.RowKit
structure PtS (σ0 σ : CH) (R A M : Nat) (K : List (List Int)) (out : List Int) : Prop where
 old : OldC σ0 σ
 r : ∃ cs, cs.length = 60 ∧ ObC .tmp σ R (.cells cs 0 none false (some 72))
 a : ObC .self σ A (.cells (c60 out) 0 none false (some 72))
 t1 : M < σ.nx
 t2 : σ.C M = .table
 t3 : TabAt σ.H M K
theorem PtS.keep {S : List Co} {σ0 σ τ : CH} {R A M : Nat} {K : List (List Int)} {out : List Int} (hc : Chg S σ τ) (h1 : Co.old ∉ S) (h2 : Co.tmp ∉ S) (h3 : Co.self ∉ S) (h4 : Co.table ∉ S) (h : PtS σ0 σ R A M K out) : PtS σ0 τ R A M K out :=
 ⟨h.old.keep hc h1, by obtain ⟨cs, q1, q2⟩ := h.r; exact ⟨cs, q1, q2.keep hc h2⟩, h.a.keep hc h3, Nat.lt_of_lt_of_le h.t1 hc.1, (hc.hue h.t1).trans h.t2, by
  obtain ⟨q, bs, clk, hm⟩ := h.t3;exact ⟨q, bs, clk, (hc.same h4 h.t1 h.t2).trans hm⟩⟩
theorem PtS.tab {σ0 σ : CH} {R A M nx' : Nat} {H' : Heap} {K K' : List (List Int)} {out : List Int} (h : PtS σ0 σ R A M K out) (hle : σ.nx ≤ nx') (hs : ∀ i, i < σ.nx → i ≠ M → H' i = σ.H i) (ht : TabAt H' M K') : ∃ τ : CH, nx' = τ.nx ∧ H' = τ.H ∧ PtS σ0 τ R A M K' out := by
 obtain ⟨τ, rfl, rfl, hc⟩ := zdk h.t2 hle hs;exact ⟨τ, rfl, rfl, h.old.keep hc (by simp), by obtain ⟨cs, q1, q2⟩ := h.r; exact ⟨cs, q1, q2.keep hc (by simp)⟩, h.a.keep hc (by simp), Nat.lt_of_lt_of_le h.t1 hc.1, (hc.hue h.t1).trans h.t2, ht⟩
theorem PtS.setA {σ0 σ τ : CH} {R A M : Nat} {K : List (List Int)} {out out' : List Int} (h : PtS σ0 σ R A M K out) (hc : Chg [.self] σ τ) (ha : ObC .self τ A (.cells (c60 out') 0 none false (some 72))) : PtS σ0 τ R A M K out' :=
 ⟨h.old.keep hc (by simp), by obtain ⟨cs, q1, q2⟩ := h.r; exact ⟨cs, q1, q2.keep hc (by simp)⟩, ha, Nat.lt_of_lt_of_le h.t1 hc.1, (hc.hue h.t1).trans h.t2, by
  obtain ⟨q, bs, clk, hm⟩ := h.t3;exact ⟨q, bs, clk, (hc.same (by simp) h.t1 h.t2).trans hm⟩⟩
attribute [local irreducible] aop OpsL Trip zt z1X z1E OpsR OpsQ
theorem z9x : Am.z1G Try.prog 52 := ⟨Try.f52, Try.func52, by kernel_rfl, by kernel_rfl⟩
set_option maxRecDepth 20000 in
set_option maxHeartbeats 16000000 in
theorem zf5 (W0 : World) {nx : Nat} {H : Heap} {rv : Value} {c : List Int} {rows : List (List Int)} (hr : L2At H rv rows) (hc : c.length ≤ 60) (hl : rows.length ≤ 60) (hrl : ∀ i, (rows.getD i []).length ≤ 60) (hin : ∀ i, ∀ q ∈ rows.getD i [], 0 ≤ q ∧ q < 60) :
  ACalls Try.prog W0 52 [.agg (c60 c).toArray, rv] nx H fun v nx' H' => v = .agg (c60 (z0s c rows)).toArray ∧ Ext nx H nx' H' := by
 refine zg (fn := Try.f52) (c := _) Try.func52 rfl (fun tm n hn0 htm => ?_);have e0 : tm 0 = .agg (c60 c).toArray := htm 0;have e1 : tm 1 = rv := htm 1;clear htm;replace hn0 : n = 45 := hn0;refine Trip.ok fun hok => ?_;replace hok : ∀ id o, H id = some o → id < nx := hok;obtain ⟨ra, rk, rfl⟩ := L2At.slice hr;refine z2k ?_;refine OpsL.new sdc (z5C (v := .agg (c60 c).toArray) evd) ?_;obtain ⟨G, hG⟩ : ∃ G, (H.put nx (.cells (c60 c) 0 none false (some 72))) = G := ⟨_, rfl⟩;have hb : G nx = some (.cells (c60 c) 0 none false (some 72)) := by rw [← hG]; exact zu
 have x0 : Ext nx H (nx + 1) G := by rw [← hG]; exact z0p
 have okG : ∀ id o, G id = some o → id < nx + 1 := by rw [← hG]; exact zet hok
 change OpsL _ _ _ _ ⟨_, _, H.put nx (.cells (c60 c) 0 none false (some 72)), _⟩ _;rw [hG];clear hG e0;have hrG := hr.ext x0 hok;refine zo (σ := ⟨nx + 1, fun _ => .old, G⟩) .tmp (zV (l := c60 []) xrf) sdc ?_;intro σ1 hR x1;have ho1 := OldC.keep x1 (by simp) OldC.refl;obtain ⟨R, hRn⟩ : ∃ R, (CH.nx ⟨nx + 1, fun _ => .old, G⟩) = R := ⟨_, rfl⟩;rw [hRn] at hR ⊢;clear hRn x1;refine z0n ?_
 (change Trip _ _ _ _ _)
 refine z2k ?_;refine zo .self (zV (l := c60 []) xrf) sdc ?_;intro σ2 hA x2;have ho2 := ho1.keep x2 (by simp);replace hR := hR.keep x2 (by simp);obtain ⟨A, hAn⟩ : ∃ A, σ1.nx = A := ⟨_, rfl⟩;rw [hAn] at hA ⊢;clear hAn x2 ho1;refine z0n ?_
 (change Trip _ _ _ _ _)
 refine z2k ?_;refine zo .table z5q sdc ?_;intro σ3 hM x3;have ho3 := ho2.keep x3 (by simp);replace hR := hR.keep x3 (by simp);replace hA := hA.keep x3 (by simp);obtain ⟨M, hMn⟩ : ∃ M, σ2.nx = M := ⟨_, rfl⟩;rw [hMn] at hM ⊢;clear hMn x3 ho2;have hP : PtS ⟨nx + 1, fun _ => .old, G⟩ σ3 R A M [] [] := ⟨ho3, ⟨_, rfl, hR⟩, hA, hM.1, hM.2.1, fun _ h => by simp at h, [], 0, hM.2.2⟩;clear ho3 hR hA hM;refine zgR ?_;refine zG (fun (p : Nat) s => ∃ tm σ, s = ⟨tm, n, σ.H, σ.nx⟩ ∧ tm 2 = .pointer (some ⟨nx, 0, none⟩) ∧ tm 4 = .pointer (some ⟨R, 0, none⟩) ∧ tm 5 = .pointer (some ⟨A, 0, none⟩) ∧ tm 6 = .map (some M) ∧ tm 13 = .slice ra rows.length rk ∧ tm 14 = .int .i64 rows.length ∧ tm 15 = .int .i64 p ∧ p ≤ rows.length ∧ PtS ⟨nx + 1, fun _ => .old, G⟩ σ R A M (z2z ((List.range p).map fun p => z1Q c (rows.getD p []) p)).1 (z2U ((List.range p).map fun p => z1Q c (rows.getD p []) p))) (fun p => rows.length - p) 0 ?_ ?_
 ·exact ⟨_, σ3, rfl, stp, stp, stp, stp, stp, stp, stp, Nat.zero_le _, hP⟩
 clear hP e1;rintro p s ⟨tm, σ, rfl, t2, t4, t5, t6, t13, t14, t15, hp, h⟩
 repeat (first | (refine zc (by first | exact omv | exact z24) ?_) | (refine Trip.seq ?_) | (refine zd ?_) | (refine Trip.block ?_) | (refine zJ (fun _ => ?_) (fun _ => ?_)) | (refine Trip.skip ?_; (change Trip _ _ _ _ _)) | (refine OpsL.nil ?_; (change Trip _ _ _ _ _)))
 ·have hlt : p < rows.length := by omega
  obtain ⟨q1, sb, sk, rfl, hc1, hrw⟩ := L2At.atI hrG (show (0 : Int) ≤ p by omega) (show (p : Int) < rows.length by omega);rw [Int.toNat_natCast] at hc1 hrw;replace hc1 := zI h.old.ext okG hc1;have hrl1 := hrl p;have hin1 := hin p;have hsn : (List.range (p + 1)).map (fun p => z1Q c (rows.getD p []) p) = (List.range p).map (fun p => z1Q c (rows.getD p []) p) ++ [z1Q c (rows.getD p []) p] := by rw [List.range_succ, List.map_append]; rfl
  have hnl : (z2U ((List.range p).map fun p => z1Q c (rows.getD p []) p)).length = p := by unfold z2U; rw [z42]; simp
  have hkl : (z2z ((List.range p).map fun p => z1Q c (rows.getD p []) p)).1.length ≤ p := by have := z82 ((List.range p).map fun p => z1Q c (rows.getD p []) p); simpa using this
  have hsS := z1H ((List.range p).map fun p => z1Q c (rows.getD p []) p) (z1Q c (rows.getD p []) p);rw [← hsn] at hsS;unfold z2U at hnl h;have hPK : z1Q c (rows.getD p []) p = z1P (c.getD p 0) ((rows.getD p []).map fun q => c.getD q.toNat 0) := by simp [z1Q, z1P]
  rw [hPK] at hsS;clear hPK hsn;obtain ⟨N, hN⟩ : ∃ N, z2z ((List.range p).map fun p => z1Q c (rows.getD p []) p) = N := ⟨_, rfl⟩;rw [hN] at hnl hkl hsS h;clear hN;obtain ⟨row, hrow⟩ : ∃ row, rows.getD p [] = row := ⟨_, rfl⟩;rw [hrow] at hc1 hrw hrl1 hin1 hsS;clear hrow
  have cp : zf σ.H ⟨nx, 0 + (p : Int).toNat * 1, none⟩ (.int .i8 (c.getD p 0)) := by
   rw [Int.toNat_natCast, Nat.mul_one, Nat.zero_add];refine z0c (by rw [(h.old.2 nx (Nat.lt_succ_self _)).2]; exact hb) ?_;exact zac (by omega) hc
  refine zfq ?_;refine zw sdc (z0A (sz := 1) evr evr xrf xrf (by omega) (by omega)) ?_
  repeat (first | (refine zc (by exact old) ?_))
  refine zw sdc (z0C (l := [(0, .int .i8 (c.getD p 0))]) (v := .agg (i8 (z1P (c.getD p 0) [])).toArray) (by simp [zQ, ASt.ev, zb]) krf) ?_;refine zo .next (zV (l := i8 (z1P 0 [])) xrf) sdc ?_;intro σ4 hv x4;obtain ⟨B, hBn⟩ : ∃ B, σ.nx = B := ⟨_, rfl⟩;rw [hBn] at hv ⊢;clear hBn;replace h := h.keep x4 (by simp) (by simp) (by simp) (by simp);replace hc1 := hc1;refine zO (vs := i8 (z1P (c.getD p 0) [])) hv xrf rfl rfl (z3Z _) evd evd ?_;intro σ5 hv5 x5;replace h := h.keep x5 (by simp) (by simp) (by simp) (by simp);clear hv cp hc1 x4 x5;refine z0n ?_
  (change Trip _ _ _ _ _)
  refine zgJ ?_;refine zG (fun (i : Nat) s => ∃ tm σ, s = ⟨tm, n, σ.H, σ.nx⟩ ∧ tm 2 = .pointer (some ⟨nx, 0, none⟩) ∧ tm 4 = .pointer (some ⟨R, 0, none⟩) ∧ tm 5 = .pointer (some ⟨A, 0, none⟩) ∧ tm 6 = .map (some M) ∧ tm 13 = .slice (some q1) rows.length rk ∧ tm 14 = .int .i64 rows.length ∧ tm 15 = .int .i64 p ∧ tm 7 = .int .i64 p ∧ tm 9 = .pointer (some ⟨B, 0, none⟩) ∧ tm 24 = .slice sb row.length sk ∧ tm 25 = .int .i64 row.length ∧ tm 26 = .int .i64 i ∧ i ≤ row.length ∧ PtS ⟨nx + 1, fun _ => .old, G⟩ σ R A M N.1 N.2 ∧ ObC .next σ B (.cells (i8 (z1P (c.getD p 0) ((row.take i).map fun q => c.getD q.toNat 0))) 0 none false (some 87))) (fun i => row.length - i) 0 ?_ ?_
  ·exact ⟨_, σ5, rfl, stp, stp, stp, stp, stp, stp, stp, stp, stp, stp, stp, stp, Nat.zero_le _, h, hv5⟩
  clear h hv5 t2 t4 t5 t6 t13 t14 t15;rintro i s ⟨tm, σ, rfl, t2, t4, t5, t6, t13, t14, t15, t7, t9, t24, t25, t26, hi, h, hB⟩
  repeat (first | (refine zc (by first | exact omv | exact z24) ?_) | (refine Trip.seq ?_) | (refine zd ?_) | (refine Trip.block ?_) | (refine zJ (fun _ => ?_) (fun _ => ?_)) | (refine Trip.skip ?_; (change Trip _ _ _ _ _)) | (refine OpsL.nil ?_; (change Trip _ _ _ _ _)))
  ·have hlt2 : i < row.length := by omega
   obtain ⟨q2, rfl, hc2⟩ := hrw.atI (show (0 : Int) ≤ i by omega) (show (i : Int) < row.length by omega);rw [Int.toNat_natCast] at hc2;replace hc2 := zI h.old.ext okG hc2;have hQ := hin1 _ (zM hlt2)
   have hsn2 : (row.take (i + 1)).map (fun q => c.getD q.toNat 0) = (row.take i).map (fun q => c.getD q.toNat 0) ++ [c.getD (row.getD i 0).toNat 0] := by
    rw [List.take_succ_eq_append_getElem hlt2, List.map_append, List.getD_eq_getElem?_getD (l := row), List.getElem?_eq_getElem hlt2]; rfl
   have hml : ((row.take i).map fun q => c.getD q.toNat 0).length = i + 0 := by simp; omega
   obtain ⟨Q, hQe⟩ : ∃ Q, row.getD i 0 = Q := ⟨_, rfl⟩;rw [hQe] at hc2 hQ hsn2;clear hQe
   have cq : zf σ.H ⟨nx, 0 + Q.toNat * 1, none⟩ (.int .i8 (c.getD Q.toNat 0)) := by
    rw [Nat.mul_one, Nat.zero_add];refine z0c (by rw [(h.old.2 nx (Nat.lt_succ_self _)).2]; exact hb) ?_;exact zac (by omega) hc
   have hset := zbr (x := c.getD p 0) (y := c.getD Q.toNat 0) (l := (row.take i).map fun q => c.getD q.toNat 0) (i := i) hml (by omega);rw [← hsn2] at hset;clear hml hsn2;have hvl : (i8 (z1P (c.getD p 0) ((row.take i).map fun q => c.getD q.toNat 0))).length = 61 + 0 := by unfold i8; rw [List.length_map, z8R _ (by simp; omega)]
   have hvl2 : 1 + i < (i8 (z1P (c.getD p 0) ((row.take i).map fun q => c.getD q.toNat 0))).length := by omega
   clear hvl
   repeat (first | (refine zc (by first | exact omv | exact z1j | exact old | exact z09 | exact z6e) ?_) | (refine zd ?_) | (refine OpsL.nil ?_; (change Trip _ _ _ _ _)))
   refine zw sdc (z0A (sz := 1) evr evr xrf xrf (by omega) (by omega)) ?_
   repeat (first | (refine zc (by exact old) ?_))
   refine zw sdc (z0A (sz := 1) evr evr xrf xrf (by omega) (by omega)) ?_;refine zP (k := 1 + i) (v := .int .i8 (c.getD Q.toNat 0)) (cs' := i8 (z1P (c.getD p 0) ((row.take (i + 1)).map fun q => c.getD q.toNat 0))) hB hvl2 hset xrf rfl rfl evr evd (by show (⟨B, 0 + (1 + (i : Int)).toNat * 1, none⟩ : Addr) = _; congr 1; omega) ?_;intro τ hB2 xt _;replace h := h.keep xt (by simp) (by simp) (by simp) (by simp);clear cq hc2 hset hvl2;refine z0n ?_;refine zen ?_;exact ⟨i + 1, ⟨_, τ, rfl, stp, stp, stp, stp, stp, stp, stp, stp, stp, stp, stp, stp, by omega, h, hB2⟩, by omega⟩
  ·have hi2 : i = row.length := by omega
   subst hi2;rw [List.take_length] at hB;have hvl : (z1P (c.getD p 0) (row.map fun q => c.getD q.toNat 0)).length = 61 := z8R _ (by simpa using hrl1);have hall : z1f σ.H ⟨B, 0, none⟩ 61 = some (i8 (z1P (c.getD p 0) (row.map fun q => c.getD q.toNat 0))) := z0d hB.2.2 (by unfold i8; rw [List.length_map, hvl]);obtain ⟨key, hkey⟩ : ∃ key, z1P (c.getD p 0) (row.map fun q => c.getD q.toNat 0) = key := ⟨_, rfl⟩;rw [hkey] at hall hvl hsS;clear hkey hB;obtain ⟨hvl2⟩ : PLift (key.length = 61) := ⟨hvl⟩;have hkl2 : N.1.length ≤ 100 := by omega
   repeat (first | (refine zc (by exact omv) ?_) | (refine zd ?_) | (refine Trip.exit ?_; ((repeat (refine zD ?_)); change Trip _ _ _ _ _)))
   refine zw sdc (zy (k := 61) evd xrf rfl xrf hall) ?_;refine OpsL.c2 (hf := z4T) (hc := (zci W0 h.t3 h.t1 hvl hkl2)) (h := ?_);rintro v nx1 H1 ⟨rfl, hle, hs, ht⟩;obtain ⟨σ6, rfl, rfl, h⟩ := h.tab hle hs ht;clear hall hle hs ht hvl hvl2;refine zw sdc (z0A (sz := 1) evr evr xrf xrf (by omega) (by omega)) ?_;refine zP (k := p) (v := .int .i8 (N.1.idxOf key)) (cs' := c60 (N.2 ++ [(N.1.idxOf key : Int)])) h.a (by rw [z0l (by omega)]; omega) (z86 hnl (by omega)) xrf rfl rfl evr evd (by show (⟨A, 0 + (p : Int).toNat * 1, none⟩ : Addr) = _; congr 1; omega) ?_;intro τ hA xt _;replace h := h.setA xt hA;refine z0n ?_;refine zen ?_;exact ⟨p + 1, ⟨_, τ, rfl, stp, stp, stp, stp, stp, stp, stp, by omega, by unfold z2U; rw [hsS, za7]; exact h⟩, by omega⟩
 ·have hp2 : p = rows.length := by omega
  subst hp2;obtain ⟨cs, hcs, hR⟩ := h.r;have hnl : (z2U ((List.range rows.length).map fun p => z1Q c (rows.getD p []) p)).length ≤ 60 := by unfold z2U; rw [z42]; simpa using hl
  have hall : z1f σ.H ⟨A, 0, none⟩ 60 = some (c60 (z2U ((List.range rows.length).map fun p => z1Q c (rows.getD p []) p))) := z0d h.a.2.2 (z0l hnl);refine zeG ?_;refine zw sdc (zy (k := 60) evd xrf rfl xrf hall) ?_;refine zO (vs := c60 (z2U ((List.range rows.length).map fun p => z1Q c (rows.getD p []) p))) hR xrf (z0l hnl) (by rw [hcs, z0l hnl]) (z3Z _) evd evd ?_;intro τ ho hx;refine z0n ?_
  (change Trip _ _ _ _ _)
  refine Trip.ret ?_;exact ⟨.inr rfl, _, z50 stp (z2n xrf rfl xrf (z0d ho.2.2 (z0l hnl))), rfl, x0.trans (h.old.keep hx (by simp)).ext⟩
end Go.Proofs.Ytjgbcpagfghfnaa
namespace Go.Proofs.Ytjgbcpagfghfnaa
open Go.Am Go.RowKit
attribute [local irreducible] aop OpsL Trip zt z1X z1E OpsR OpsQ
theorem z70 : Am.z1G Try.prog 50 := ⟨Try.f50, Try.func50, by kernel_rfl, by kernel_rfl⟩
set_option maxRecDepth 20000 in
set_option maxHeartbeats 16000000 in
theorem zey (W0 : World) {nx : Nat} {H : Heap} {m : Mo} {V : MoV} (hm : MoIn H m V) (hmod : ModOk m) :
  ACalls Try.prog W0 50 [.agg (moV m V).toArray] nx H fun v nx' H' => v = .agg (c60 (z2A m)).toArray ∧ Ext nx H nx' H' := by
 refine zg (fn := Try.f50) (c := _) Try.func50 rfl (fun tm n hn0 htm => ?_);have e0 : tm 0 = .agg (moV m V).toArray := htm 0;clear htm;replace hn0 : n = 33 := hn0;refine Trip.ok fun hok => ?_;replace hok : ∀ id o, H id = some o → id < nx := hok;refine z2k ?_;refine zY hm hok ?_ evd sdc;intro G x0 okG hb hG;clear e0;have hn60 := hmod.n.2;obtain ⟨oa, oc, ov⟩ := hG.of.slice;have oh := hG.of;obtain ⟨fa, fc, fv⟩ := hG.final.slice;have fh := hG.final;rw [ov] at oh;rw [fv] at fh;refine zo (σ := ⟨nx + 1, fun _ => .old, G⟩) .tmp (zV (l := c60 []) xrf) sdc ?_;intro σ1 hR x1;have ho1 := OldC.keep x1 (by simp) OldC.refl;obtain ⟨R, hRn⟩ : ∃ R, (CH.nx ⟨nx + 1, fun _ => .old, G⟩) = R := ⟨_, rfl⟩;rw [hRn] at hR ⊢;clear hRn x1;refine z0n ?_
 (change Trip _ _ _ _ _)
 refine z2k ?_;refine zo .self (zV (l := c60 []) xrf) sdc ?_;intro σ2 hA x2;have ho2 := ho1.keep x2 (by simp);replace hR := hR.keep x2 (by simp);obtain ⟨A, hAn⟩ : ∃ A, σ1.nx = A := ⟨_, rfl⟩;rw [hAn] at hA ⊢;clear hAn x2 ho1;refine z0n ?_
 (change Trip _ _ _ _ _)
 refine z2k ?_;refine zo .table z5q sdc ?_;intro σ3 hM x3;have ho3 := ho2.keep x3 (by simp);replace hR := hR.keep x3 (by simp);replace hA := hA.keep x3 (by simp);obtain ⟨M, hMn⟩ : ∃ M, σ2.nx = M := ⟨_, rfl⟩;rw [hMn] at hM ⊢;clear hMn x3 ho2;have hP : PtS ⟨nx + 1, fun _ => .old, G⟩ σ3 R A M [] [] := ⟨ho3, ⟨_, rfl, hR⟩, hA, hM.1, hM.2.1, fun _ h => by simp at h, [], 0, hM.2.2⟩;have g2 := (hb.ext ho3.ext okG).c2;rw [ov] at g2;clear ho3 hR hA hM;refine zgU ?_;clear g2;refine zG (fun (p : Nat) s => ∃ tm σ, s = ⟨tm, n, σ.H, σ.nx⟩ ∧ tm 1 = .pointer (some ⟨nx, 0, none⟩) ∧ tm 2 = .pointer (some ⟨R, 0, none⟩) ∧ tm 3 = .pointer (some ⟨A, 0, none⟩) ∧ tm 4 = .map (some M) ∧ tm 10 = .slice oa m.of.length oc ∧ tm 11 = .int .i64 m.of.length ∧ tm 12 = .int .i64 p ∧ p ≤ m.of.length ∧ PtS ⟨nx + 1, fun _ => .old, G⟩ σ R A M (z2z ((List.range p).map (z17 m))).1 (z2U ((List.range p).map (z17 m)))) (fun p => m.of.length - p) 0 ?_ ?_
 ·exact ⟨_, σ3, rfl, stp, stp, stp, stp, stp, stp, stp, Nat.zero_le _, hP⟩
 clear hP;rintro p s ⟨tm, σ, rfl, t1, t2, t3, t4, t10, t11, t12, hp, h⟩
 repeat (first | (refine zc (by first | exact omv | exact z24) ?_) | (refine Trip.seq ?_) | (refine zd ?_) | (refine Trip.block ?_) | (refine zJ (fun _ => ?_) (fun _ => ?_)) | (refine Trip.skip ?_; (change Trip _ _ _ _ _)) | (refine OpsL.nil ?_; (change Trip _ _ _ _ _)))
 ·have hlt : p < m.of.length := by omega
  obtain ⟨q1, rfl, hc1⟩ := IntsAt.atI oh (show (0 : Int) ≤ p by omega) (show (p : Int) < m.of.length by omega);rw [Int.toNat_natCast] at hc1;replace hc1 := zI h.old.ext okG hc1;have hfl := Nat.le_of_eq hmod.fl.symm;obtain ⟨q2, rfl, hc2⟩ := BoolsAt.atI fh (show (0 : Int) ≤ p by omega) (show (p : Int) < m.final.length by omega);rw [Int.toNat_natCast] at hc2;have g4 := (hb.ext h.old.ext okG).c4;rw [fv] at g4;have hof := hmod.of p hlt;have hk := hmod.k.2;have hsn : (List.range (p + 1)).map (z17 m) = (List.range p).map (z17 m) ++ [z17 m p] := by rw [List.range_succ, List.map_append]; rfl
  have hnl : (z2U ((List.range p).map (z17 m))).length = p := by unfold z2U; rw [z42]; simp
  have hkl : (z2z ((List.range p).map (z17 m))).1.length ≤ p := by have := z82 ((List.range p).map (z17 m)); simpa using this
  have hsS := z1H ((List.range p).map (z17 m)) (z17 m p);rw [← hsn] at hsS;unfold z2U at hnl h;clear hsn;obtain ⟨N, hN⟩ : ∃ N, z2z ((List.range p).map (z17 m)) = N := ⟨_, rfl⟩;rw [hN] at hnl hkl hsS h;clear hN;have hw : IntKind.i8.wrap (m.of.getD p 0) = m.of.getD p 0 := zcv _ (by omega);refine zfq ?_;refine zw sdc (z89 evr xrf xrf) ?_;rw [hw];clear hw;refine zw sdc (z0C (l := [(0, .int .i8 (m.of.getD p 0))]) (v := .agg (i8 (z1P (m.of.getD p 0) [])).toArray) (by simp [zQ, ASt.ev, zb]) krf) ?_;refine zo .next (zV (l := i8 (z1P 0 [])) xrf) sdc ?_;intro σ4 hv x4;obtain ⟨B, hBn⟩ : ∃ B, σ.nx = B := ⟨_, rfl⟩;rw [hBn] at hv ⊢;clear hBn;replace h := h.keep x4 (by simp) (by simp) (by simp) (by simp);refine zO (vs := i8 (z1P (m.of.getD p 0) [])) hv xrf rfl rfl (z3Z _) evd evd ?_;intro σ5 hv5 x5;replace h := h.keep x5 (by simp) (by simp) (by simp) (by simp);clear hv hc1 x4 x5;replace hc2 := zI h.old.ext okG hc2;have g4 := (hb.ext h.old.ext okG).c4;rw [fv] at g4;refine z0n ?_
  (change Trip _ _ _ _ _)
  obtain ⟨fb, hfb⟩ : ∃ b, m.final.getD p false = b := ⟨_, rfl⟩;rw [hfb] at hc2
  repeat (first | (refine zc (by first | exact ofa | exact old | exact omv | exact z1j) ?_) | (refine Trip.seq ?_) | (refine zd ?_) | (refine OpsL.nil ?_; (change Trip _ _ _ _ _)))
  clear hc2 g4;cases fb
  ·refine z2d ?_
   repeat (first | (refine zc (by exact omv) ?_) | (refine zd ?_) | (refine Trip.skip ?_; (change Trip _ _ _ _ _)))
   have hvl : (z1P (m.of.getD p 0) [0]).length = 61 := rfl;have hall : z1f σ5.H ⟨B, 0, none⟩ 61 = some (i8 (z1P (m.of.getD p 0) [0])) := z0d hv5.2.2 rfl;have hkl2 : N.1.length ≤ 100 := by omega
   have hkey : z17 m p = z1P (m.of.getD p 0) [0] := by simp only [z17, hfb]; rfl
   rw [hkey] at hsS;clear hkey;refine zw sdc (zy (k := 61) evd xrf rfl xrf hall) ?_;refine OpsL.c2 (hf := z4T) (hc := (zci W0 h.t3 h.t1 hvl hkl2)) (h := ?_);rintro v nx1 H1 ⟨rfl, hle, hs, ht⟩;obtain ⟨σ6, rfl, rfl, h⟩ := h.tab hle hs ht;clear hall hle hs ht hvl;refine zw sdc (z0A (sz := 1) evr evr xrf xrf (by omega) (by omega)) ?_;refine zP (k := p) (v := .int .i8 (N.1.idxOf (z1P (m.of.getD p 0) [0]))) (cs' := c60 (N.2 ++ [(N.1.idxOf (z1P (m.of.getD p 0) [0]) : Int)])) h.a (by rw [z0l (by omega)]; omega) (z86 hnl (by omega)) xrf rfl rfl evr evd (by show (⟨A, 0 + (p : Int).toNat * 1, none⟩ : Addr) = _; congr 1; omega) ?_;intro τ hA xt _;replace h := h.setA xt hA;refine z0n ?_;refine zen ?_;exact ⟨p + 1, ⟨_, τ, rfl, stp, stp, stp, stp, stp, stp, stp, by omega, by unfold z2U; rw [hsS, za7]; exact h⟩, by omega⟩
  ·refine z07 ?_;refine zd ?_;refine zw sdc (z0A (sz := 1) evr evr xrf xrf (by omega) (by omega)) ?_;refine zP (k := 1) (v := .int .i8 1) (cs' := i8 (z1P (m.of.getD p 0) [1])) hv5 (by show 1 < 61; omega) rfl xrf rfl rfl evr (by rfl) rfl ?_;intro σ7 hv7 x7 _;replace h := h.keep x7 (by simp) (by simp) (by simp) (by simp);clear hv5;refine z0n ?_
   (change Trip _ _ _ _ _)
   refine zfl ?_;have hvl : (z1P (m.of.getD p 0) [1]).length = 61 := rfl;have hall : z1f σ7.H ⟨B, 0, none⟩ 61 = some (i8 (z1P (m.of.getD p 0) [1])) := z0d hv7.2.2 rfl;have hkl2 : N.1.length ≤ 100 := by omega
   have hkey : z17 m p = z1P (m.of.getD p 0) [1] := by simp only [z17, hfb]; rfl
   rw [hkey] at hsS;clear hkey;refine zw sdc (zy (k := 61) evd xrf rfl xrf hall) ?_;refine OpsL.c2 (hf := z4T) (hc := (zci W0 h.t3 h.t1 hvl hkl2)) (h := ?_);rintro v nx1 H1 ⟨rfl, hle, hs, ht⟩;obtain ⟨σ6, rfl, rfl, h⟩ := h.tab hle hs ht;clear hall hle hs ht hvl;refine zw sdc (z0A (sz := 1) evr evr xrf xrf (by omega) (by omega)) ?_;refine zP (k := p) (v := .int .i8 (N.1.idxOf (z1P (m.of.getD p 0) [1]))) (cs' := c60 (N.2 ++ [(N.1.idxOf (z1P (m.of.getD p 0) [1]) : Int)])) h.a (by rw [z0l (by omega)]; omega) (z86 hnl (by omega)) xrf rfl rfl evr evd (by show (⟨A, 0 + (p : Int).toNat * 1, none⟩ : Addr) = _; congr 1; omega) ?_;intro τ hA xt _;replace h := h.setA xt hA;refine z0n ?_;refine zen ?_;exact ⟨p + 1, ⟨_, τ, rfl, stp, stp, stp, stp, stp, stp, stp, by omega, by unfold z2U; rw [hsS, za7]; exact h⟩, by omega⟩
 ·have hp2 : p = m.of.length := by omega
  subst hp2;obtain ⟨cs, hcs, hR⟩ := h.r;have hnl : (z2U ((List.range m.of.length).map (z17 m))).length ≤ 60 := by unfold z2U; rw [z42]; simpa using hn60
  have hall : z1f σ.H ⟨A, 0, none⟩ 60 = some (c60 (z2U ((List.range m.of.length).map (z17 m)))) := z0d h.a.2.2 (z0l hnl);refine zeG ?_;refine zw sdc (zy (k := 60) evd xrf rfl xrf hall) ?_;refine zO (vs := c60 (z2U ((List.range m.of.length).map (z17 m)))) hR xrf (z0l hnl) (by rw [hcs, z0l hnl]) (z3Z _) evd evd ?_;intro τ ho hx;refine z0n ?_
  (change Trip _ _ _ _ _)
  refine Trip.ret ?_;exact ⟨.inr rfl, _, z50 stp (z2n xrf rfl xrf (z0d ho.2.2 (z0l hnl))), rfl, x0.trans (h.old.keep hx (by simp)).ext⟩
theorem z74 : Am.z1G Try.prog 42 := ⟨Try.f42, Try.func42, by kernel_rfl, by kernel_rfl⟩
set_option maxRecDepth 20000 in
set_option maxHeartbeats 16000000 in
theorem zdQ (W0 : World) {nx : Nat} {H : Heap} {c : List Int} (hk : c.length ≤ 60) (hcb : ∀ x ∈ c, 0 ≤ x ∧ x ≤ 100) :
  ACalls Try.prog W0 42 [.agg (c60 c).toArray, .int .i64 c.length] nx H fun v nx' H' => NewP 3 nx nx' H' v (c.map (.int .i64 ·)) ∧ Ext nx H nx' H' := by
 refine zg (fn := Try.f42) (c := _) Try.func42 rfl (fun tm n hn0 htm => ?_);have e0 : tm 0 = .agg (c60 c).toArray := htm 0;have e1 : tm 1 = .int .i64 c.length := htm 1;clear htm;replace hn0 : n = 23 := hn0;refine Trip.ok fun hok => ?_;replace hok : ∀ id o, H id = some o → id < nx := hok;refine z2k ?_;refine OpsL.new sdc (z5C (v := .agg (c60 c).toArray) evd) ?_;obtain ⟨G, hG⟩ : ∃ G, (H.put nx (.cells (c60 c) 0 none false (some 72))) = G := ⟨_, rfl⟩;have hb : G nx = some (.cells (c60 c) 0 none false (some 72)) := by rw [← hG]; exact zu
 have x0 : Ext nx H (nx + 1) G := by rw [← hG]; exact z0p
 change OpsL _ _ _ _ ⟨_, _, H.put nx (.cells (c60 c) 0 none false (some 72)), _⟩ _;rw [hG];clear hG e0
 repeat (first | (refine zc (by first | exact z09 | exact omv) ?_) | (refine Trip.seq ?_) | (refine zd ?_) | (refine OpsL.nil ?_; (change Trip _ _ _ _ _)))
 refine OpsL.new sdc (z0m evd evd (z0f (m := c.length) (bytes := 8) (z := .int .i64 0) xrf xrf xrf xrf (by omega) (by omega))) ?_;have hF0 : (G.put (nx + 1) (.cells (List.replicate c.length (.int .i64 0)) 1 none false (some 3))) (nx + 1) = some (.cells ((([] : List Int) ++ List.replicate (c.length - 0) 0).map (.int .i64 ·)) 1 none false (some 3)) := by rw [zu]; simp
 have x1 : Ext (nx + 1) G (nx + 1 + 1) (G.put (nx + 1) (.cells (List.replicate c.length (.int .i64 0)) 1 none false (some 3))) := z0p;refine zgR ?_;refine zG (fun (i : Nat) s => ∃ (tm : Nat → Value) (F : Heap), s = ⟨tm, n, F, nx + 1 + 1⟩ ∧ Ext (nx + 1) G (nx + 1 + 1) F ∧ F (nx + 1) = some (.cells ((c.take i ++ List.replicate (c.length - i) 0).map (.int .i64 ·)) 1 none false (some 3)) ∧ tm 2 = .pointer (some ⟨nx, 0, none⟩) ∧ tm 5 = .slice (some ⟨nx + 1, 0, none⟩) c.length c.length ∧ tm 10 = .int .i64 c.length ∧ tm 11 = .int .i64 i ∧ i ≤ c.length) (fun i => c.length - i) 0 ?_ ?_
 ·exact ⟨_, _, rfl, x1, hF0, stp, stp, stp, stp, by omega⟩
 clear hF0 x1 e1;rintro i s ⟨tm, F, rfl, hx, hF, t2, t5, t10, t11, hi⟩
 repeat (first | (refine zc (by first | exact omv | exact z24) ?_) | (refine Trip.seq ?_) | (refine zd ?_) | (refine Trip.block ?_) | (refine zJ (fun _ => ?_) (fun _ => ?_)) | (refine Trip.skip ?_; (change Trip _ _ _ _ _)) | (refine OpsL.nil ?_; (change Trip _ _ _ _ _)))
 ·have hlt : i < c.length := by omega
  have hci : i < c.length := by omega
  have ci : zf F ⟨nx, 0 + (i : Int).toNat * 1, none⟩ (.int .i8 (c.getD i 0)) := by
   rw [Int.toNat_natCast, Nat.mul_one, Nat.zero_add];refine z0c (by rw [hx.2 nx (by omega)]; exact hb) ?_;exact zac (by omega) (by omega)
  have hsn : c.take (i + 1) = c.take i ++ [c.getD i 0] := by rw [List.take_succ_eq_append_getElem hci, List.getD_eq_getElem?_getD, List.getElem?_eq_getElem hci]; rfl
  have htl : (c.take i).length = i := by rw [List.length_take]; omega
  have hset := z51 (n := c.length) (z := (0 : Int)) (x := c.getD i 0) htl hlt;rw [← hsn] at hset;have hcx := hcb _ (zM hci);have hw : IntKind.i64.wrap (c.getD i 0) = c.getD i 0 := by rw [zaO]; omega
  have hcl : i < ((c.take i ++ List.replicate (c.length - i) 0).map (Value.int .i64 ·)).length := by simp; omega
  clear htl hsn hcx
  repeat (first | (refine zc (by first | exact omv | exact z09) ?_) | (refine zd ?_) | (refine OpsL.nil ?_; (change Trip _ _ _ _ _)))
  refine zw sdc (z0A (sz := 1) evr evr xrf xrf (by omega) (by omega)) ?_
  repeat (first | (refine zc (by exact old) ?_))
  refine zw sdc (z89 evr xrf xrf) ?_;rw [hw];clear hw ci;refine zbl ?_;refine OpsL.storeAt (a := ⟨nx + 1, 0 + (i : Int).toNat * 1, none⟩) (v := .int .i64 (c.getD i 0)) (cs' := (c.take (i + 1) ++ List.replicate (c.length - (i + 1)) 0).map (.int .i64 ·)) i evr evd xrf rfl rfl hF (by simp) hcl (by rw [z3A, hset]) ?_;refine zeo ?_;exact ⟨i + 1, ⟨_, _, rfl, ⟨hx.1, fun j hj => by rw [zj (by omega)]; exact hx.2 j hj⟩, zu, stp, stp, stp, stp, by omega⟩, by omega⟩
 ·have hi2 : i = c.length := by omega
  subst hi2;refine zdu ?_;rw [List.take_length, Nat.sub_self, List.replicate_zero, List.append_nil] at hF;exact ⟨.inr rfl, _, zn, ⟨nx + 1, by omega, by omega, stp, hF⟩, x0.trans hx⟩
end Go.Proofs.Ytjgbcpagfghfnaa
