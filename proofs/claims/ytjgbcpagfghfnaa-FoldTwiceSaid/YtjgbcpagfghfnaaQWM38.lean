import Derived.Test.YtjgbcpagfghfnaaQWM37
import Derived.Test.YtjgbcpagfghfnaaQWM16
set_option linter.unusedVariables false
set_option linter.unusedSimpArgs false
set_option linter.unnecessarySimpa false
namespace Go.Am
open Go.RowKit
theorem aop_indexAddr13 {P : Program} {nx : Nat} {H : Heap} {ev : Operand → Option Value} {dst : Option Tmp} {type : TypeId} {pos : String} {after : Array Edge} {guard : Option (Nat × Bool)} {t e : TypeId} {x i : Operand} {a : Addr} {len sz : Nat} {k : IntKind} {j : Int} (hx : ev x = some (.pointer (some a))) (hi : ev i = some (.int k j)) (hu : P.underlying t = some (.array len e)) (hs : szOf P e = some sz) (h0 : 0 ≤ j) (h1 : j < len) :
    aop P H nx ev ⟨dst, .indexAddr t x i, type, pos, after, guard⟩ = some (.pointer (some ⟨a.block, a.off + j.toNat * sz, a.spot⟩), .none) := by
  simp [aop, aIndexAddr, hx, hi, hu, hs, h0, h1]
theorem num1_li (N : List (List Int) × List Int) (key : List Int) : num1 N key = (if key ∈ N.1 then N.1 else N.1 ++ [key], N.2 ++ [(N.1.idxOf key : Int)]) := by
  have hb : (instBEqOfDecidableEq : BEq (List Int)) = (List.instBEq : BEq (List Int)) := by
    have h : ∀ a b : List Int, (@BEq.beq _ instBEqOfDecidableEq a b) = (@BEq.beq _ List.instBEq a b) := fun a b => by
      rw [Bool.eq_iff_iff]
      simp
    cases h1 : (instBEqOfDecidableEq : BEq (List Int)) with
    | mk f =>
      cases h2 : (List.instBEq : BEq (List Int)) with
      | mk g =>
        congr 1
        funext a b
        have := h a b
        rw [h1, h2] at this
        exact this
  unfold num1
  rw [Prod.mk.injEq]
  refine ⟨by split <;> simp_all, ?_⟩
  have : @List.idxOf _ instBEqOfDecidableEq key N.1 = @List.idxOf _ List.instBEq key N.1 := by rw [hb]
  exact congrArg (fun i : Nat => N.2 ++ [(i : Int)]) this
def c60 (l : List Int) : List Value := i8 (l ++ List.replicate (60 - l.length) 0)
theorem c60_len {l : List Int} (h : l.length ≤ 60) : (c60 l).length = 60 := by simp [c60, i8]; omega
theorem i8_set (l : List Int) (i : Nat) (x : Int) : (i8 l).set i (.int .i8 x) = i8 (l.set i x) := by unfold i8; rw [List.map_set]
theorem c60_snoc {l : List Int} {i : Nat} {x : Int} (hl : l.length = i) (h : i < 60) : (c60 l).set i (.int .i8 x) = c60 (l ++ [x]) := by
  unfold c60
  rw [i8_set, hl, rep_snoc hl h]
  simp [hl]
theorem c60_get {l : List Int} {i : Nat} (h : i < 60) (hl : l.length ≤ 60) : (c60 l)[i]? = some (.int .i8 (l.getD i 0)) := by
  unfold c60 i8
  rw [List.getElem?_map]
  by_cases hi : i < l.length
  · rw [List.getElem?_append_left hi, List.getElem?_eq_getElem hi, List.getD_eq_getElem?_getD, List.getElem?_eq_getElem hi]; rfl
  · rw [List.getElem?_append_right (by omega), List.getElem?_replicate, if_pos (by omega), List.getD_eq_getElem?_getD, List.getElem?_eq_none (by omega)]; rfl
theorem i8_one (l : List Int) : (i8 l).all (·.oneCell') = true := by
  unfold i8
  rw [List.all_map, List.all_eq_true]
  intro x _
  rfl
def view0 (x : Int) (l : List Int) : List Int := x :: l ++ List.replicate (60 - l.length) 0
theorem view0_len (x : Int) {l : List Int} (h : l.length ≤ 60) : (view0 x l).length = 61 := by simp [view0]; omega
theorem view0_snoc {x y : Int} {l : List Int} {i : Nat} (hl : l.length = i) (h : i < 60) : (i8 (view0 x l)).set (1 + i) (.int .i8 y) = i8 (view0 x (l ++ [y])) := by
  rw [i8_set]
  unfold view0
  rw [hl, show 1 + i = i + 1 by omega, List.cons_append, List.set_cons_succ, rep_snoc hl h]
  simp [hl]
theorem Chg.ofTab {σ : CH} {nx' mt : Nat} {H' : Heap} (hC : σ.C mt = .table) (hle : σ.nx ≤ nx') (h : ∀ i, i < σ.nx → i ≠ mt → H' i = σ.H i) : ∃ τ : CH, nx' = τ.nx ∧ H' = τ.H ∧ Chg [.table] σ τ := by
  refine ⟨⟨nx', fun i => if i < σ.nx then σ.C i else .entry, H'⟩, rfl, rfl, hle, fun i hi => ⟨if_pos hi, fun hn => h i hi fun e => ?_⟩⟩
  subst e
  rw [hC] at hn
  exact hn (List.mem_singleton.2 rfl)
end Go.Am
namespace Go.Proofs.Ytjgbcpagfghfnaa
open Go.Am Go.RowKit
structure PtS (σ0 σ : CH) (R A M : Nat) (K : List (List Int)) (out : List Int) : Prop where
  old : OldC σ0 σ
  r : ∃ cs, cs.length = 60 ∧ ObC .tmp σ R (.cells cs 0 none false (some 72))
  a : ObC .self σ A (.cells (c60 out) 0 none false (some 72))
  t1 : M < σ.nx
  t2 : σ.C M = .table
  t3 : TabAt σ.H M K
theorem PtS.keep {S : List Co} {σ0 σ τ : CH} {R A M : Nat} {K : List (List Int)} {out : List Int} (hc : Chg S σ τ) (h1 : Co.old ∉ S) (h2 : Co.tmp ∉ S) (h3 : Co.self ∉ S) (h4 : Co.table ∉ S) (h : PtS σ0 σ R A M K out) : PtS σ0 τ R A M K out :=
  ⟨h.old.keep hc h1, by obtain ⟨cs, q1, q2⟩ := h.r; exact ⟨cs, q1, q2.keep hc h2⟩, h.a.keep hc h3, Nat.lt_of_lt_of_le h.t1 hc.1, (hc.hue h.t1).trans h.t2, by
    obtain ⟨q, bs, clk, hm⟩ := h.t3
    exact ⟨q, bs, clk, (hc.same h4 h.t1 h.t2).trans hm⟩⟩
theorem PtS.tab {σ0 σ : CH} {R A M nx' : Nat} {H' : Heap} {K K' : List (List Int)} {out : List Int} (h : PtS σ0 σ R A M K out) (hle : σ.nx ≤ nx') (hs : ∀ i, i < σ.nx → i ≠ M → H' i = σ.H i) (ht : TabAt H' M K') : ∃ τ : CH, nx' = τ.nx ∧ H' = τ.H ∧ PtS σ0 τ R A M K' out := by
  obtain ⟨τ, rfl, rfl, hc⟩ := Chg.ofTab h.t2 hle hs
  exact ⟨τ, rfl, rfl, h.old.keep hc (by simp), by obtain ⟨cs, q1, q2⟩ := h.r; exact ⟨cs, q1, q2.keep hc (by simp)⟩, h.a.keep hc (by simp), Nat.lt_of_lt_of_le h.t1 hc.1, (hc.hue h.t1).trans h.t2, ht⟩
theorem PtS.setA {σ0 σ τ : CH} {R A M : Nat} {K : List (List Int)} {out out' : List Int} (h : PtS σ0 σ R A M K out) (hc : Chg [.self] σ τ) (ha : ObC .self τ A (.cells (c60 out') 0 none false (some 72))) : PtS σ0 τ R A M K out' :=
  ⟨h.old.keep hc (by simp), by obtain ⟨cs, q1, q2⟩ := h.r; exact ⟨cs, q1, q2.keep hc (by simp)⟩, ha, Nat.lt_of_lt_of_le h.t1 hc.1, (hc.hue h.t1).trans h.t2, by
    obtain ⟨q, bs, clk, hm⟩ := h.t3
    exact ⟨q, bs, clk, (hc.same (by simp) h.t1 h.t2).trans hm⟩⟩
attribute [local irreducible] aop OpsL Trip blockExit OpsD OpsK OpsR OpsQ
theorem entersParted : Am.Enters Try.prog 52 := ⟨Try.f52, Try.func52, by kernel_rfl, by kernel_rfl⟩
set_option maxRecDepth 20000 in
set_option maxHeartbeats 16000000 in
theorem partedC (W0 : World) {nx : Nat} {H : Heap} {rv : Value} {c : List Int} {rows : List (List Int)} (hr : L2At H rv rows) (hc : c.length ≤ 60) (hl : rows.length ≤ 60) (hrl : ∀ i, (rows.getD i []).length ≤ 60) (hin : ∀ i, ∀ q ∈ rows.getD i [], 0 ≤ q ∧ q < 60) :
    ACalls Try.prog W0 52 [.agg (c60 c).toArray, rv] nx H fun v nx' H' => v = .agg (c60 (partedL c rows)).toArray ∧ Ext nx H nx' H' := by
  refine ACalls.by_trip (fn := Try.f52) (c := _) Try.func52 rfl (fun tm n hn0 htm => ?_)
  have e0 : tm 0 = .agg (c60 c).toArray := htm 0
  have e1 : tm 1 = rv := htm 1
  clear htm
  replace hn0 : n = 45 := hn0
  refine Trip.ok fun hok => ?_
  replace hok : ∀ id o, H id = some o → id < nx := hok
  obtain ⟨ra, rk, rfl⟩ := L2At.slice hr
  refine Trip.seq ?_
  refine Trip.ops ?_
  refine OpsL.new (by subst_vars; decide) (aop_box (v := .agg (c60 c).toArray) (by (first | (simp only [ASt.ev, tmPut, ↓reduceIte, Nat.reduceEqDiff, *]; done)))) ?_
  obtain ⟨G, hG⟩ : ∃ G, (H.put nx (.cells (c60 c) 0 none false (some 72))) = G := ⟨_, rfl⟩
  have hb : G nx = some (.cells (c60 c) 0 none false (some 72)) := by rw [← hG]; exact Heap.put_eq
  have x0 : Ext nx H (nx + 1) G := by rw [← hG]; exact Ext.newPut
  have okG : ∀ id o, G id = some o → id < nx + 1 := by rw [← hG]; exact ok_new hok
  change OpsL _ _ _ _ ⟨_, _, H.put nx (.cells (c60 c) 0 none false (some 72)), _⟩ _
  rw [hG]
  clear hG e0
  have hrG := hr.ext x0 hok
  refine OpsL.newC (σ := ⟨nx + 1, fun _ => .old, G⟩) .tmp (aop_alloc (l := c60 []) (by exact rfl)) (by subst_vars; decide) ?_
  intro σ1 hR x1
  have ho1 := OldC.keep x1 (by simp) OldC.refl
  obtain ⟨R, hRn⟩ : ∃ R, (CH.nx ⟨nx + 1, fun _ => .old, G⟩) = R := ⟨_, rfl⟩
  rw [hRn] at hR ⊢
  clear hRn x1
  refine OpsL.nil ?_
  (change Trip _ _ _ _ _)
  refine Trip.seq ?_
  refine Trip.ops ?_
  refine OpsL.newC .self (aop_alloc (l := c60 []) (by exact rfl)) (by subst_vars; decide) ?_
  intro σ2 hA x2
  have ho2 := ho1.keep x2 (by simp)
  replace hR := hR.keep x2 (by simp)
  obtain ⟨A, hAn⟩ : ∃ A, σ1.nx = A := ⟨_, rfl⟩
  rw [hAn] at hA ⊢
  clear hAn x2 ho1
  refine OpsL.nil ?_
  (change Trip _ _ _ _ _)
  refine Trip.seq ?_
  refine Trip.ops ?_
  refine OpsL.newC .table aop_makeMap13 (by subst_vars; decide) ?_
  intro σ3 hM x3
  have ho3 := ho2.keep x3 (by simp)
  replace hR := hR.keep x3 (by simp)
  replace hA := hA.keep x3 (by simp)
  obtain ⟨M, hMn⟩ : ∃ M, σ2.nx = M := ⟨_, rfl⟩
  rw [hMn] at hM ⊢
  clear hMn x3 ho2
  have hP : PtS ⟨nx + 1, fun _ => .old, G⟩ σ3 R A M [] [] := ⟨ho3, ⟨_, rfl, hR⟩, hA, hM.1, hM.2.1, fun _ h => by simp at h, [], 0, hM.2.2⟩
  clear ho3 hR hA hM
  repeat (first | (refine OpsL.q (by first | exact oasg | exact omv | exact olen) ?_) | (refine Trip.seq ?_) | (refine Trip.ops ?_) | (refine Trip.block ?_) | (refine OpsL.nil ?_; (change Trip _ _ _ _ _)))
  refine Trip.inv (fun (p : Nat) s => ∃ tm σ, s = ⟨tm, n, σ.H, σ.nx⟩ ∧ tm 2 = .pointer (some ⟨nx, 0, none⟩) ∧ tm 4 = .pointer (some ⟨R, 0, none⟩) ∧ tm 5 = .pointer (some ⟨A, 0, none⟩) ∧ tm 6 = .map (some M) ∧ tm 13 = .slice ra rows.length rk ∧ tm 14 = .int .i64 rows.length ∧ tm 15 = .int .i64 p ∧ p ≤ rows.length ∧ PtS ⟨nx + 1, fun _ => .old, G⟩ σ R A M (numQ ((List.range p).map fun p => partK c (rows.getD p []) p)).1 (numL ((List.range p).map fun p => partK c (rows.getD p []) p))) (fun p => rows.length - p) 0 ?_ ?_
  · exact ⟨_, σ3, rfl, by simp [tmPut, *], by simp [tmPut, *], by simp [tmPut, *], by simp [tmPut, *], by simp [tmPut, *], by simp [tmPut, *], by simp [tmPut, *], Nat.zero_le _, hP⟩
  clear hP e1
  rintro p s ⟨tm, σ, rfl, t2, t4, t5, t6, t13, t14, t15, hp, h⟩
  repeat (first | (refine OpsL.q (by first | exact omv | exact olss) ?_) | (refine Trip.seq ?_) | (refine Trip.ops ?_) | (refine Trip.block ?_) | (refine Trip.itA (fun _ => ?_) (fun _ => ?_)) | (refine Trip.skip ?_; (change Trip _ _ _ _ _)) | (refine OpsL.nil ?_; (change Trip _ _ _ _ _)))
  · have hlt : p < rows.length := by omega
    obtain ⟨q1, sb, sk, rfl, hc1, hrw⟩ := L2At.atI hrG (show (0 : Int) ≤ p by omega) (show (p : Int) < rows.length by omega)
    rw [Int.toNat_natCast] at hc1 hrw
    replace hc1 := cell_ext h.old.ext okG hc1
    have hrl1 := hrl p
    have hin1 := hin p
    have hsn : (List.range (p + 1)).map (fun p => partK c (rows.getD p []) p) = (List.range p).map (fun p => partK c (rows.getD p []) p) ++ [partK c (rows.getD p []) p] := by rw [List.range_succ, List.map_append]; rfl
    have hnl : (numL ((List.range p).map fun p => partK c (rows.getD p []) p)).length = p := by unfold numL; rw [num_len]; simp
    have hkl : (numQ ((List.range p).map fun p => partK c (rows.getD p []) p)).1.length ≤ p := by have := num_keys ((List.range p).map fun p => partK c (rows.getD p []) p); simpa using this
    have hsS := numQ_snoc ((List.range p).map fun p => partK c (rows.getD p []) p) (partK c (rows.getD p []) p)
    rw [← hsn] at hsS
    unfold numL at hnl h
    have hPK : partK c (rows.getD p []) p = view0 (c.getD p 0) ((rows.getD p []).map fun q => c.getD q.toNat 0) := by simp [partK, view0]
    rw [hPK] at hsS
    clear hPK hsn
    obtain ⟨N, hN⟩ : ∃ N, numQ ((List.range p).map fun p => partK c (rows.getD p []) p) = N := ⟨_, rfl⟩
    rw [hN] at hnl hkl hsS h
    clear hN
    obtain ⟨row, hrow⟩ : ∃ row, rows.getD p [] = row := ⟨_, rfl⟩
    rw [hrow] at hc1 hrw hrl1 hin1 hsS
    clear hrow
    have cp : cellAt σ.H ⟨nx, 0 + (p : Int).toNat * 1, none⟩ (.int .i8 (c.getD p 0)) := by
      rw [Int.toNat_natCast, Nat.mul_one, Nat.zero_add]
      refine cell_of (by rw [(h.old.2 nx (Nat.lt_succ_self _)).2]; exact hb) ?_
      exact c60_get (by omega) hc
    repeat (first | (refine OpsL.q (by first | exact omv | exact oixa | exact old | exact oasg) ?_) | (refine Trip.seq ?_) | (refine Trip.ops ?_) | (refine OpsL.nil ?_; (change Trip _ _ _ _ _)))
    refine OpsL.p (by subst_vars; decide) (aop_indexAddr13 (sz := 1) (by (first | (simp only [ASt.ev, tmPut, ↓reduceIte, Nat.reduceEqDiff, *]; rfl))) (by (first | (simp only [ASt.ev, tmPut, ↓reduceIte, Nat.reduceEqDiff, *]; rfl))) (by exact rfl) (by exact rfl) (by omega) (by omega)) ?_
    repeat (first | (refine OpsL.q (by exact old) ?_))
    refine OpsL.p (by subst_vars; decide) (aop_build (l := [(0, .int .i8 (c.getD p 0))]) (v := .agg (i8 (view0 (c.getD p 0) [])).toArray) (by simp [evParts, ASt.ev, tmPut]) (by kernel_rfl)) ?_
    refine OpsL.newC .next (aop_alloc (l := i8 (view0 0 [])) (by exact rfl)) (by subst_vars; decide) ?_
    intro σ4 hv x4
    obtain ⟨B, hBn⟩ : ∃ B, σ.nx = B := ⟨_, rfl⟩
    rw [hBn] at hv ⊢
    clear hBn
    replace h := h.keep x4 (by simp) (by simp) (by simp) (by simp)
    replace hc1 := hc1
    refine OpsL.setAllC (vs := i8 (view0 (c.getD p 0) [])) hv (by exact rfl) rfl rfl (i8_one _) (by (first | (simp only [ASt.ev, tmPut, ↓reduceIte, Nat.reduceEqDiff, *]; done))) (by (first | (simp only [ASt.ev, tmPut, ↓reduceIte, Nat.reduceEqDiff, *]; done))) ?_
    intro σ5 hv5 x5
    replace h := h.keep x5 (by simp) (by simp) (by simp) (by simp)
    clear hv cp hc1 x4 x5
    refine OpsL.nil ?_
    (change Trip _ _ _ _ _)
    repeat (first | (refine OpsL.q (by first | exact omv | exact olen) ?_) | (refine Trip.seq ?_) | (refine Trip.ops ?_) | (refine Trip.block ?_) | (refine OpsL.nil ?_; (change Trip _ _ _ _ _)))
    refine Trip.inv (fun (i : Nat) s => ∃ tm σ, s = ⟨tm, n, σ.H, σ.nx⟩ ∧ tm 2 = .pointer (some ⟨nx, 0, none⟩) ∧ tm 4 = .pointer (some ⟨R, 0, none⟩) ∧ tm 5 = .pointer (some ⟨A, 0, none⟩) ∧ tm 6 = .map (some M) ∧ tm 13 = .slice (some q1) rows.length rk ∧ tm 14 = .int .i64 rows.length ∧ tm 15 = .int .i64 p ∧ tm 7 = .int .i64 p ∧ tm 9 = .pointer (some ⟨B, 0, none⟩) ∧ tm 24 = .slice sb row.length sk ∧ tm 25 = .int .i64 row.length ∧ tm 26 = .int .i64 i ∧ i ≤ row.length ∧ PtS ⟨nx + 1, fun _ => .old, G⟩ σ R A M N.1 N.2 ∧ ObC .next σ B (.cells (i8 (view0 (c.getD p 0) ((row.take i).map fun q => c.getD q.toNat 0))) 0 none false (some 87))) (fun i => row.length - i) 0 ?_ ?_
    · exact ⟨_, σ5, rfl, by simp [tmPut, *], by simp [tmPut, *], by simp [tmPut, *], by simp [tmPut, *], by simp [tmPut, *], by simp [tmPut, *], by simp [tmPut, *], by simp [tmPut, *], by simp [tmPut, *], by simp [tmPut, *], by simp [tmPut, *], by simp [tmPut, *], Nat.zero_le _, h, hv5⟩
    clear h hv5 t2 t4 t5 t6 t13 t14 t15
    rintro i s ⟨tm, σ, rfl, t2, t4, t5, t6, t13, t14, t15, t7, t9, t24, t25, t26, hi, h, hB⟩
    repeat (first | (refine OpsL.q (by first | exact omv | exact olss) ?_) | (refine Trip.seq ?_) | (refine Trip.ops ?_) | (refine Trip.block ?_) | (refine Trip.itA (fun _ => ?_) (fun _ => ?_)) | (refine Trip.skip ?_; (change Trip _ _ _ _ _)) | (refine OpsL.nil ?_; (change Trip _ _ _ _ _)))
    · have hlt2 : i < row.length := by omega
      obtain ⟨q2, rfl, hc2⟩ := hrw.atI (show (0 : Int) ≤ i by omega) (show (i : Int) < row.length by omega)
      rw [Int.toNat_natCast] at hc2
      replace hc2 := cell_ext h.old.ext okG hc2
      have hQ := hin1 _ (getD_memI hlt2)
      have hsn2 : (row.take (i + 1)).map (fun q => c.getD q.toNat 0) = (row.take i).map (fun q => c.getD q.toNat 0) ++ [c.getD (row.getD i 0).toNat 0] := by
        rw [List.take_succ_eq_append_getElem hlt2, List.map_append, List.getD_eq_getElem?_getD (l := row), List.getElem?_eq_getElem hlt2]; rfl
      have hml : ((row.take i).map fun q => c.getD q.toNat 0).length = i + 0 := by simp; omega
      obtain ⟨Q, hQe⟩ : ∃ Q, row.getD i 0 = Q := ⟨_, rfl⟩
      rw [hQe] at hc2 hQ hsn2
      clear hQe
      have cq : cellAt σ.H ⟨nx, 0 + Q.toNat * 1, none⟩ (.int .i8 (c.getD Q.toNat 0)) := by
        rw [Nat.mul_one, Nat.zero_add]
        refine cell_of (by rw [(h.old.2 nx (Nat.lt_succ_self _)).2]; exact hb) ?_
        exact c60_get (by omega) hc
      have hset := view0_snoc (x := c.getD p 0) (y := c.getD Q.toNat 0) (l := (row.take i).map fun q => c.getD q.toNat 0) (i := i) hml (by omega)
      rw [← hsn2] at hset
      clear hml hsn2
      have hvl : (i8 (view0 (c.getD p 0) ((row.take i).map fun q => c.getD q.toNat 0))).length = 61 + 0 := by unfold i8; rw [List.length_map, view0_len _ (by simp; omega)]
      have hvl2 : 1 + i < (i8 (view0 (c.getD p 0) ((row.take i).map fun q => c.getD q.toNat 0))).length := by omega
      clear hvl
      repeat (first | (refine OpsL.q (by first | exact omv | exact oixa | exact old | exact oasg | exact oadd) ?_) | (refine Trip.ops ?_) | (refine OpsL.nil ?_; (change Trip _ _ _ _ _)))
      refine OpsL.p (by subst_vars; decide) (aop_indexAddr13 (sz := 1) (by (first | (simp only [ASt.ev, tmPut, ↓reduceIte, Nat.reduceEqDiff, *]; rfl))) (by (first | (simp only [ASt.ev, tmPut, ↓reduceIte, Nat.reduceEqDiff, *]; rfl))) (by exact rfl) (by exact rfl) (by omega) (by omega)) ?_
      repeat (first | (refine OpsL.q (by exact old) ?_))
      refine OpsL.p (by subst_vars; decide) (aop_indexAddr13 (sz := 1) (by (first | (simp only [ASt.ev, tmPut, ↓reduceIte, Nat.reduceEqDiff, *]; rfl))) (by (first | (simp only [ASt.ev, tmPut, ↓reduceIte, Nat.reduceEqDiff, *]; rfl))) (by exact rfl) (by exact rfl) (by omega) (by omega)) ?_
      refine OpsL.setC (k := 1 + i) (v := .int .i8 (c.getD Q.toNat 0)) (cs' := i8 (view0 (c.getD p 0) ((row.take (i + 1)).map fun q => c.getD q.toNat 0))) hB hvl2 hset (by exact rfl) rfl rfl (by (first | (simp only [ASt.ev, tmPut, ↓reduceIte, Nat.reduceEqDiff, *]; rfl))) (by (first | (simp only [ASt.ev, tmPut, ↓reduceIte, Nat.reduceEqDiff, *]; done))) (by show (⟨B, 0 + (1 + (i : Int)).toNat * 1, none⟩ : Addr) = _; congr 1; omega) ?_
      intro τ hB2 xt _
      replace h := h.keep xt (by simp) (by simp) (by simp) (by simp)
      clear cq hc2 hset hvl2
      refine OpsL.nil ?_
      ((repeat (refine blockExit_normal ?_)); change Trip _ _ _ _ _)
      repeat (first | (refine OpsL.q (by first | exact omv | exact oadd) ?_) | (refine Trip.ops ?_) | (refine OpsL.nil ?_; (dsimp only)))
      exact ⟨i + 1, ⟨_, τ, rfl, by simp [tmPut, *], by simp [tmPut, *], by simp [tmPut, *], by simp [tmPut, *], by simp [tmPut, *], by simp [tmPut, *], by simp [tmPut, *], by simp [tmPut, *], by simp [tmPut, *], by simp [tmPut, *], by simp [tmPut, *], by simp [tmPut, *], by omega, h, hB2⟩, by omega⟩
    · have hi2 : i = row.length := by omega
      subst hi2
      rw [List.take_length] at hB
      have hvl : (view0 (c.getD p 0) (row.map fun q => c.getD q.toNat 0)).length = 61 := view0_len _ (by simpa using hrl1)
      have hall : getc σ.H ⟨B, 0, none⟩ 61 = some (i8 (view0 (c.getD p 0) (row.map fun q => c.getD q.toNat 0))) := getc_all hB.2.2 (by unfold i8; rw [List.length_map, hvl])
      obtain ⟨key, hkey⟩ : ∃ key, view0 (c.getD p 0) (row.map fun q => c.getD q.toNat 0) = key := ⟨_, rfl⟩
      rw [hkey] at hall hvl hsS
      clear hkey hB
      obtain ⟨hvl2⟩ : PLift (key.length = 61) := ⟨hvl⟩
      have hkl2 : N.1.length ≤ 100 := by omega
      repeat (first | (refine OpsL.q (by exact omv) ?_) | (refine Trip.ops ?_) | (refine Trip.exit ?_; ((repeat (refine blockExit_eq ?_)); change Trip _ _ _ _ _)))
      refine OpsL.p (by subst_vars; decide) (aop_loadAgg (k := 61) (by (first | (simp only [ASt.ev, tmPut, ↓reduceIte, Nat.reduceEqDiff, *]; done))) (by exact rfl) rfl (by exact rfl) hall) ?_
      refine OpsL.c2 (hf := entersTally) (hc := (tallyC W0 h.t3 h.t1 hvl hkl2)) (h := ?_)
      rintro v nx1 H1 ⟨rfl, hle, hs, ht⟩
      obtain ⟨σ6, rfl, rfl, h⟩ := h.tab hle hs ht
      clear hall hle hs ht hvl hvl2
      refine OpsL.p (by subst_vars; decide) (aop_indexAddr13 (sz := 1) (by (first | (simp only [ASt.ev, tmPut, ↓reduceIte, Nat.reduceEqDiff, *]; rfl))) (by (first | (simp only [ASt.ev, tmPut, ↓reduceIte, Nat.reduceEqDiff, *]; rfl))) (by exact rfl) (by exact rfl) (by omega) (by omega)) ?_
      refine OpsL.setC (k := p) (v := .int .i8 (N.1.idxOf key)) (cs' := c60 (N.2 ++ [(N.1.idxOf key : Int)])) h.a (by rw [c60_len (by omega)]; omega) (c60_snoc hnl (by omega)) (by exact rfl) rfl rfl (by (first | (simp only [ASt.ev, tmPut, ↓reduceIte, Nat.reduceEqDiff, *]; rfl))) (by (first | (simp only [ASt.ev, tmPut, ↓reduceIte, Nat.reduceEqDiff, *]; done))) (by show (⟨A, 0 + (p : Int).toNat * 1, none⟩ : Addr) = _; congr 1; omega) ?_
      intro τ hA xt _
      replace h := h.setA xt hA
      refine OpsL.nil ?_
      ((repeat (refine blockExit_normal ?_)); change Trip _ _ _ _ _)
      repeat (first | (refine OpsL.q (by first | exact omv | exact oadd) ?_) | (refine Trip.ops ?_) | (refine OpsL.nil ?_; (dsimp only)))
      exact ⟨p + 1, ⟨_, τ, rfl, by simp [tmPut, *], by simp [tmPut, *], by simp [tmPut, *], by simp [tmPut, *], by simp [tmPut, *], by simp [tmPut, *], by simp [tmPut, *], by omega, by unfold numL; rw [hsS, num1_li]; exact h⟩, by omega⟩
  · have hp2 : p = rows.length := by omega
    subst hp2
    obtain ⟨cs, hcs, hR⟩ := h.r
    have hnl : (numL ((List.range rows.length).map fun p => partK c (rows.getD p []) p)).length ≤ 60 := by unfold numL; rw [num_len]; simpa using hl
    have hall : getc σ.H ⟨A, 0, none⟩ 60 = some (c60 (numL ((List.range rows.length).map fun p => partK c (rows.getD p []) p))) := getc_all h.a.2.2 (c60_len hnl)
    repeat (first | (refine Trip.seq ?_) | (refine Trip.ops ?_) | (refine Trip.exit ?_; ((repeat (refine blockExit_eq ?_)); change Trip _ _ _ _ _)))
    refine OpsL.p (by subst_vars; decide) (aop_loadAgg (k := 60) (by (first | (simp only [ASt.ev, tmPut, ↓reduceIte, Nat.reduceEqDiff, *]; done))) (by exact rfl) rfl (by exact rfl) hall) ?_
    refine OpsL.setAllC (vs := c60 (numL ((List.range rows.length).map fun p => partK c (rows.getD p []) p))) hR (by exact rfl) (c60_len hnl) (by rw [hcs, c60_len hnl]) (i8_one _) (by (first | (simp only [ASt.ev, tmPut, ↓reduceIte, Nat.reduceEqDiff, *]; done))) (by (first | (simp only [ASt.ev, tmPut, ↓reduceIte, Nat.reduceEqDiff, *]; done))) ?_
    intro τ ho hx
    refine OpsL.nil ?_
    (change Trip _ _ _ _ _)
    refine Trip.ret ?_
    exact ⟨.inr rfl, _, res_cell (by simp [tmPut, *]) (readAt_agg (by exact rfl) rfl (by exact rfl) (getc_all ho.2.2 (c60_len hnl))), rfl, x0.trans (h.old.keep hx (by simp)).ext⟩
end Go.Proofs.Ytjgbcpagfghfnaa
