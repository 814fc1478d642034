import Derived.Test.YtmhikbgegdphnaaGreatQAut3
namespace Go.Proofs.YtmhikbgegdphnaaGreat
set_option linter.unusedSimpArgs false
set_option linter.unusedVariables false
open Go.Am Go.RowKit
attribute [local irreducible] aop OpsL Trip blockExit OpsD
set_option maxRecDepth 20000 in
set_option maxHeartbeats 4000000 in
theorem rulesC (W0 : World) {nx : Nat} {H : Heap} {a : Aut} {vi vf vo vc vn : Value} (ha : AutIn H a vi vf vo vc vn) (hl : AutLen a) :
    ACalls Tryz.prog W0 48 [.agg (autV a vi vf vo vc vn).toArray] nx H fun v nx' H' => v = .int .i64 (((a.opens.length : Int) + a.closes.length) + a.inners.length) ∧ Ext nx H nx' H' := by
  obtain ⟨oa, oc, rfl⟩ := ha.opens.slice
  obtain ⟨ca, cc, rfl⟩ := ha.closes.slice
  obtain ⟨na, nc, rfl⟩ := ha.inners.slice
  have q1 := hl.opens
  have q2 := hl.closes
  have q3 := hl.inners
  refine ACalls.by_trip (fn := Tryz.f48) (c := _) Tryz.func48 rfl (fun tm n hn0 htm => ?_)
  have e0 : tm 0 = .agg (autV a vi vf (.slice oa a.opens.length oc) (.slice ca a.closes.length cc) (.slice na a.inners.length nc)).toArray := htm 0
  clear htm
  replace hn0 : n = 14 := hn0
  refine Trip.seq ?_
  refine Trip.ops ?_
  refine OpsL.new (by subst_vars; decide) (aop_box (by (first | (simp only [ASt.ev, tmPut, ↓reduceIte, Nat.reduceEqDiff, *]; rfl)))) ?_
  obtain ⟨F, hF⟩ : ∃ F, F = H.put nx (.cells (Value.agg (autV a vi vf (.slice oa a.opens.length oc) (.slice ca a.closes.length cc) (.slice na a.inners.length nc)).toArray).cells.toList 0 none false (some 30)) := ⟨_, rfl⟩
  have hx0 : Ext nx H (nx + 1) F := by rw [hF]; exact Ext.newPut
  have hFn : F nx = some (.cells (autV a vi vf (.slice oa a.opens.length oc) (.slice ca a.closes.length cc) (.slice na a.inners.length nc)) 0 none false (some 30)) := by rw [hF, Heap.put_eq]; rfl
  have g4 : cellAt F ⟨nx, 4, none⟩ (.slice oa a.opens.length oc) := cell_of hFn rfl
  have g5 : cellAt F ⟨nx, 5, none⟩ (.slice ca a.closes.length cc) := cell_of hFn rfl
  have g6 : cellAt F ⟨nx, 6, none⟩ (.slice na a.inners.length nc) := cell_of hFn rfl
  rw [← hF]
  clear hF
  repeat' (first | (refine OpsL.p (by subst_vars; decide) (by (first | (exact aop_assign (by (first | (simp only [ASt.ev, tmPut, ↓reduceIte, Nat.reduceEqDiff, *]; rfl)))) | (exact aop_add (by (first | (simp only [ASt.ev, tmPut, ↓reduceIte, Nat.reduceEqDiff, *]; rfl))) (by (first | (simp only [ASt.ev, tmPut, ↓reduceIte, Nat.reduceEqDiff, *]; rfl))) (by omega)) | (exact aop_len (by (first | (simp only [ASt.ev, tmPut, ↓reduceIte, Nat.reduceEqDiff, *]; rfl))) (by exact rfl)) | (exact aop_fieldAddr (by (first | (simp only [ASt.ev, tmPut, ↓reduceIte, Nat.reduceEqDiff, *]; rfl))) (by exact rfl)) | (exact aop_load (by (first | (simp only [ASt.ev, tmPut, ↓reduceIte, Nat.reduceEqDiff, *]; rfl))) (by exact rfl) rfl (by assumption)))) ?_) | (refine Trip.seq ?_) | (refine Trip.ops ?_) | (refine Trip.ret ?_; (dsimp only)) | (refine OpsL.nil ?_; (change Trip _ _ _ _ _)))
  exact ⟨.inr rfl, _, res_tmp, by simp [tmPut], hx0⟩
set_option maxRecDepth 20000 in
set_option maxHeartbeats 4000000 in
theorem sizeC (W0 : World) {nx : Nat} {H : Heap} {a : Aut} {vi vf vo vc vn : Value} (ha : AutIn H a vi vf vo vc vn) (hl : AutLen a) :
    ACalls Tryz.prog W0 37 [.agg (autV a vi vf vo vc vn).toArray] nx H fun v nx' H' => v = .bool (sizeF a) ∧ Ext nx H nx' H' := by
  refine ACalls.by_trip (fn := Tryz.f37) (c := _) Tryz.func37 rfl (fun tm n hn0 htm => ?_)
  have e0 : tm 0 = .agg (autV a vi vf vo vc vn).toArray := htm 0
  clear htm
  replace hn0 : n = 16 := hn0
  refine Trip.ok fun hok => ?_
  replace hok : ∀ id o, H id = some o → id < nx := hok
  refine Trip.seq ?_
  refine Trip.ops ?_
  refine OpsL.new (by subst_vars; decide) (aop_box (by (first | (simp only [ASt.ev, tmPut, ↓reduceIte, Nat.reduceEqDiff, *]; rfl)))) ?_
  obtain ⟨F, hF⟩ : ∃ F, F = H.put nx (.cells (Value.agg (autV a vi vf vo vc vn).toArray).cells.toList 0 none false (some 30)) := ⟨_, rfl⟩
  have hx0 : Ext nx H (nx + 1) F := by rw [hF]; exact Ext.newPut
  have hFn : F nx = some (.cells (autV a vi vf vo vc vn) 0 none false (some 30)) := by rw [hF, Heap.put_eq]; rfl
  have g0 : cellAt F ⟨nx, 0, none⟩ (.int .i64 a.N) := cell_of hFn rfl
  have g1 : cellAt F ⟨nx, 1, none⟩ (.int .i64 a.G) := cell_of hFn rfl
  rw [← hF]
  clear hF
  repeat' (first | (refine OpsL.p (by subst_vars; decide) (by (first | (exact aop_assign (by (first | (simp only [ASt.ev, tmPut, ↓reduceIte, Nat.reduceEqDiff, *]; rfl)))) | (exact aop_fieldAddr (by (first | (simp only [ASt.ev, tmPut, ↓reduceIte, Nat.reduceEqDiff, *]; rfl))) (by exact rfl)) | (exact aop_load (by (first | (simp only [ASt.ev, tmPut, ↓reduceIte, Nat.reduceEqDiff, *]; rfl))) (by exact rfl) rfl (by assumption)))) ?_) | (refine Trip.seq ?_) | (refine Trip.ops ?_) | (refine OpsL.nil ?_; (change Trip _ _ _ _ _)))
  refine OpsL.call3 (by subst_vars; decide) (by (first | (simp only [ASt.ev, tmPut, ↓reduceIte, Nat.reduceEqDiff, *]; rfl))) (by (first | (simp only [ASt.ev, tmPut, ↓reduceIte, Nat.reduceEqDiff, *]; rfl))) (by (first | (simp only [ASt.ev, tmPut, ↓reduceIte, Nat.reduceEqDiff, *]; rfl))) entersBetween (betweenC W0 _ _ _) ?_
  rintro v2 n2 H2 ⟨rfl, rfl, rfl⟩
  cases hs1 : btF a.N 0 200
  · repeat' (first | (refine OpsL.p (by subst_vars; decide) (by (first | (exact aop_move (by (first | (simp only [ASt.ev, tmPut, ↓reduceIte, Nat.reduceEqDiff, *]; rfl)))) | (exact aop_assign (by (first | (simp only [ASt.ev, tmPut, ↓reduceIte, Nat.reduceEqDiff, *]; rfl)))) | (exact aop_pickF (by (first | (simp only [ASt.ev, tmPut, ↓reduceIte, Nat.reduceEqDiff, *]; done) | (simp only [ASt.ev, tmPut, ↓reduceIte, Nat.reduceEqDiff, *]; rfl))) (by (first | (simp only [ASt.ev, tmPut, ↓reduceIte, Nat.reduceEqDiff, *]; rfl)))))) ?_) | (refine Trip.ret ?_; (dsimp only)) | (refine OpsL.nil ?_; (change Trip _ _ _ _ _)) | (refine OpsL.skipped (by exact rfl) (by (first | (simp only [ASt.ev, tmPut, ↓reduceIte, Nat.reduceEqDiff, *]; done) | (simp only [ASt.ev, tmPut, ↓reduceIte, Nat.reduceEqDiff, *]; rfl))) (by subst_vars; decide) ?_))
    exact ⟨.inr rfl, _, res_tmp, by simp [tmPut, sizeF, *], hx0⟩
  repeat' (first | (refine OpsL.p (by subst_vars; decide) (by (first | (exact aop_move (by (first | (simp only [ASt.ev, tmPut, ↓reduceIte, Nat.reduceEqDiff, *]; rfl)))) | (exact aop_fieldAddr (by (first | (simp only [ASt.ev, tmPut, ↓reduceIte, Nat.reduceEqDiff, *]; rfl))) (by exact rfl)) | (exact aop_load (by (first | (simp only [ASt.ev, tmPut, ↓reduceIte, Nat.reduceEqDiff, *]; rfl))) (by exact rfl) rfl (by assumption)))) ?_) | (refine OpsL.unguard (by exact rfl) (by (first | (simp only [ASt.ev, tmPut, ↓reduceIte, Nat.reduceEqDiff, *]; done))) ?_))
  refine OpsL.call3 (by subst_vars; decide) (by (first | (simp only [ASt.ev, tmPut, ↓reduceIte, Nat.reduceEqDiff, *]; rfl))) (by (first | (simp only [ASt.ev, tmPut, ↓reduceIte, Nat.reduceEqDiff, *]; rfl))) (by (first | (simp only [ASt.ev, tmPut, ↓reduceIte, Nat.reduceEqDiff, *]; rfl))) entersBetween (betweenC W0 _ _ _) ?_
  rintro v2 n2 H2 ⟨rfl, rfl, rfl⟩
  cases hs2 : btF a.G 0 10000
  · repeat' (first | (refine OpsL.p (by subst_vars; decide) (by (first | (exact aop_move (by (first | (simp only [ASt.ev, tmPut, ↓reduceIte, Nat.reduceEqDiff, *]; rfl)))) | (exact aop_assign (by (first | (simp only [ASt.ev, tmPut, ↓reduceIte, Nat.reduceEqDiff, *]; rfl)))) | (exact aop_pickT (by (first | (simp only [ASt.ev, tmPut, ↓reduceIte, Nat.reduceEqDiff, *]; done) | (simp only [ASt.ev, tmPut, ↓reduceIte, Nat.reduceEqDiff, *]; rfl))) (by (first | (simp only [ASt.ev, tmPut, ↓reduceIte, Nat.reduceEqDiff, *]; rfl)))) | (exact aop_pickF (by (first | (simp only [ASt.ev, tmPut, ↓reduceIte, Nat.reduceEqDiff, *]; done) | (simp only [ASt.ev, tmPut, ↓reduceIte, Nat.reduceEqDiff, *]; rfl))) (by (first | (simp only [ASt.ev, tmPut, ↓reduceIte, Nat.reduceEqDiff, *]; rfl)))))) ?_) | (refine Trip.ret ?_; (dsimp only)) | (refine OpsL.nil ?_; (change Trip _ _ _ _ _)) | (refine OpsL.skipped (by exact rfl) (by (first | (simp only [ASt.ev, tmPut, ↓reduceIte, Nat.reduceEqDiff, *]; done) | (simp only [ASt.ev, tmPut, ↓reduceIte, Nat.reduceEqDiff, *]; rfl))) (by subst_vars; decide) ?_))
    exact ⟨.inr rfl, _, res_tmp, by simp [tmPut, sizeF, *], hx0⟩
  repeat' (first | (refine OpsL.p (by subst_vars; decide) (by (first | (exact aop_move (by (first | (simp only [ASt.ev, tmPut, ↓reduceIte, Nat.reduceEqDiff, *]; rfl)))) | (exact aop_pickT (by (first | (simp only [ASt.ev, tmPut, ↓reduceIte, Nat.reduceEqDiff, *]; done))) (by (first | (simp only [ASt.ev, tmPut, ↓reduceIte, Nat.reduceEqDiff, *]; rfl)))))) ?_) | (refine OpsL.unguard (by exact rfl) (by (first | (simp only [ASt.ev, tmPut, ↓reduceIte, Nat.reduceEqDiff, *]; done))) ?_))
  refine OpsL.p (by subst_vars; decide) (aop_loadAgg (k := 7) (by (first | (simp only [ASt.ev, tmPut, ↓reduceIte, Nat.reduceEqDiff, *]; done))) (by exact rfl) rfl (by exact rfl) (getc_all hFn rfl)) ?_
  repeat' (first | (refine OpsL.unguard (by exact rfl) (by (first | (simp only [ASt.ev, tmPut, ↓reduceIte, Nat.reduceEqDiff, *]; done))) ?_))
  refine OpsL.call1 (by subst_vars; decide) (by (first | (simp only [ASt.ev, tmPut, ↓reduceIte, Nat.reduceEqDiff, *]; done))) entersRules (rulesC W0 (ha.ext hx0 hok) hl) ?_
  rintro v2 n2 H2 ⟨rfl, hx2⟩
  repeat' (first | (refine OpsL.p (by subst_vars; decide) (by (first | (exact aop_assign (by (first | (simp only [ASt.ev, tmPut, ↓reduceIte, Nat.reduceEqDiff, *]; rfl)))) | (exact aop_leq (by (first | (simp only [ASt.ev, tmPut, ↓reduceIte, Nat.reduceEqDiff, *]; rfl))) (by (first | (simp only [ASt.ev, tmPut, ↓reduceIte, Nat.reduceEqDiff, *]; rfl)))) | (exact aop_pickT (by (first | (simp only [ASt.ev, tmPut, ↓reduceIte, Nat.reduceEqDiff, *]; done))) (by (first | (simp only [ASt.ev, tmPut, ↓reduceIte, Nat.reduceEqDiff, *]; rfl)))))) ?_) | (refine Trip.ret ?_; (dsimp only)) | (refine OpsL.nil ?_; (change Trip _ _ _ _ _)) | (refine OpsL.unguard (by exact rfl) (by (first | (simp only [ASt.ev, tmPut, ↓reduceIte, Nat.reduceEqDiff, *]; done))) ?_))
  exact ⟨.inr rfl, _, res_tmp, by simp [tmPut, sizeF, *], hx0.trans hx2⟩
theorem entersAllI : Enters Tryz.prog 38 := ⟨Tryz.f38, Tryz.func38, by kernel_rfl, by kernel_rfl⟩
theorem entersAllO : Enters Tryz.prog 39 := ⟨Tryz.f39, Tryz.func39, by kernel_rfl, by kernel_rfl⟩
theorem entersAllC : Enters Tryz.prog 40 := ⟨Tryz.f40, Tryz.func40, by kernel_rfl, by kernel_rfl⟩
theorem entersAllN : Enters Tryz.prog 41 := ⟨Tryz.f41, Tryz.func41, by kernel_rfl, by kernel_rfl⟩
set_option maxRecDepth 20000 in
set_option maxHeartbeats 8000000 in
theorem allIC (W0 : World) {nx : Nat} {H : Heap} {f : FuncId} {cap : Array Value} {p : Int → Bool} {va : Value} {xs : List Int} (hf : Enters Tryz.prog f) (hx : IntsAt H va xs) (hlen : xs.length ≤ 1000)
    (hp : ∀ (x : Int) nx1 H1, Ext nx H nx1 H1 → ACalls Tryz.prog W0 f (.int .i64 x :: cap.toList) nx1 H1 fun v n2 H2 => v = .bool (p x) ∧ Ext nx1 H1 n2 H2) :
    ACalls Tryz.prog W0 38 [va, .func (.func f) #[] cap] nx H fun v nx' H' => v = .bool (xs.all p) ∧ Ext nx H nx' H' := by
  obtain ⟨xa, xc, rfl⟩ := hx.slice
  refine ACalls.by_trip (fn := Tryz.f38) (c := _) Tryz.func38 rfl (fun tm n hn0 htm => ?_)
  have e0 : tm 0 = .slice xa xs.length xc := htm 0
  have e1 : tm 1 = .func (.func f) #[] cap := htm 1
  clear htm
  replace hn0 : n = 18 := hn0
  refine Trip.ok fun hok => ?_
  replace hok : ∀ id o, H id = some o → id < nx := hok
  repeat (first | (refine OpsL.p (by subst_vars; decide) (by (first | (exact aop_move (by (first | (simp only [ASt.ev, tmPut, ↓reduceIte, Nat.reduceEqDiff, *]; rfl)))) | (exact aop_assign (by (first | (simp only [ASt.ev, tmPut, ↓reduceIte, Nat.reduceEqDiff, *]; rfl)))) | (exact aop_len (by (first | (simp only [ASt.ev, tmPut, ↓reduceIte, Nat.reduceEqDiff, *]; rfl))) (by exact rfl)))) ?_) | (refine Trip.seq ?_) | (refine Trip.ops ?_) | (refine Trip.block ?_) | (refine OpsL.nil ?_; (change Trip _ _ _ _ _)))
  refine Trip.inv (fun (i : Nat) s => ∃ (tm : Nat → Value) (nx' : Nat) (H' : Heap), s = ⟨tm, n, H', nx'⟩ ∧ Ext nx H nx' H' ∧
      tm 1 = .func (.func f) #[] cap ∧ tm 7 = .slice xa xs.length xc ∧ tm 8 = .int .i64 xs.length ∧ tm 9 = .int .i64 i ∧ i ≤ xs.length ∧ (xs.take i).all p = true) (fun i => xs.length - i) 0 ?_ ?_
  · exact ⟨_, _, _, rfl, Ext.refl, by simp [tmPut, *], by simp [tmPut, *], by simp [tmPut, *], by simp [tmPut, *], by omega, rfl⟩
  · clear e0 e1
    rintro i s ⟨tm, nx', H', rfl, hext, e1, e7, e8, e9, hi, hall⟩
    repeat (first | (refine OpsL.p (by subst_vars; decide) (by (first | (exact aop_lss (by (first | (simp only [ASt.ev, tmPut, ↓reduceIte, Nat.reduceEqDiff, *]; rfl))) (by (first | (simp only [ASt.ev, tmPut, ↓reduceIte, Nat.reduceEqDiff, *]; rfl)))))) ?_) | (refine Trip.seq ?_) | (refine Trip.ops ?_) | (refine Trip.block ?_) | (refine Trip.ite (by (first | (simp only [ASt.ev, tmPut, ↓reduceIte, Nat.reduceEqDiff, *]; rfl))) (fun _ => ?_) (fun _ => ?_)) | (refine Trip.skip ?_; (change Trip _ _ _ _ _)) | (refine OpsL.nil ?_; (change Trip _ _ _ _ _)))
    · have hlt : i < xs.length := by omega
      obtain ⟨q, rfl, hc⟩ := intsAt_at hx hlt
      replace hc := cell_ext hext hok hc
      repeat (first | (refine OpsL.p (by subst_vars; decide) (by (first | (exact aop_move (by (first | (simp only [ASt.ev, tmPut, ↓reduceIte, Nat.reduceEqDiff, *]; rfl)))) | (exact aop_assign (by (first | (simp only [ASt.ev, tmPut, ↓reduceIte, Nat.reduceEqDiff, *]; rfl)))) | (exact aop_indexAddr (by (first | (simp only [ASt.ev, tmPut, ↓reduceIte, Nat.reduceEqDiff, *]; rfl))) (by (first | (simp only [ASt.ev, tmPut, ↓reduceIte, Nat.reduceEqDiff, *]; rfl))) (by exact rfl) (by exact rfl) (by omega) (by omega)) | (exact aop_load (by (first | (simp only [ASt.ev, tmPut, ↓reduceIte, Nat.reduceEqDiff, *]; rfl))) (by exact rfl) rfl (by assumption)))) ?_) | (refine Trip.seq ?_) | (refine Trip.ops ?_) | (refine OpsL.nil ?_; (change Trip _ _ _ _ _)))
      refine OpsL.callV1 (cap := cap) (by subst_vars; decide) (by (first | (simp only [ASt.ev, tmPut, ↓reduceIte, Nat.reduceEqDiff, *]; done))) (by (first | (simp only [ASt.ev, tmPut, ↓reduceIte, Nat.reduceEqDiff, *]; rfl))) hf (hp _ _ _ hext) ?_
      rintro v2 n2 H2 ⟨rfl, hx2⟩
      cases hs : p xs[i]
      · repeat (first | (refine OpsL.p (by subst_vars; decide) (by (first | (exact aop_not (by (first | (simp only [ASt.ev, tmPut, ↓reduceIte, Nat.reduceEqDiff, *]; rfl)))))) ?_) | (refine OpsL.nil ?_; (change Trip _ _ _ _ _)))
        refine Trip.iteB (b := true) (by (first | (simp only [ASt.ev, tmPut, ↓reduceIte, Nat.reduceEqDiff, *]; rfl))) (fun _ => ?_) (fun h => absurd h (by decide))
        repeat (first | (refine OpsL.p (by subst_vars; decide) (by (first | (exact aop_assign (by (first | (simp only [ASt.ev, tmPut, ↓reduceIte, Nat.reduceEqDiff, *]; rfl)))))) ?_) | (refine Trip.seq ?_) | (refine Trip.ops ?_) | (refine Trip.ret ?_; ((repeat (refine blockExit_ret ?_)); dsimp only)) | (refine OpsL.nil ?_; (change Trip _ _ _ _ _)))
        exact ⟨.inr rfl, _, res_tmp, by simp [tmPut, all_no hlt hs], hext.trans hx2⟩
      · repeat (first | (refine OpsL.p (by subst_vars; decide) (by (first | (exact aop_not (by (first | (simp only [ASt.ev, tmPut, ↓reduceIte, Nat.reduceEqDiff, *]; rfl)))))) ?_) | (refine OpsL.nil ?_; (change Trip _ _ _ _ _)))
        refine Trip.iteB (b := false) (by (first | (simp only [ASt.ev, tmPut, ↓reduceIte, Nat.reduceEqDiff, *]; rfl))) (fun h => absurd h (by decide)) (fun _ => ?_)
        repeat (first | (refine OpsL.p (by subst_vars; decide) (by (first | (exact aop_move (by (first | (simp only [ASt.ev, tmPut, ↓reduceIte, Nat.reduceEqDiff, *]; rfl)))) | (exact aop_add (by (first | (simp only [ASt.ev, tmPut, ↓reduceIte, Nat.reduceEqDiff, *]; rfl))) (by (first | (simp only [ASt.ev, tmPut, ↓reduceIte, Nat.reduceEqDiff, *]; rfl))) (by omega)))) ?_) | (refine Trip.ops ?_) | (refine Trip.skip ?_; ((repeat (refine blockExit_normal ?_)); change Trip _ _ _ _ _)) | (refine OpsL.nil ?_; (dsimp only)))
        exact ⟨i + 1, ⟨_, _, _, rfl, hext.trans hx2, by simp [tmPut, *], by simp [tmPut, *], by simp [tmPut, *], by simp [tmPut, *], by omega, all_take hlt hall hs⟩, by omega⟩
    · repeat (first | (refine OpsL.p (by subst_vars; decide) (by (first | (exact aop_assign (by (first | (simp only [ASt.ev, tmPut, ↓reduceIte, Nat.reduceEqDiff, *]; rfl)))))) ?_) | (refine Trip.seq ?_) | (refine Trip.ops ?_) | (refine Trip.exit ?_; ((repeat (refine blockExit_eq ?_)); change Trip _ _ _ _ _)) | (refine Trip.ret ?_; (dsimp only)) | (refine OpsL.nil ?_; (change Trip _ _ _ _ _)))
      have hi2 : i = xs.length := by omega
      subst hi2
      rw [List.take_length] at hall
      exact ⟨.inr rfl, _, res_tmp, by simp [tmPut, hall], hext⟩
set_option maxRecDepth 20000 in
set_option maxHeartbeats 8000000 in
theorem allOC (W0 : World) {nx : Nat} {H : Heap} {f : FuncId} {cap : Array Value} {p : R4 → Bool} {va : Value} {xs : List R4} (hf : Enters Tryz.prog f) (hx : RowsAt e4 4 H va xs) (hlen : xs.length ≤ 1000)
    (hp : ∀ (x : R4) nx1 H1, Ext nx H nx1 H1 → ACalls Tryz.prog W0 f (.agg (e4 x).toArray :: cap.toList) nx1 H1 fun v n2 H2 => v = .bool (p x) ∧ Ext nx1 H1 n2 H2) :
    ACalls Tryz.prog W0 39 [va, .func (.func f) #[] cap] nx H fun v nx' H' => v = .bool (xs.all p) ∧ Ext nx H nx' H' := by
  obtain ⟨xa, xc, rfl⟩ := hx.slice
  refine ACalls.by_trip (fn := Tryz.f39) (c := _) Tryz.func39 rfl (fun tm n hn0 htm => ?_)
  have e0 : tm 0 = .slice xa xs.length xc := htm 0
  have e1 : tm 1 = .func (.func f) #[] cap := htm 1
  clear htm
  replace hn0 : n = 18 := hn0
  refine Trip.ok fun hok => ?_
  replace hok : ∀ id o, H id = some o → id < nx := hok
  repeat (first | (refine OpsL.p (by subst_vars; decide) (by (first | (exact aop_move (by (first | (simp only [ASt.ev, tmPut, ↓reduceIte, Nat.reduceEqDiff, *]; rfl)))) | (exact aop_assign (by (first | (simp only [ASt.ev, tmPut, ↓reduceIte, Nat.reduceEqDiff, *]; rfl)))) | (exact aop_len (by (first | (simp only [ASt.ev, tmPut, ↓reduceIte, Nat.reduceEqDiff, *]; rfl))) (by exact rfl)))) ?_) | (refine Trip.seq ?_) | (refine Trip.ops ?_) | (refine Trip.block ?_) | (refine OpsL.nil ?_; (change Trip _ _ _ _ _)))
  refine Trip.inv (fun (i : Nat) s => ∃ (tm : Nat → Value) (nx' : Nat) (H' : Heap), s = ⟨tm, n, H', nx'⟩ ∧ Ext nx H nx' H' ∧
      tm 1 = .func (.func f) #[] cap ∧ tm 7 = .slice xa xs.length xc ∧ tm 8 = .int .i64 xs.length ∧ tm 9 = .int .i64 i ∧ i ≤ xs.length ∧ (xs.take i).all p = true) (fun i => xs.length - i) 0 ?_ ?_
  · exact ⟨_, _, _, rfl, Ext.refl, by simp [tmPut, *], by simp [tmPut, *], by simp [tmPut, *], by simp [tmPut, *], by omega, rfl⟩
  · clear e0 e1
    rintro i s ⟨tm, nx', H', rfl, hext, e1, e7, e8, e9, hi, hall⟩
    repeat (first | (refine OpsL.p (by subst_vars; decide) (by (first | (exact aop_lss (by (first | (simp only [ASt.ev, tmPut, ↓reduceIte, Nat.reduceEqDiff, *]; rfl))) (by (first | (simp only [ASt.ev, tmPut, ↓reduceIte, Nat.reduceEqDiff, *]; rfl)))))) ?_) | (refine Trip.seq ?_) | (refine Trip.ops ?_) | (refine Trip.block ?_) | (refine Trip.ite (by (first | (simp only [ASt.ev, tmPut, ↓reduceIte, Nat.reduceEqDiff, *]; rfl))) (fun _ => ?_) (fun _ => ?_)) | (refine Trip.skip ?_; (change Trip _ _ _ _ _)) | (refine OpsL.nil ?_; (change Trip _ _ _ _ _)))
    · have hlt : i < xs.length := by omega
      obtain ⟨q, rfl, hc⟩ := rows_at hx hlt
      replace hc := getc_ext hext hok hc
      repeat (first | (refine OpsL.p (by subst_vars; decide) (by (first | (exact aop_indexAddr (by (first | (simp only [ASt.ev, tmPut, ↓reduceIte, Nat.reduceEqDiff, *]; rfl))) (by (first | (simp only [ASt.ev, tmPut, ↓reduceIte, Nat.reduceEqDiff, *]; rfl))) (by exact rfl) (by exact rfl) (by omega) (by omega)))) ?_))
      refine OpsL.p (by subst_vars; decide) (aop_loadAgg (k := 4) (by (first | (simp only [ASt.ev, tmPut, ↓reduceIte, Nat.reduceEqDiff, *]; rfl))) (by exact rfl) rfl (by exact rfl) hc) ?_
      refine OpsL.new (by subst_vars; decide) (aop_alloc (l := rep 4 [.int .i64 0]) (by exact rfl)) ?_
      refine OpsL.upd (aop_store (k := 4) (by (first | (simp only [ASt.ev, tmPut, ↓reduceIte, Nat.reduceEqDiff, *]; rfl))) (by (first | (simp only [ASt.ev, tmPut, ↓reduceIte, Nat.reduceEqDiff, *]; rfl))) (by exact rfl) rfl (o := .cells (e4 xs[i]) 0 none false (some 36)) (by simp [setc, Heap.put, Value.cells, e4, rep, Value.oneCell'])) ?_
      repeat (first | (refine OpsL.p (by subst_vars; decide) (by (first | (exact aop_move (by (first | (simp only [ASt.ev, tmPut, ↓reduceIte, Nat.reduceEqDiff, *]; rfl)))))) ?_) | (refine Trip.seq ?_) | (refine Trip.ops ?_) | (refine OpsL.nil ?_; (change Trip _ _ _ _ _)))
      refine OpsL.p (by subst_vars; decide) (aop_loadAgg (k := 4) (vs := e4 xs[i]) (by (first | (simp only [ASt.ev, tmPut, ↓reduceIte, Nat.reduceEqDiff, *]; done))) (by exact rfl) rfl (by exact rfl) (getc_all Heap.put_eq rfl)) ?_
      refine OpsL.callV1 (cap := cap) (by subst_vars; decide) (by (first | (simp only [ASt.ev, tmPut, ↓reduceIte, Nat.reduceEqDiff, *]; done))) (by (first | (simp only [ASt.ev, tmPut, ↓reduceIte, Nat.reduceEqDiff, *]; rfl))) hf (hp _ _ _ (hext.trans (Ext.newPut.put (Nat.le_refl _)))) ?_
      rintro v2 n2 H2 ⟨rfl, hx2⟩
      replace hx2 := (hext.trans (Ext.newPut.put (Nat.le_refl _))).trans hx2
      cases hs : p xs[i]
      · repeat (first | (refine OpsL.p (by subst_vars; decide) (by (first | (exact aop_not (by (first | (simp only [ASt.ev, tmPut, ↓reduceIte, Nat.reduceEqDiff, *]; rfl)))))) ?_) | (refine OpsL.nil ?_; (change Trip _ _ _ _ _)))
        refine Trip.iteB (b := true) (by (first | (simp only [ASt.ev, tmPut, ↓reduceIte, Nat.reduceEqDiff, *]; rfl))) (fun _ => ?_) (fun h => absurd h (by decide))
        repeat (first | (refine OpsL.p (by subst_vars; decide) (by (first | (exact aop_assign (by (first | (simp only [ASt.ev, tmPut, ↓reduceIte, Nat.reduceEqDiff, *]; rfl)))))) ?_) | (refine Trip.seq ?_) | (refine Trip.ops ?_) | (refine Trip.ret ?_; ((repeat (refine blockExit_ret ?_)); dsimp only)) | (refine OpsL.nil ?_; (change Trip _ _ _ _ _)))
        exact ⟨.inr rfl, _, res_tmp, by simp [tmPut, all_no hlt hs], hx2⟩
      · repeat (first | (refine OpsL.p (by subst_vars; decide) (by (first | (exact aop_not (by (first | (simp only [ASt.ev, tmPut, ↓reduceIte, Nat.reduceEqDiff, *]; rfl)))))) ?_) | (refine OpsL.nil ?_; (change Trip _ _ _ _ _)))
        refine Trip.iteB (b := false) (by (first | (simp only [ASt.ev, tmPut, ↓reduceIte, Nat.reduceEqDiff, *]; rfl))) (fun h => absurd h (by decide)) (fun _ => ?_)
        repeat (first | (refine OpsL.p (by subst_vars; decide) (by (first | (exact aop_move (by (first | (simp only [ASt.ev, tmPut, ↓reduceIte, Nat.reduceEqDiff, *]; rfl)))) | (exact aop_add (by (first | (simp only [ASt.ev, tmPut, ↓reduceIte, Nat.reduceEqDiff, *]; rfl))) (by (first | (simp only [ASt.ev, tmPut, ↓reduceIte, Nat.reduceEqDiff, *]; rfl))) (by omega)))) ?_) | (refine Trip.ops ?_) | (refine Trip.skip ?_; ((repeat (refine blockExit_normal ?_)); change Trip _ _ _ _ _)) | (refine OpsL.nil ?_; (dsimp only)))
        exact ⟨i + 1, ⟨_, _, _, rfl, hx2, by simp [tmPut, *], by simp [tmPut, *], by simp [tmPut, *], by simp [tmPut, *], by omega, all_take hlt hall hs⟩, by omega⟩
    · repeat (first | (refine OpsL.p (by subst_vars; decide) (by (first | (exact aop_assign (by (first | (simp only [ASt.ev, tmPut, ↓reduceIte, Nat.reduceEqDiff, *]; rfl)))))) ?_) | (refine Trip.seq ?_) | (refine Trip.ops ?_) | (refine Trip.exit ?_; ((repeat (refine blockExit_eq ?_)); change Trip _ _ _ _ _)) | (refine Trip.ret ?_; (dsimp only)) | (refine OpsL.nil ?_; (change Trip _ _ _ _ _)))
      have hi2 : i = xs.length := by omega
      subst hi2
      rw [List.take_length] at hall
      exact ⟨.inr rfl, _, res_tmp, by simp [tmPut, hall], hext⟩
set_option maxRecDepth 20000 in
set_option maxHeartbeats 8000000 in
theorem allCC (W0 : World) {nx : Nat} {H : Heap} {f : FuncId} {cap : Array Value} {p : R4 → Bool} {va : Value} {xs : List R4} (hf : Enters Tryz.prog f) (hx : RowsAt e4 4 H va xs) (hlen : xs.length ≤ 1000)
    (hp : ∀ (x : R4) nx1 H1, Ext nx H nx1 H1 → ACalls Tryz.prog W0 f (.agg (e4 x).toArray :: cap.toList) nx1 H1 fun v n2 H2 => v = .bool (p x) ∧ Ext nx1 H1 n2 H2) :
    ACalls Tryz.prog W0 40 [va, .func (.func f) #[] cap] nx H fun v nx' H' => v = .bool (xs.all p) ∧ Ext nx H nx' H' := by
  obtain ⟨xa, xc, rfl⟩ := hx.slice
  refine ACalls.by_trip (fn := Tryz.f40) (c := _) Tryz.func40 rfl (fun tm n hn0 htm => ?_)
  have e0 : tm 0 = .slice xa xs.length xc := htm 0
  have e1 : tm 1 = .func (.func f) #[] cap := htm 1
  clear htm
  replace hn0 : n = 18 := hn0
  refine Trip.ok fun hok => ?_
  replace hok : ∀ id o, H id = some o → id < nx := hok
  repeat (first | (refine OpsL.p (by subst_vars; decide) (by (first | (exact aop_move (by (first | (simp only [ASt.ev, tmPut, ↓reduceIte, Nat.reduceEqDiff, *]; rfl)))) | (exact aop_assign (by (first | (simp only [ASt.ev, tmPut, ↓reduceIte, Nat.reduceEqDiff, *]; rfl)))) | (exact aop_len (by (first | (simp only [ASt.ev, tmPut, ↓reduceIte, Nat.reduceEqDiff, *]; rfl))) (by exact rfl)))) ?_) | (refine Trip.seq ?_) | (refine Trip.ops ?_) | (refine Trip.block ?_) | (refine OpsL.nil ?_; (change Trip _ _ _ _ _)))
  refine Trip.inv (fun (i : Nat) s => ∃ (tm : Nat → Value) (nx' : Nat) (H' : Heap), s = ⟨tm, n, H', nx'⟩ ∧ Ext nx H nx' H' ∧
      tm 1 = .func (.func f) #[] cap ∧ tm 7 = .slice xa xs.length xc ∧ tm 8 = .int .i64 xs.length ∧ tm 9 = .int .i64 i ∧ i ≤ xs.length ∧ (xs.take i).all p = true) (fun i => xs.length - i) 0 ?_ ?_
  · exact ⟨_, _, _, rfl, Ext.refl, by simp [tmPut, *], by simp [tmPut, *], by simp [tmPut, *], by simp [tmPut, *], by omega, rfl⟩
  · clear e0 e1
    rintro i s ⟨tm, nx', H', rfl, hext, e1, e7, e8, e9, hi, hall⟩
    repeat (first | (refine OpsL.p (by subst_vars; decide) (by (first | (exact aop_lss (by (first | (simp only [ASt.ev, tmPut, ↓reduceIte, Nat.reduceEqDiff, *]; rfl))) (by (first | (simp only [ASt.ev, tmPut, ↓reduceIte, Nat.reduceEqDiff, *]; rfl)))))) ?_) | (refine Trip.seq ?_) | (refine Trip.ops ?_) | (refine Trip.block ?_) | (refine Trip.ite (by (first | (simp only [ASt.ev, tmPut, ↓reduceIte, Nat.reduceEqDiff, *]; rfl))) (fun _ => ?_) (fun _ => ?_)) | (refine Trip.skip ?_; (change Trip _ _ _ _ _)) | (refine OpsL.nil ?_; (change Trip _ _ _ _ _)))
    · have hlt : i < xs.length := by omega
      obtain ⟨q, rfl, hc⟩ := rows_at hx hlt
      replace hc := getc_ext hext hok hc
      repeat (first | (refine OpsL.p (by subst_vars; decide) (by (first | (exact aop_indexAddr (by (first | (simp only [ASt.ev, tmPut, ↓reduceIte, Nat.reduceEqDiff, *]; rfl))) (by (first | (simp only [ASt.ev, tmPut, ↓reduceIte, Nat.reduceEqDiff, *]; rfl))) (by exact rfl) (by exact rfl) (by omega) (by omega)))) ?_))
      refine OpsL.p (by subst_vars; decide) (aop_loadAgg (k := 4) (by (first | (simp only [ASt.ev, tmPut, ↓reduceIte, Nat.reduceEqDiff, *]; rfl))) (by exact rfl) rfl (by exact rfl) hc) ?_
      refine OpsL.new (by subst_vars; decide) (aop_alloc (l := rep 4 [.int .i64 0]) (by exact rfl)) ?_
      refine OpsL.upd (aop_store (k := 4) (by (first | (simp only [ASt.ev, tmPut, ↓reduceIte, Nat.reduceEqDiff, *]; rfl))) (by (first | (simp only [ASt.ev, tmPut, ↓reduceIte, Nat.reduceEqDiff, *]; rfl))) (by exact rfl) rfl (o := .cells (e4 xs[i]) 0 none false (some 38)) (by simp [setc, Heap.put, Value.cells, e4, rep, Value.oneCell'])) ?_
      repeat (first | (refine OpsL.p (by subst_vars; decide) (by (first | (exact aop_move (by (first | (simp only [ASt.ev, tmPut, ↓reduceIte, Nat.reduceEqDiff, *]; rfl)))))) ?_) | (refine Trip.seq ?_) | (refine Trip.ops ?_) | (refine OpsL.nil ?_; (change Trip _ _ _ _ _)))
      refine OpsL.p (by subst_vars; decide) (aop_loadAgg (k := 4) (vs := e4 xs[i]) (by (first | (simp only [ASt.ev, tmPut, ↓reduceIte, Nat.reduceEqDiff, *]; done))) (by exact rfl) rfl (by exact rfl) (getc_all Heap.put_eq rfl)) ?_
      refine OpsL.callV1 (cap := cap) (by subst_vars; decide) (by (first | (simp only [ASt.ev, tmPut, ↓reduceIte, Nat.reduceEqDiff, *]; done))) (by (first | (simp only [ASt.ev, tmPut, ↓reduceIte, Nat.reduceEqDiff, *]; rfl))) hf (hp _ _ _ (hext.trans (Ext.newPut.put (Nat.le_refl _)))) ?_
      rintro v2 n2 H2 ⟨rfl, hx2⟩
      replace hx2 := (hext.trans (Ext.newPut.put (Nat.le_refl _))).trans hx2
      cases hs : p xs[i]
      · repeat (first | (refine OpsL.p (by subst_vars; decide) (by (first | (exact aop_not (by (first | (simp only [ASt.ev, tmPut, ↓reduceIte, Nat.reduceEqDiff, *]; rfl)))))) ?_) | (refine OpsL.nil ?_; (change Trip _ _ _ _ _)))
        refine Trip.iteB (b := true) (by (first | (simp only [ASt.ev, tmPut, ↓reduceIte, Nat.reduceEqDiff, *]; rfl))) (fun _ => ?_) (fun h => absurd h (by decide))
        repeat (first | (refine OpsL.p (by subst_vars; decide) (by (first | (exact aop_assign (by (first | (simp only [ASt.ev, tmPut, ↓reduceIte, Nat.reduceEqDiff, *]; rfl)))))) ?_) | (refine Trip.seq ?_) | (refine Trip.ops ?_) | (refine Trip.ret ?_; ((repeat (refine blockExit_ret ?_)); dsimp only)) | (refine OpsL.nil ?_; (change Trip _ _ _ _ _)))
        exact ⟨.inr rfl, _, res_tmp, by simp [tmPut, all_no hlt hs], hx2⟩
      · repeat (first | (refine OpsL.p (by subst_vars; decide) (by (first | (exact aop_not (by (first | (simp only [ASt.ev, tmPut, ↓reduceIte, Nat.reduceEqDiff, *]; rfl)))))) ?_) | (refine OpsL.nil ?_; (change Trip _ _ _ _ _)))
        refine Trip.iteB (b := false) (by (first | (simp only [ASt.ev, tmPut, ↓reduceIte, Nat.reduceEqDiff, *]; rfl))) (fun h => absurd h (by decide)) (fun _ => ?_)
        repeat (first | (refine OpsL.p (by subst_vars; decide) (by (first | (exact aop_move (by (first | (simp only [ASt.ev, tmPut, ↓reduceIte, Nat.reduceEqDiff, *]; rfl)))) | (exact aop_add (by (first | (simp only [ASt.ev, tmPut, ↓reduceIte, Nat.reduceEqDiff, *]; rfl))) (by (first | (simp only [ASt.ev, tmPut, ↓reduceIte, Nat.reduceEqDiff, *]; rfl))) (by omega)))) ?_) | (refine Trip.ops ?_) | (refine Trip.skip ?_; ((repeat (refine blockExit_normal ?_)); change Trip _ _ _ _ _)) | (refine OpsL.nil ?_; (dsimp only)))
        exact ⟨i + 1, ⟨_, _, _, rfl, hx2, by simp [tmPut, *], by simp [tmPut, *], by simp [tmPut, *], by simp [tmPut, *], by omega, all_take hlt hall hs⟩, by omega⟩
    · repeat (first | (refine OpsL.p (by subst_vars; decide) (by (first | (exact aop_assign (by (first | (simp only [ASt.ev, tmPut, ↓reduceIte, Nat.reduceEqDiff, *]; rfl)))))) ?_) | (refine Trip.seq ?_) | (refine Trip.ops ?_) | (refine Trip.exit ?_; ((repeat (refine blockExit_eq ?_)); change Trip _ _ _ _ _)) | (refine Trip.ret ?_; (dsimp only)) | (refine OpsL.nil ?_; (change Trip _ _ _ _ _)))
      have hi2 : i = xs.length := by omega
      subst hi2
      rw [List.take_length] at hall
      exact ⟨.inr rfl, _, res_tmp, by simp [tmPut, hall], hext⟩
set_option maxRecDepth 20000 in
set_option maxHeartbeats 8000000 in
theorem allNC (W0 : World) {nx : Nat} {H : Heap} {f : FuncId} {cap : Array Value} {p : R3 → Bool} {va : Value} {xs : List R3} (hf : Enters Tryz.prog f) (hx : RowsAt e3 3 H va xs) (hlen : xs.length ≤ 1000)
    (hp : ∀ (x : R3) nx1 H1, Ext nx H nx1 H1 → ACalls Tryz.prog W0 f (.agg (e3 x).toArray :: cap.toList) nx1 H1 fun v n2 H2 => v = .bool (p x) ∧ Ext nx1 H1 n2 H2) :
    ACalls Tryz.prog W0 41 [va, .func (.func f) #[] cap] nx H fun v nx' H' => v = .bool (xs.all p) ∧ Ext nx H nx' H' := by
  obtain ⟨xa, xc, rfl⟩ := hx.slice
  refine ACalls.by_trip (fn := Tryz.f41) (c := _) Tryz.func41 rfl (fun tm n hn0 htm => ?_)
  have e0 : tm 0 = .slice xa xs.length xc := htm 0
  have e1 : tm 1 = .func (.func f) #[] cap := htm 1
  clear htm
  replace hn0 : n = 18 := hn0
  refine Trip.ok fun hok => ?_
  replace hok : ∀ id o, H id = some o → id < nx := hok
  repeat (first | (refine OpsL.p (by subst_vars; decide) (by (first | (exact aop_move (by (first | (simp only [ASt.ev, tmPut, ↓reduceIte, Nat.reduceEqDiff, *]; rfl)))) | (exact aop_assign (by (first | (simp only [ASt.ev, tmPut, ↓reduceIte, Nat.reduceEqDiff, *]; rfl)))) | (exact aop_len (by (first | (simp only [ASt.ev, tmPut, ↓reduceIte, Nat.reduceEqDiff, *]; rfl))) (by exact rfl)))) ?_) | (refine Trip.seq ?_) | (refine Trip.ops ?_) | (refine Trip.block ?_) | (refine OpsL.nil ?_; (change Trip _ _ _ _ _)))
  refine Trip.inv (fun (i : Nat) s => ∃ (tm : Nat → Value) (nx' : Nat) (H' : Heap), s = ⟨tm, n, H', nx'⟩ ∧ Ext nx H nx' H' ∧
      tm 1 = .func (.func f) #[] cap ∧ tm 7 = .slice xa xs.length xc ∧ tm 8 = .int .i64 xs.length ∧ tm 9 = .int .i64 i ∧ i ≤ xs.length ∧ (xs.take i).all p = true) (fun i => xs.length - i) 0 ?_ ?_
  · exact ⟨_, _, _, rfl, Ext.refl, by simp [tmPut, *], by simp [tmPut, *], by simp [tmPut, *], by simp [tmPut, *], by omega, rfl⟩
  · clear e0 e1
    rintro i s ⟨tm, nx', H', rfl, hext, e1, e7, e8, e9, hi, hall⟩
    repeat (first | (refine OpsL.p (by subst_vars; decide) (by (first | (exact aop_lss (by (first | (simp only [ASt.ev, tmPut, ↓reduceIte, Nat.reduceEqDiff, *]; rfl))) (by (first | (simp only [ASt.ev, tmPut, ↓reduceIte, Nat.reduceEqDiff, *]; rfl)))))) ?_) | (refine Trip.seq ?_) | (refine Trip.ops ?_) | (refine Trip.block ?_) | (refine Trip.ite (by (first | (simp only [ASt.ev, tmPut, ↓reduceIte, Nat.reduceEqDiff, *]; rfl))) (fun _ => ?_) (fun _ => ?_)) | (refine Trip.skip ?_; (change Trip _ _ _ _ _)) | (refine OpsL.nil ?_; (change Trip _ _ _ _ _)))
    · have hlt : i < xs.length := by omega
      obtain ⟨q, rfl, hc⟩ := rows_at hx hlt
      replace hc := getc_ext hext hok hc
      repeat (first | (refine OpsL.p (by subst_vars; decide) (by (first | (exact aop_indexAddr (by (first | (simp only [ASt.ev, tmPut, ↓reduceIte, Nat.reduceEqDiff, *]; rfl))) (by (first | (simp only [ASt.ev, tmPut, ↓reduceIte, Nat.reduceEqDiff, *]; rfl))) (by exact rfl) (by exact rfl) (by omega) (by omega)))) ?_))
      refine OpsL.p (by subst_vars; decide) (aop_loadAgg (k := 3) (by (first | (simp only [ASt.ev, tmPut, ↓reduceIte, Nat.reduceEqDiff, *]; rfl))) (by exact rfl) rfl (by exact rfl) hc) ?_
      refine OpsL.new (by subst_vars; decide) (aop_alloc (l := rep 3 [.int .i64 0]) (by exact rfl)) ?_
      refine OpsL.upd (aop_store (k := 3) (by (first | (simp only [ASt.ev, tmPut, ↓reduceIte, Nat.reduceEqDiff, *]; rfl))) (by (first | (simp only [ASt.ev, tmPut, ↓reduceIte, Nat.reduceEqDiff, *]; rfl))) (by exact rfl) rfl (o := .cells (e3 xs[i]) 0 none false (some 40)) (by simp [setc, Heap.put, Value.cells, e3, rep, Value.oneCell'])) ?_
      repeat (first | (refine OpsL.p (by subst_vars; decide) (by (first | (exact aop_move (by (first | (simp only [ASt.ev, tmPut, ↓reduceIte, Nat.reduceEqDiff, *]; rfl)))))) ?_) | (refine Trip.seq ?_) | (refine Trip.ops ?_) | (refine OpsL.nil ?_; (change Trip _ _ _ _ _)))
      refine OpsL.p (by subst_vars; decide) (aop_loadAgg (k := 3) (vs := e3 xs[i]) (by (first | (simp only [ASt.ev, tmPut, ↓reduceIte, Nat.reduceEqDiff, *]; done))) (by exact rfl) rfl (by exact rfl) (getc_all Heap.put_eq rfl)) ?_
      refine OpsL.callV1 (cap := cap) (by subst_vars; decide) (by (first | (simp only [ASt.ev, tmPut, ↓reduceIte, Nat.reduceEqDiff, *]; done))) (by (first | (simp only [ASt.ev, tmPut, ↓reduceIte, Nat.reduceEqDiff, *]; rfl))) hf (hp _ _ _ (hext.trans (Ext.newPut.put (Nat.le_refl _)))) ?_
      rintro v2 n2 H2 ⟨rfl, hx2⟩
      replace hx2 := (hext.trans (Ext.newPut.put (Nat.le_refl _))).trans hx2
      cases hs : p xs[i]
      · repeat (first | (refine OpsL.p (by subst_vars; decide) (by (first | (exact aop_not (by (first | (simp only [ASt.ev, tmPut, ↓reduceIte, Nat.reduceEqDiff, *]; rfl)))))) ?_) | (refine OpsL.nil ?_; (change Trip _ _ _ _ _)))
        refine Trip.iteB (b := true) (by (first | (simp only [ASt.ev, tmPut, ↓reduceIte, Nat.reduceEqDiff, *]; rfl))) (fun _ => ?_) (fun h => absurd h (by decide))
        repeat (first | (refine OpsL.p (by subst_vars; decide) (by (first | (exact aop_assign (by (first | (simp only [ASt.ev, tmPut, ↓reduceIte, Nat.reduceEqDiff, *]; rfl)))))) ?_) | (refine Trip.seq ?_) | (refine Trip.ops ?_) | (refine Trip.ret ?_; ((repeat (refine blockExit_ret ?_)); dsimp only)) | (refine OpsL.nil ?_; (change Trip _ _ _ _ _)))
        exact ⟨.inr rfl, _, res_tmp, by simp [tmPut, all_no hlt hs], hx2⟩
      · repeat (first | (refine OpsL.p (by subst_vars; decide) (by (first | (exact aop_not (by (first | (simp only [ASt.ev, tmPut, ↓reduceIte, Nat.reduceEqDiff, *]; rfl)))))) ?_) | (refine OpsL.nil ?_; (change Trip _ _ _ _ _)))
        refine Trip.iteB (b := false) (by (first | (simp only [ASt.ev, tmPut, ↓reduceIte, Nat.reduceEqDiff, *]; rfl))) (fun h => absurd h (by decide)) (fun _ => ?_)
        repeat (first | (refine OpsL.p (by subst_vars; decide) (by (first | (exact aop_move (by (first | (simp only [ASt.ev, tmPut, ↓reduceIte, Nat.reduceEqDiff, *]; rfl)))) | (exact aop_add (by (first | (simp only [ASt.ev, tmPut, ↓reduceIte, Nat.reduceEqDiff, *]; rfl))) (by (first | (simp only [ASt.ev, tmPut, ↓reduceIte, Nat.reduceEqDiff, *]; rfl))) (by omega)))) ?_) | (refine Trip.ops ?_) | (refine Trip.skip ?_; ((repeat (refine blockExit_normal ?_)); change Trip _ _ _ _ _)) | (refine OpsL.nil ?_; (dsimp only)))
        exact ⟨i + 1, ⟨_, _, _, rfl, hx2, by simp [tmPut, *], by simp [tmPut, *], by simp [tmPut, *], by simp [tmPut, *], by omega, all_take hlt hall hs⟩, by omega⟩
    · repeat (first | (refine OpsL.p (by subst_vars; decide) (by (first | (exact aop_assign (by (first | (simp only [ASt.ev, tmPut, ↓reduceIte, Nat.reduceEqDiff, *]; rfl)))))) ?_) | (refine Trip.seq ?_) | (refine Trip.ops ?_) | (refine Trip.exit ?_; ((repeat (refine blockExit_eq ?_)); change Trip _ _ _ _ _)) | (refine Trip.ret ?_; (dsimp only)) | (refine OpsL.nil ?_; (change Trip _ _ _ _ _)))
      have hi2 : i = xs.length := by omega
      subst hi2
      rw [List.take_length] at hall
      exact ⟨.inr rfl, _, res_tmp, by simp [tmPut, hall], hext⟩
end Go.Proofs.YtmhikbgegdphnaaGreat
