import Derived.Test.YtmhikbgegdphnaaGreatQAll3
namespace Go.Proofs.YtmhikbgegdphnaaGreat
set_option linter.unusedSimpArgs false
set_option linter.unusedVariables false
open Go.Am Go.RowKit
attribute [local irreducible] aop OpsL Trip blockExit OpsD
set_option maxRecDepth 20000 in
set_option maxHeartbeats 8000000 in
theorem checkC (W0 : World) {nx : Nat} {H : Heap} {lv : Value} {ss : List (ByteArray × Int)} {a : Aut} {vi vf vo vc vn : Value} (hl : SymsAt H lv ss) (hss : ss.length ≤ 1000) (ha : AutIn H a vi vf vo vc vn) (hn : AutLen a) :
    ACalls Tryz.prog W0 15 [lv, .agg (autV a vi vf vo vc vn).toArray] nx H fun v nx' H' => v = .int .i64 (if checkF ss a then 0 else 9) ∧ Ext nx H nx' H' := by
  refine ACalls.by_trip (fn := Tryz.f15) (c := _) Tryz.func15 rfl (fun tm n hn0 htm => ?_)
  have e0 : tm 0 = lv := htm 0
  have e1 : tm 1 = .agg (autV a vi vf vo vc vn).toArray := htm 1
  clear htm
  replace hn0 : n = 47 := hn0
  refine Trip.ok fun hok => ?_
  replace hok : ∀ id o, H id = some o → id < nx := hok
  have hlc : lv.cells.toList = [lv] := by obtain ⟨la, lc, rfl, _⟩ := hl; rfl
  refine Trip.seq ?_
  refine Trip.ops ?_
  refine OpsL.new (by subst_vars; decide) (aop_box (v := lv) (by (first | (simp only [ASt.ev, tmPut, ↓reduceIte, Nat.reduceEqDiff, *]; done)))) ?_
  refine OpsL.new (by subst_vars; decide) (aop_box (v := .agg (autV a vi vf vo vc vn).toArray) (by (first | (simp only [ASt.ev, tmPut, ↓reduceIte, Nat.reduceEqDiff, *]; done)))) ?_
  repeat (first | (refine OpsL.p (by subst_vars; decide) (by (first | (exact aop_assign (by (first | (simp only [ASt.ev, tmPut, ↓reduceIte, Nat.reduceEqDiff, *]; rfl)))))) ?_) | (refine Trip.seq ?_) | (refine Trip.ops ?_) | (refine OpsL.nil ?_; (change Trip _ _ _ _ _)))
  refine OpsL.p (by subst_vars; decide) (aop_makeFunc (a := []) (b := [.pointer (some ⟨nx + 1, 0, none⟩)]) rfl rfl) ?_
  refine OpsL.new (by subst_vars; decide) (aop_alloc (l := [.nilFunc]) (by exact rfl)) ?_
  refine OpsL.storeAt 0 (by (first | (simp only [ASt.ev, tmPut, ↓reduceIte, Nat.reduceEqDiff, *]; rfl))) (by (first | (simp only [ASt.ev, tmPut, ↓reduceIte, Nat.reduceEqDiff, *]; rfl))) (by exact rfl) rfl rfl Heap.put_eq rfl (by decide) rfl ?_
  repeat (first | (refine Trip.seq ?_) | (refine Trip.ops ?_) | (refine OpsL.nil ?_; (change Trip _ _ _ _ _)))
  refine OpsL.p (by subst_vars; decide) (aop_makeFunc (a := []) (b := [.pointer (some ⟨nx, 0, none⟩)]) rfl rfl) ?_
  refine OpsL.new (by subst_vars; decide) (aop_alloc (l := [.nilFunc]) (by exact rfl)) ?_
  refine OpsL.storeAt 0 (by (first | (simp only [ASt.ev, tmPut, ↓reduceIte, Nat.reduceEqDiff, *]; rfl))) (by (first | (simp only [ASt.ev, tmPut, ↓reduceIte, Nat.reduceEqDiff, *]; rfl))) (by exact rfl) rfl rfl Heap.put_eq rfl (by decide) rfl ?_
  repeat (first | (refine Trip.seq ?_) | (refine Trip.ops ?_) | (refine OpsL.nil ?_; (change Trip _ _ _ _ _)))
  refine OpsL.p (by subst_vars; decide) (aop_makeFunc (a := []) (b := [.pointer (some ⟨nx + 1 + 1, 0, none⟩), .pointer (some ⟨nx + 1 + 1 + 1, 0, none⟩), .pointer (some ⟨nx + 1, 0, none⟩)]) rfl rfl) ?_
  repeat (first | (refine OpsL.p (by subst_vars; decide) (by (first | (exact aop_assign (by (first | (simp only [ASt.ev, tmPut, ↓reduceIte, Nat.reduceEqDiff, *]; rfl)))))) ?_) | (refine Trip.seq ?_) | (refine Trip.ops ?_) | (refine OpsL.nil ?_; (change Trip _ _ _ _ _)))
  refine OpsL.p (by subst_vars; decide) (aop_makeFunc (a := []) (b := [.pointer (some ⟨nx + 1 + 1, 0, none⟩), .pointer (some ⟨nx + 1 + 1 + 1, 0, none⟩), .pointer (some ⟨nx + 1, 0, none⟩)]) rfl rfl) ?_
  repeat (first | (refine OpsL.p (by subst_vars; decide) (by (first | (exact aop_assign (by (first | (simp only [ASt.ev, tmPut, ↓reduceIte, Nat.reduceEqDiff, *]; rfl)))))) ?_) | (refine Trip.seq ?_) | (refine Trip.ops ?_) | (refine OpsL.nil ?_; (change Trip _ _ _ _ _)))
  refine OpsL.p (by subst_vars; decide) (aop_makeFunc (a := []) (b := [.pointer (some ⟨nx + 1 + 1, 0, none⟩), .pointer (some ⟨nx + 1 + 1 + 1, 0, none⟩)]) rfl rfl) ?_
  repeat (first | (refine OpsL.p (by subst_vars; decide) (by (first | (exact aop_assign (by (first | (simp only [ASt.ev, tmPut, ↓reduceIte, Nat.reduceEqDiff, *]; rfl)))))) ?_) | (refine Trip.seq ?_) | (refine Trip.ops ?_) | (refine OpsL.nil ?_; (change Trip _ _ _ _ _)))
  obtain ⟨F, hF⟩ : ∃ F, F = ((((((H.put nx (.cells lv.cells.toList 0 none false (some 24))).put (nx + 1) (.cells (autV a vi vf vo vc vn) 0 none false (some 30))).put (nx + 1 + 1) (.cells [.nilFunc] 0 none false (some 54))).put (nx + 1 + 1) (.cells [.func (.func 31) #[] #[.pointer (some ⟨nx + 1, 0, none⟩)]] 0 none false (some 54))).put (nx + 1 + 1 + 1) (.cells [.nilFunc] 0 none false (some 55))).put (nx + 1 + 1 + 1) (.cells [.func (.func 32) #[] #[.pointer (some ⟨nx, 0, none⟩)]] 0 none false (some 55))) := ⟨_, rfl⟩
  change OpsL _ _ _ _ (ASt.mk _ _ ((((((H.put nx (.cells lv.cells.toList 0 none false (some 24))).put (nx + 1) (.cells (autV a vi vf vo vc vn) 0 none false (some 30))).put (nx + 1 + 1) (.cells [.nilFunc] 0 none false (some 54))).put (nx + 1 + 1) (.cells [.func (.func 31) #[] #[.pointer (some ⟨nx + 1, 0, none⟩)]] 0 none false (some 54))).put (nx + 1 + 1 + 1) (.cells [.nilFunc] 0 none false (some 55))).put (nx + 1 + 1 + 1) (.cells [.func (.func 32) #[] #[.pointer (some ⟨nx, 0, none⟩)]] 0 none false (some 55))) _) _
  rw [← hF]
  have hx0 : Ext nx H (nx + 1 + 1 + 1 + 1) F := by
    rw [hF]
    exact ⟨by omega, fun i hi => by rw [Heap.put_ne (by omega), Heap.put_ne (by omega), Heap.put_ne (by omega), Heap.put_ne (by omega), Heap.put_ne (by omega), Heap.put_ne (by omega)]⟩
  have f0 : F nx = some (.cells [lv] 0 none false (some 24)) := by rw [hF, Heap.put_ne (by omega), Heap.put_ne (by omega), Heap.put_ne (by omega), Heap.put_ne (by omega), Heap.put_ne (by omega), Heap.put_eq, hlc]
  have f1 : F (nx + 1) = some (.cells (autV a vi vf vo vc vn) 0 none false (some 30)) := by rw [hF, Heap.put_ne (by omega), Heap.put_ne (by omega), Heap.put_ne (by omega), Heap.put_ne (by omega), Heap.put_eq]
  have f2 : F (nx + 1 + 1) = some (.cells [.func (.func 31) #[] #[.pointer (some ⟨nx + 1, 0, none⟩)]] 0 none false (some 54)) := by rw [hF, Heap.put_ne (by omega), Heap.put_ne (by omega), Heap.put_eq]
  have f3 : F (nx + 1 + 1 + 1) = some (.cells [.func (.func 32) #[] #[.pointer (some ⟨nx, 0, none⟩)]] 0 none false (some 55)) := by rw [hF, Heap.put_eq]
  have hctx : Ctx F nx (nx + 1) (nx + 1 + 1) (nx + 1 + 1 + 1) lv a.N a.G := ⟨cell_of f0 rfl, cell_of f1 rfl, cell_of f1 rfl, cell_of f2 rfl, cell_of f3 rfl⟩
  replace hl := hl.ext hx0 hok
  replace ha := ha.ext hx0 hok
  have hokF : ∀ id o, F id = some o → id < nx + 1 + 1 + 1 + 1 := fun id o h => by
    by_cases c : id < nx + 4
    · omega
    · rw [hF, Heap.put_ne (by omega), Heap.put_ne (by omega), Heap.put_ne (by omega), Heap.put_ne (by omega), Heap.put_ne (by omega), Heap.put_ne (by omega)] at h
      have := hok id o h
      omega
  clear hF e0 e1 hlc hok
  refine OpsL.p (by subst_vars; decide) (aop_loadAgg (k := 7) (by (first | (simp only [ASt.ev, tmPut, ↓reduceIte, Nat.reduceEqDiff, *]; done))) (by exact rfl) rfl (by exact rfl) (getc_all f1 rfl)) ?_
  refine OpsL.call1 (by subst_vars; decide) (by (first | (simp only [ASt.ev, tmPut, ↓reduceIte, Nat.reduceEqDiff, *]; done))) entersSize (sizeC W0 ha hn) ?_
  rintro v nx1 G1 ⟨rfl, X1⟩
  cases hs1 : sizeF a
  · repeat (first | (refine OpsL.p (by subst_vars; decide) (by (first | (exact aop_move (by (first | (simp only [ASt.ev, tmPut, ↓reduceIte, Nat.reduceEqDiff, *]; rfl)))) | (exact aop_pickF (by (first | (simp only [ASt.ev, tmPut, ↓reduceIte, Nat.reduceEqDiff, *]; done) | (simp only [ASt.ev, tmPut, ↓reduceIte, Nat.reduceEqDiff, *]; rfl))) (by (first | (simp only [ASt.ev, tmPut, ↓reduceIte, Nat.reduceEqDiff, *]; rfl)))))) ?_) | (refine OpsL.nil ?_; (change Trip _ _ _ _ _)) | (refine OpsL.skipped (by exact rfl) (by (first | (simp only [ASt.ev, tmPut, ↓reduceIte, Nat.reduceEqDiff, *]; done) | (simp only [ASt.ev, tmPut, ↓reduceIte, Nat.reduceEqDiff, *]; rfl))) (by subst_vars; decide) ?_))
    refine Trip.iteB (b := false) (by (first | (simp only [ASt.ev, tmPut, ↓reduceIte, Nat.reduceEqDiff, *]; done))) (fun h => absurd h (by decide)) (fun _ => ?_)
    repeat (first | (refine OpsL.p (by subst_vars; decide) (by (first | (exact aop_assign (by (first | (simp only [ASt.ev, tmPut, ↓reduceIte, Nat.reduceEqDiff, *]; rfl)))))) ?_) | (refine Trip.seq ?_) | (refine Trip.ops ?_) | (refine Trip.skip ?_; (change Trip _ _ _ _ _)) | (refine Trip.ret ?_; (dsimp only)) | (refine OpsL.nil ?_; (change Trip _ _ _ _ _)))
    exact ⟨.inr rfl, _, res_tmp, by simp [tmPut, checkF, *], hx0.trans X1⟩
  have g1 : cellAt G1 ⟨nx + 1, 2, none⟩ vi := cell_ext X1 hokF (cell_of f1 rfl)
  have c51 := (hctx.ext X1 hokF).c5
  repeat (first | (refine OpsL.p (by subst_vars; decide) (by (first | (exact aop_move (by (first | (simp only [ASt.ev, tmPut, ↓reduceIte, Nat.reduceEqDiff, *]; rfl)))) | (exact aop_fieldAddr (by (first | (simp only [ASt.ev, tmPut, ↓reduceIte, Nat.reduceEqDiff, *]; rfl))) (by exact rfl)) | (exact aop_load (by (first | (simp only [ASt.ev, tmPut, ↓reduceIte, Nat.reduceEqDiff, *]; rfl))) (by exact rfl) rfl (by assumption)))) ?_) | (refine OpsL.unguard (by exact rfl) (by (first | (simp only [ASt.ev, tmPut, ↓reduceIte, Nat.reduceEqDiff, *]; done))) ?_))
  refine OpsL.call2 (by subst_vars; decide) (by (first | (simp only [ASt.ev, tmPut, ↓reduceIte, Nat.reduceEqDiff, *]; done))) (by (first | (simp only [ASt.ev, tmPut, ↓reduceIte, Nat.reduceEqDiff, *]; done))) entersAllI (allIC W0 (cap := #[.pointer (some ⟨nx + 1, 0, none⟩)]) (p := stF a.N) entersState (ha.init.ext X1 hokF) hn.init (fun x nx1' H1' hx' => (stateC W0 x (hctx.ext (X1.trans hx') hokF).cN).mono fun v n h ⟨q, q1, q2⟩ => ⟨q, by rw [q1, q2]; exact Ext.refl⟩)) ?_
  rintro v nx2 G2 ⟨rfl, Y2⟩
  have X2 := X1.trans Y2
  cases hs2 : a.init.all (stF a.N)
  · repeat (first | (refine OpsL.p (by subst_vars; decide) (by (first | (exact aop_move (by (first | (simp only [ASt.ev, tmPut, ↓reduceIte, Nat.reduceEqDiff, *]; rfl)))) | (exact aop_pickT (by (first | (simp only [ASt.ev, tmPut, ↓reduceIte, Nat.reduceEqDiff, *]; done) | (simp only [ASt.ev, tmPut, ↓reduceIte, Nat.reduceEqDiff, *]; rfl))) (by (first | (simp only [ASt.ev, tmPut, ↓reduceIte, Nat.reduceEqDiff, *]; rfl)))) | (exact aop_pickF (by (first | (simp only [ASt.ev, tmPut, ↓reduceIte, Nat.reduceEqDiff, *]; done) | (simp only [ASt.ev, tmPut, ↓reduceIte, Nat.reduceEqDiff, *]; rfl))) (by (first | (simp only [ASt.ev, tmPut, ↓reduceIte, Nat.reduceEqDiff, *]; rfl)))))) ?_) | (refine OpsL.nil ?_; (change Trip _ _ _ _ _)) | (refine OpsL.skipped (by exact rfl) (by (first | (simp only [ASt.ev, tmPut, ↓reduceIte, Nat.reduceEqDiff, *]; done) | (simp only [ASt.ev, tmPut, ↓reduceIte, Nat.reduceEqDiff, *]; rfl))) (by subst_vars; decide) ?_))
    refine Trip.iteB (b := false) (by (first | (simp only [ASt.ev, tmPut, ↓reduceIte, Nat.reduceEqDiff, *]; done))) (fun h => absurd h (by decide)) (fun _ => ?_)
    repeat (first | (refine OpsL.p (by subst_vars; decide) (by (first | (exact aop_assign (by (first | (simp only [ASt.ev, tmPut, ↓reduceIte, Nat.reduceEqDiff, *]; rfl)))))) ?_) | (refine Trip.seq ?_) | (refine Trip.ops ?_) | (refine Trip.skip ?_; (change Trip _ _ _ _ _)) | (refine Trip.ret ?_; (dsimp only)) | (refine OpsL.nil ?_; (change Trip _ _ _ _ _)))
    exact ⟨.inr rfl, _, res_tmp, by simp [tmPut, checkF, *], hx0.trans X2⟩
  have g2 : cellAt G2 ⟨nx + 1, 3, none⟩ vf := cell_ext X2 hokF (cell_of f1 rfl)
  have c52 := (hctx.ext X2 hokF).c5
  repeat (first | (refine OpsL.p (by subst_vars; decide) (by (first | (exact aop_move (by (first | (simp only [ASt.ev, tmPut, ↓reduceIte, Nat.reduceEqDiff, *]; rfl)))) | (exact aop_fieldAddr (by (first | (simp only [ASt.ev, tmPut, ↓reduceIte, Nat.reduceEqDiff, *]; rfl))) (by exact rfl)) | (exact aop_load (by (first | (simp only [ASt.ev, tmPut, ↓reduceIte, Nat.reduceEqDiff, *]; rfl))) (by exact rfl) rfl (by assumption)) | (exact aop_pickT (by (first | (simp only [ASt.ev, tmPut, ↓reduceIte, Nat.reduceEqDiff, *]; done))) (by (first | (simp only [ASt.ev, tmPut, ↓reduceIte, Nat.reduceEqDiff, *]; rfl)))))) ?_) | (refine OpsL.unguard (by exact rfl) (by (first | (simp only [ASt.ev, tmPut, ↓reduceIte, Nat.reduceEqDiff, *]; done))) ?_))
  refine OpsL.call2 (by subst_vars; decide) (by (first | (simp only [ASt.ev, tmPut, ↓reduceIte, Nat.reduceEqDiff, *]; done))) (by (first | (simp only [ASt.ev, tmPut, ↓reduceIte, Nat.reduceEqDiff, *]; done))) entersAllI (allIC W0 (cap := #[.pointer (some ⟨nx + 1, 0, none⟩)]) (p := stF a.N) entersState (ha.final.ext X2 hokF) hn.final (fun x nx1' H1' hx' => (stateC W0 x (hctx.ext (X2.trans hx') hokF).cN).mono fun v n h ⟨q, q1, q2⟩ => ⟨q, by rw [q1, q2]; exact Ext.refl⟩)) ?_
  rintro v nx3 G3 ⟨rfl, Y3⟩
  have X3 := X2.trans Y3
  cases hs3 : a.final.all (stF a.N)
  · repeat (first | (refine OpsL.p (by subst_vars; decide) (by (first | (exact aop_move (by (first | (simp only [ASt.ev, tmPut, ↓reduceIte, Nat.reduceEqDiff, *]; rfl)))) | (exact aop_pickT (by (first | (simp only [ASt.ev, tmPut, ↓reduceIte, Nat.reduceEqDiff, *]; done) | (simp only [ASt.ev, tmPut, ↓reduceIte, Nat.reduceEqDiff, *]; rfl))) (by (first | (simp only [ASt.ev, tmPut, ↓reduceIte, Nat.reduceEqDiff, *]; rfl)))) | (exact aop_pickF (by (first | (simp only [ASt.ev, tmPut, ↓reduceIte, Nat.reduceEqDiff, *]; done) | (simp only [ASt.ev, tmPut, ↓reduceIte, Nat.reduceEqDiff, *]; rfl))) (by (first | (simp only [ASt.ev, tmPut, ↓reduceIte, Nat.reduceEqDiff, *]; rfl)))))) ?_) | (refine OpsL.nil ?_; (change Trip _ _ _ _ _)) | (refine OpsL.skipped (by exact rfl) (by (first | (simp only [ASt.ev, tmPut, ↓reduceIte, Nat.reduceEqDiff, *]; done) | (simp only [ASt.ev, tmPut, ↓reduceIte, Nat.reduceEqDiff, *]; rfl))) (by subst_vars; decide) ?_))
    refine Trip.iteB (b := false) (by (first | (simp only [ASt.ev, tmPut, ↓reduceIte, Nat.reduceEqDiff, *]; done))) (fun h => absurd h (by decide)) (fun _ => ?_)
    repeat (first | (refine OpsL.p (by subst_vars; decide) (by (first | (exact aop_assign (by (first | (simp only [ASt.ev, tmPut, ↓reduceIte, Nat.reduceEqDiff, *]; rfl)))))) ?_) | (refine Trip.seq ?_) | (refine Trip.ops ?_) | (refine Trip.skip ?_; (change Trip _ _ _ _ _)) | (refine Trip.ret ?_; (dsimp only)) | (refine OpsL.nil ?_; (change Trip _ _ _ _ _)))
    exact ⟨.inr rfl, _, res_tmp, by simp [tmPut, checkF, *], hx0.trans X3⟩
  have g3 : cellAt G3 ⟨nx + 1, 4, none⟩ vo := cell_ext X3 hokF (cell_of f1 rfl)
  have c53 := (hctx.ext X3 hokF).c5
  repeat (first | (refine OpsL.p (by subst_vars; decide) (by (first | (exact aop_move (by (first | (simp only [ASt.ev, tmPut, ↓reduceIte, Nat.reduceEqDiff, *]; rfl)))) | (exact aop_fieldAddr (by (first | (simp only [ASt.ev, tmPut, ↓reduceIte, Nat.reduceEqDiff, *]; rfl))) (by exact rfl)) | (exact aop_load (by (first | (simp only [ASt.ev, tmPut, ↓reduceIte, Nat.reduceEqDiff, *]; rfl))) (by exact rfl) rfl (by assumption)) | (exact aop_pickT (by (first | (simp only [ASt.ev, tmPut, ↓reduceIte, Nat.reduceEqDiff, *]; done))) (by (first | (simp only [ASt.ev, tmPut, ↓reduceIte, Nat.reduceEqDiff, *]; rfl)))))) ?_) | (refine OpsL.unguard (by exact rfl) (by (first | (simp only [ASt.ev, tmPut, ↓reduceIte, Nat.reduceEqDiff, *]; done))) ?_))
  refine OpsL.call2 (by subst_vars; decide) (by (first | (simp only [ASt.ev, tmPut, ↓reduceIte, Nat.reduceEqDiff, *]; done))) (by (first | (simp only [ASt.ev, tmPut, ↓reduceIte, Nat.reduceEqDiff, *]; done))) entersAllO (allOC W0 (cap := #[.pointer (some ⟨nx + 1 + 1, 0, none⟩), .pointer (some ⟨nx + 1 + 1 + 1, 0, none⟩), .pointer (some ⟨nx + 1, 0, none⟩)]) (p := okO ss a) entersOpen (ha.opens.ext X3 hokF) hn.opens (fun x nx1' H1' hx' => openC W0 x (hctx.ext (X3.trans hx') hokF) (hl.ext (X3.trans hx') hokF) hss)) ?_
  rintro v nx4 G4 ⟨rfl, Y4⟩
  have X4 := X3.trans Y4
  cases hs4 : a.opens.all (okO ss a)
  · repeat (first | (refine OpsL.p (by subst_vars; decide) (by (first | (exact aop_move (by (first | (simp only [ASt.ev, tmPut, ↓reduceIte, Nat.reduceEqDiff, *]; rfl)))) | (exact aop_pickT (by (first | (simp only [ASt.ev, tmPut, ↓reduceIte, Nat.reduceEqDiff, *]; done) | (simp only [ASt.ev, tmPut, ↓reduceIte, Nat.reduceEqDiff, *]; rfl))) (by (first | (simp only [ASt.ev, tmPut, ↓reduceIte, Nat.reduceEqDiff, *]; rfl)))) | (exact aop_pickF (by (first | (simp only [ASt.ev, tmPut, ↓reduceIte, Nat.reduceEqDiff, *]; done) | (simp only [ASt.ev, tmPut, ↓reduceIte, Nat.reduceEqDiff, *]; rfl))) (by (first | (simp only [ASt.ev, tmPut, ↓reduceIte, Nat.reduceEqDiff, *]; rfl)))))) ?_) | (refine OpsL.nil ?_; (change Trip _ _ _ _ _)) | (refine OpsL.skipped (by exact rfl) (by (first | (simp only [ASt.ev, tmPut, ↓reduceIte, Nat.reduceEqDiff, *]; done) | (simp only [ASt.ev, tmPut, ↓reduceIte, Nat.reduceEqDiff, *]; rfl))) (by subst_vars; decide) ?_))
    refine Trip.iteB (b := false) (by (first | (simp only [ASt.ev, tmPut, ↓reduceIte, Nat.reduceEqDiff, *]; done))) (fun h => absurd h (by decide)) (fun _ => ?_)
    repeat (first | (refine OpsL.p (by subst_vars; decide) (by (first | (exact aop_assign (by (first | (simp only [ASt.ev, tmPut, ↓reduceIte, Nat.reduceEqDiff, *]; rfl)))))) ?_) | (refine Trip.seq ?_) | (refine Trip.ops ?_) | (refine Trip.skip ?_; (change Trip _ _ _ _ _)) | (refine Trip.ret ?_; (dsimp only)) | (refine OpsL.nil ?_; (change Trip _ _ _ _ _)))
    exact ⟨.inr rfl, _, res_tmp, by simp [tmPut, checkF, *], hx0.trans X4⟩
  have g4 : cellAt G4 ⟨nx + 1, 5, none⟩ vc := cell_ext X4 hokF (cell_of f1 rfl)
  have c54 := (hctx.ext X4 hokF).c5
  repeat (first | (refine OpsL.p (by subst_vars; decide) (by (first | (exact aop_move (by (first | (simp only [ASt.ev, tmPut, ↓reduceIte, Nat.reduceEqDiff, *]; rfl)))) | (exact aop_fieldAddr (by (first | (simp only [ASt.ev, tmPut, ↓reduceIte, Nat.reduceEqDiff, *]; rfl))) (by exact rfl)) | (exact aop_load (by (first | (simp only [ASt.ev, tmPut, ↓reduceIte, Nat.reduceEqDiff, *]; rfl))) (by exact rfl) rfl (by assumption)) | (exact aop_pickT (by (first | (simp only [ASt.ev, tmPut, ↓reduceIte, Nat.reduceEqDiff, *]; done))) (by (first | (simp only [ASt.ev, tmPut, ↓reduceIte, Nat.reduceEqDiff, *]; rfl)))))) ?_) | (refine OpsL.unguard (by exact rfl) (by (first | (simp only [ASt.ev, tmPut, ↓reduceIte, Nat.reduceEqDiff, *]; done))) ?_))
  refine OpsL.call2 (by subst_vars; decide) (by (first | (simp only [ASt.ev, tmPut, ↓reduceIte, Nat.reduceEqDiff, *]; done))) (by (first | (simp only [ASt.ev, tmPut, ↓reduceIte, Nat.reduceEqDiff, *]; done))) entersAllC (allCC W0 (cap := #[.pointer (some ⟨nx + 1 + 1, 0, none⟩), .pointer (some ⟨nx + 1 + 1 + 1, 0, none⟩), .pointer (some ⟨nx + 1, 0, none⟩)]) (p := okC ss a) entersClose (ha.closes.ext X4 hokF) hn.closes (fun x nx1' H1' hx' => closeC W0 x (hctx.ext (X4.trans hx') hokF) (hl.ext (X4.trans hx') hokF) hss)) ?_
  rintro v nx5 G5 ⟨rfl, Y5⟩
  have X5 := X4.trans Y5
  cases hs5 : a.closes.all (okC ss a)
  · repeat (first | (refine OpsL.p (by subst_vars; decide) (by (first | (exact aop_move (by (first | (simp only [ASt.ev, tmPut, ↓reduceIte, Nat.reduceEqDiff, *]; rfl)))) | (exact aop_pickT (by (first | (simp only [ASt.ev, tmPut, ↓reduceIte, Nat.reduceEqDiff, *]; done) | (simp only [ASt.ev, tmPut, ↓reduceIte, Nat.reduceEqDiff, *]; rfl))) (by (first | (simp only [ASt.ev, tmPut, ↓reduceIte, Nat.reduceEqDiff, *]; rfl)))) | (exact aop_pickF (by (first | (simp only [ASt.ev, tmPut, ↓reduceIte, Nat.reduceEqDiff, *]; done) | (simp only [ASt.ev, tmPut, ↓reduceIte, Nat.reduceEqDiff, *]; rfl))) (by (first | (simp only [ASt.ev, tmPut, ↓reduceIte, Nat.reduceEqDiff, *]; rfl)))))) ?_) | (refine OpsL.nil ?_; (change Trip _ _ _ _ _)) | (refine OpsL.skipped (by exact rfl) (by (first | (simp only [ASt.ev, tmPut, ↓reduceIte, Nat.reduceEqDiff, *]; done) | (simp only [ASt.ev, tmPut, ↓reduceIte, Nat.reduceEqDiff, *]; rfl))) (by subst_vars; decide) ?_))
    refine Trip.iteB (b := false) (by (first | (simp only [ASt.ev, tmPut, ↓reduceIte, Nat.reduceEqDiff, *]; done))) (fun h => absurd h (by decide)) (fun _ => ?_)
    repeat (first | (refine OpsL.p (by subst_vars; decide) (by (first | (exact aop_assign (by (first | (simp only [ASt.ev, tmPut, ↓reduceIte, Nat.reduceEqDiff, *]; rfl)))))) ?_) | (refine Trip.seq ?_) | (refine Trip.ops ?_) | (refine Trip.skip ?_; (change Trip _ _ _ _ _)) | (refine Trip.ret ?_; (dsimp only)) | (refine OpsL.nil ?_; (change Trip _ _ _ _ _)))
    exact ⟨.inr rfl, _, res_tmp, by simp [tmPut, checkF, *], hx0.trans X5⟩
  have g5 : cellAt G5 ⟨nx + 1, 6, none⟩ vn := cell_ext X5 hokF (cell_of f1 rfl)
  have c55 := (hctx.ext X5 hokF).c5
  repeat (first | (refine OpsL.p (by subst_vars; decide) (by (first | (exact aop_move (by (first | (simp only [ASt.ev, tmPut, ↓reduceIte, Nat.reduceEqDiff, *]; rfl)))) | (exact aop_fieldAddr (by (first | (simp only [ASt.ev, tmPut, ↓reduceIte, Nat.reduceEqDiff, *]; rfl))) (by exact rfl)) | (exact aop_load (by (first | (simp only [ASt.ev, tmPut, ↓reduceIte, Nat.reduceEqDiff, *]; rfl))) (by exact rfl) rfl (by assumption)) | (exact aop_pickT (by (first | (simp only [ASt.ev, tmPut, ↓reduceIte, Nat.reduceEqDiff, *]; done))) (by (first | (simp only [ASt.ev, tmPut, ↓reduceIte, Nat.reduceEqDiff, *]; rfl)))))) ?_) | (refine OpsL.unguard (by exact rfl) (by (first | (simp only [ASt.ev, tmPut, ↓reduceIte, Nat.reduceEqDiff, *]; done))) ?_))
  refine OpsL.call2 (by subst_vars; decide) (by (first | (simp only [ASt.ev, tmPut, ↓reduceIte, Nat.reduceEqDiff, *]; done))) (by (first | (simp only [ASt.ev, tmPut, ↓reduceIte, Nat.reduceEqDiff, *]; done))) entersAllN (allNC W0 (cap := #[.pointer (some ⟨nx + 1 + 1, 0, none⟩), .pointer (some ⟨nx + 1 + 1 + 1, 0, none⟩)]) (p := okI ss a) entersStay (ha.inners.ext X5 hokF) hn.inners (fun x nx1' H1' hx' => stayC W0 x (hctx.ext (X5.trans hx') hokF) (hl.ext (X5.trans hx') hokF) hss)) ?_
  rintro v nx6 G6 ⟨rfl, Y6⟩
  have X6 := X5.trans Y6
  cases hs6 : a.inners.all (okI ss a)
  · repeat (first | (refine OpsL.p (by subst_vars; decide) (by (first | (exact aop_pickT (by (first | (simp only [ASt.ev, tmPut, ↓reduceIte, Nat.reduceEqDiff, *]; done))) (by (first | (simp only [ASt.ev, tmPut, ↓reduceIte, Nat.reduceEqDiff, *]; rfl)))))) ?_) | (refine OpsL.nil ?_; (change Trip _ _ _ _ _)))
    refine Trip.iteB (b := false) (by (first | (simp only [ASt.ev, tmPut, ↓reduceIte, Nat.reduceEqDiff, *]; done))) (fun h => absurd h (by decide)) (fun _ => ?_)
    repeat (first | (refine OpsL.p (by subst_vars; decide) (by (first | (exact aop_assign (by (first | (simp only [ASt.ev, tmPut, ↓reduceIte, Nat.reduceEqDiff, *]; rfl)))))) ?_) | (refine Trip.seq ?_) | (refine Trip.ops ?_) | (refine Trip.skip ?_; (change Trip _ _ _ _ _)) | (refine Trip.ret ?_; (dsimp only)) | (refine OpsL.nil ?_; (change Trip _ _ _ _ _)))
    exact ⟨.inr rfl, _, res_tmp, by simp [tmPut, checkF, *], hx0.trans X6⟩
  repeat (first | (refine OpsL.p (by subst_vars; decide) (by (first | (exact aop_pickT (by (first | (simp only [ASt.ev, tmPut, ↓reduceIte, Nat.reduceEqDiff, *]; done))) (by (first | (simp only [ASt.ev, tmPut, ↓reduceIte, Nat.reduceEqDiff, *]; rfl)))))) ?_) | (refine OpsL.nil ?_; (change Trip _ _ _ _ _)))
  refine Trip.iteB (b := true) (by (first | (simp only [ASt.ev, tmPut, ↓reduceIte, Nat.reduceEqDiff, *]; done))) (fun _ => ?_) (fun h => absurd h (by decide))
  repeat (first | (refine OpsL.p (by subst_vars; decide) (by (first | (exact aop_assign (by (first | (simp only [ASt.ev, tmPut, ↓reduceIte, Nat.reduceEqDiff, *]; rfl)))))) ?_) | (refine Trip.seq ?_) | (refine Trip.ops ?_) | (refine Trip.ret ?_; (dsimp only)) | (refine OpsL.nil ?_; (change Trip _ _ _ _ _)))
  exact ⟨.inr rfl, _, res_tmp, by simp [tmPut, checkF, *], hx0.trans X6⟩
end Go.Proofs.YtmhikbgegdphnaaGreat
