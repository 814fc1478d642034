/-
  The law SetsTwo of chapter 2 holds for all numbers: what both have, what one has, is the document's; the laws of sets.
  Conditions: none beyond the row's own.
-/
import Derived.Test.YtigincejpjajpaaRefB2
import Derived.Test.YtigincejpjajpaaLaw2
namespace Go.Proofs.Ytigincejpjajpaa.setsTwo
set_option linter.unusedSimpArgs false
set_option linter.unusedVariables false
open Go.Am Go.RowKit Go.ChangeShapes Go.WideShapes Go.ChangeAt
attribute [local irreducible] aop OpsL Trip blockExit OpsD OpsK OpsR

theorem entersKnown : Am.Enters Try.prog 12 := ⟨Try.f12, Try.func12, by kernel_rfl, by kernel_rfl⟩

set_option maxRecDepth 20000 in
set_option maxHeartbeats 8000000 in
theorem law (W0 : World) {nx : Nat} {H : Heap} {nv mv kv : Value} {ns ms ks : List Int} (hn : IntsAt H nv ns) (hm : IntsAt H mv ms) (hk : IntsAt H kv ks) : ACalls Try.prog W0 4 [nv, mv, kv] nx H fun v _ _ => v = .bool true := by
  obtain ⟨na, nc, rfl⟩ := hn.slice
  obtain ⟨ma, mc, rfl⟩ := hm.slice
  obtain ⟨ka, kc, rfl⟩ := hk.slice
  refine ACalls.by_trip (fn := Try.f4) (c := _) Try.func4 rfl (fun tm n hn0 htm => ?_)
  have e0 : tm 0 = .slice na ns.length nc := htm 0
  have e1 : tm 1 = .slice ma ms.length mc := htm 1
  have e2 : tm 2 = .slice ka ks.length kc := htm 2
  clear htm
  replace hn0 : n = 66 := hn0
  refine Trip.ok fun hok => ?_
  replace hok : ∀ id o, H id = some o → id < nx := hok
  repeat (first | (refine OpsL.p (by subst_vars; decide) (by (first | (exact aop_assign (by (first | (simp only [ASt.ev, tmPut, ↓reduceIte, reduceIte, Nat.reduceEqDiff, plain1, *]; rfl) | fail))) | fail)) ?_) | (refine Trip.seq ?_) | (refine Trip.ops ?_) | (refine OpsL.nil ?_; ((repeat (first | refine blockExit_eq ?_ | refine blockExit_ne (by decide) ?_ | refine blockExit_normal ?_ | refine blockExit_ret ?_ | refine blockExit_goto ?_)); first | (change Trip _ _ _ _ _) | dsimp only | skip)) | fail)
  refine OpsL.call0 (by subst_vars; decide) entersKnown ((known_told W0).2 nx H) ?_
  rintro v nx0 H0 ⟨rfl, rfl, rfl⟩
  dsimp only
  repeat (first | (refine OpsL.p (by subst_vars; decide) (by (first | (exact aop_not (by (first | (simp only [ASt.ev, tmPut, ↓reduceIte, reduceIte, Nat.reduceEqDiff, plain1, *]; rfl) | fail))) | fail)) ?_) | (refine OpsL.nil ?_; ((repeat (first | refine blockExit_eq ?_ | refine blockExit_ne (by decide) ?_ | refine blockExit_normal ?_ | refine blockExit_ret ?_ | refine blockExit_goto ?_)); first | (change Trip _ _ _ _ _) | dsimp only | skip)) | fail)
  refine Trip.iteB (b := false) (by (first | (simp only [ASt.ev, tmPut, ↓reduceIte, reduceIte, Nat.reduceEqDiff, decide_true, decide_false, not_true_eq_false, not_false_eq_true, Bool.not_true, Bool.not_false, *]; done) | fail)) (fun h => absurd h (by decide)) (fun _ => ?_)
  repeat (first | (refine OpsL.p (by subst_vars; decide) (by (first | (exact aop_move (by (first | (simp only [ASt.ev, tmPut, ↓reduceIte, reduceIte, Nat.reduceEqDiff, plain1, *]; rfl) | fail))) | fail)) ?_) | (refine Trip.seq ?_) | (refine Trip.ops ?_) | (refine Trip.skip ?_; ((repeat (first | refine blockExit_eq ?_ | refine blockExit_ne (by decide) ?_ | refine blockExit_normal ?_ | refine blockExit_ret ?_ | refine blockExit_goto ?_)); first | (change Trip _ _ _ _ _) | dsimp only | skip)) | fail)
  refine OpsL.call2 (by subst_vars; decide) (by (first | (simp only [ASt.ev, tmPut, ↓reduceIte, reduceIte, Nat.reduceEqDiff, plain1, *]; done) | fail)) (by (first | (simp only [ASt.ev, tmPut, ↓reduceIte, reduceIte, Nat.reduceEqDiff, plain1, *]; rfl) | fail)) entersLPairs (lpairsC W0 (most := 20) hn (by omega)).ok ?_
  rintro va nxa Ha ⟨⟨oa, wa, xa, -⟩, ka'⟩
  have la : (pairsF ns 20).length ≤ 20 := by unfold pairsF; rw [List.length_map, List.length_take]; omega
  generalize pairsF ns 20 = ra at *
  have pa := wa.at encP_len
  replace hm := hm.ext xa hok
  replace hk := hk.ext xa hok
  replace hok := ka'
  clear wa xa ka'
  repeat (first | (refine OpsL.p (by subst_vars; decide) (by (first | (exact aop_move (by (first | (simp only [ASt.ev, tmPut, ↓reduceIte, reduceIte, Nat.reduceEqDiff, plain1, *]; rfl) | fail))) | fail)) ?_) | fail)
  refine OpsL.call2 (by subst_vars; decide) (by (first | (simp only [ASt.ev, tmPut, ↓reduceIte, reduceIte, Nat.reduceEqDiff, plain1, *]; done) | fail)) (by (first | (simp only [ASt.ev, tmPut, ↓reduceIte, reduceIte, Nat.reduceEqDiff, plain1, *]; rfl) | fail)) entersLPairs (lpairsC W0 (most := 20) hm (by omega)).ok ?_
  rintro vb nxb Hb ⟨⟨ob, wb, xb, -⟩, kb'⟩
  have lb : (pairsF ms 20).length ≤ 20 := by unfold pairsF; rw [List.length_map, List.length_take]; omega
  generalize pairsF ms 20 = rb at *
  have pb := wb.at encP_len
  replace pa := RowsAt.ext xb hok pa
  replace hk := hk.ext xb hok
  replace hok := kb'
  clear wb xb kb'
  repeat (first | (refine OpsL.p (by subst_vars; decide) (by (first | (exact aop_move (by (first | (simp only [ASt.ev, tmPut, ↓reduceIte, reduceIte, Nat.reduceEqDiff, plain1, *]; rfl) | fail))) | fail)) ?_) | fail)
  refine OpsL.call2 (by subst_vars; decide) (by (first | (simp only [ASt.ev, tmPut, ↓reduceIte, reduceIte, Nat.reduceEqDiff, plain1, *]; done) | fail)) (by (first | (simp only [ASt.ev, tmPut, ↓reduceIte, reduceIte, Nat.reduceEqDiff, plain1, *]; rfl) | fail)) entersLPairs (lpairsC W0 (most := 20) hk (by omega)).ok ?_
  rintro vc nxc Hc ⟨⟨oc, wc, xc, -⟩, kc'⟩
  have lc : (pairsF ks 20).length ≤ 20 := by unfold pairsF; rw [List.length_map, List.length_take]; omega
  generalize pairsF ks 20 = rc at *
  have pc := wc.at encP_len
  replace pa := RowsAt.ext xc hok pa
  replace pb := RowsAt.ext xc hok pb
  replace hok := kc'
  clear wc xc kc' e0 e1 e2 hn hm hk
  -- the law
  repeat (first | (refine OpsL.p (by subst_vars; decide) (by (first | (exact aop_move (by (first | (simp only [ASt.ev, tmPut, ↓reduceIte, reduceIte, Nat.reduceEqDiff, plain1, *]; rfl) | fail))) | (exact aop_assign (by (first | (simp only [ASt.ev, tmPut, ↓reduceIte, reduceIte, Nat.reduceEqDiff, plain1, *]; rfl) | fail))) | fail)) ?_) | (refine Trip.seq ?_) | (refine Trip.ops ?_) | (refine OpsL.nil ?_; ((repeat (first | refine blockExit_eq ?_ | refine blockExit_ne (by decide) ?_ | refine blockExit_normal ?_ | refine blockExit_ret ?_ | refine blockExit_goto ?_)); first | (change Trip _ _ _ _ _) | dsimp only | skip)) | fail)
  refine OpsL.call2 (by subst_vars; decide) (by (first | (simp only [ASt.ev, tmPut, ↓reduceIte, reduceIte, Nat.reduceEqDiff, plain1, *]; done) | fail)) (by (first | (simp only [ASt.ev, tmPut, ↓reduceIte, reduceIte, Nat.reduceEqDiff, plain1, *]; done) | fail)) entersBothS (bothC W0 pa pb (by omega) (by omega)).ok ?_
  rintro v1 nx1 H1 ⟨⟨o1, r1, s1, m1, l1, w1, x1, -⟩, k1⟩
  replace pa := RowsAt.ext x1 hok pa
  replace pb := RowsAt.ext x1 hok pb
  replace pc := RowsAt.ext x1 hok pc
  have p1 := w1.at encP_len
  replace hok := k1
  clear w1 x1 k1
  repeat (first | (refine OpsL.p (by subst_vars; decide) (by (first | (exact aop_move (by (first | (simp only [ASt.ev, tmPut, ↓reduceIte, reduceIte, Nat.reduceEqDiff, plain1, *]; rfl) | fail))) | fail)) ?_) | fail)
  refine OpsL.call2 (by subst_vars; decide) (by (first | (simp only [ASt.ev, tmPut, ↓reduceIte, reduceIte, Nat.reduceEqDiff, plain1, *]; done) | fail)) (by (first | (simp only [ASt.ev, tmPut, ↓reduceIte, reduceIte, Nat.reduceEqDiff, plain1, *]; done) | fail)) entersBothR (rbothC W0 pa pb (by omega) (by omega)).ok ?_
  rintro v2 nx2 H2 ⟨⟨o2, r2, s2, m2, l2, w2, x2, -⟩, k2⟩
  replace pa := RowsAt.ext x2 hok pa
  replace pb := RowsAt.ext x2 hok pb
  replace pc := RowsAt.ext x2 hok pc
  replace p1 := RowsAt.ext x2 hok p1
  have p2 := w2.at encP_len
  replace hok := k2
  clear w2 x2 k2
  repeat fail
  refine OpsL.call2 (by subst_vars; decide) (by (first | (simp only [ASt.ev, tmPut, ↓reduceIte, reduceIte, Nat.reduceEqDiff, plain1, *]; done) | fail)) (by (first | (simp only [ASt.ev, tmPut, ↓reduceIte, reduceIte, Nat.reduceEqDiff, plain1, *]; done) | fail)) entersSameR (sameC W0 p1 p2 (by omega) (by omega)) ?_
  rintro _ _ _ ⟨rfl, rfl, rfl⟩
  rw [decide_eq_true (strict_ext r1 r2 s1 s2 fun z => by rw [m1, m2])]
  clear p1 s1 m1 l1
  clear p2 s2 m2 l2
  repeat (first | (refine OpsL.p (by subst_vars; decide) (by (first | (exact aop_move (by (first | (simp only [ASt.ev, tmPut, ↓reduceIte, reduceIte, Nat.reduceEqDiff, plain1, *]; rfl) | fail))) | fail)) ?_) | (refine OpsL.unguard (by exact rfl) (by (first | (simp only [ASt.ev, tmPut, ↓reduceIte, reduceIte, Nat.reduceEqDiff, decide_true, decide_false, not_true_eq_false, not_false_eq_true, Bool.not_true, Bool.not_false, *]; done) | fail)) ?_) | fail)
  refine OpsL.call2 (by subst_vars; decide) (by (first | (simp only [ASt.ev, tmPut, ↓reduceIte, reduceIte, Nat.reduceEqDiff, plain1, *]; done) | fail)) (by (first | (simp only [ASt.ev, tmPut, ↓reduceIte, reduceIte, Nat.reduceEqDiff, plain1, *]; done) | fail)) entersJoinS (joinC W0 pa pb (by omega)).ok ?_
  rintro v3 nx3 H3 ⟨⟨o3, r3, s3, m3, l3, w3, x3, -⟩, k3⟩
  replace pa := RowsAt.ext x3 hok pa
  replace pb := RowsAt.ext x3 hok pb
  replace pc := RowsAt.ext x3 hok pc
  have p3 := w3.at encP_len
  replace hok := k3
  clear w3 x3 k3
  repeat (first | (refine OpsL.p (by subst_vars; decide) (by (first | (exact aop_move (by (first | (simp only [ASt.ev, tmPut, ↓reduceIte, reduceIte, Nat.reduceEqDiff, plain1, *]; rfl) | fail))) | fail)) ?_) | (refine OpsL.unguard (by exact rfl) (by (first | (simp only [ASt.ev, tmPut, ↓reduceIte, reduceIte, Nat.reduceEqDiff, decide_true, decide_false, not_true_eq_false, not_false_eq_true, Bool.not_true, Bool.not_false, *]; done) | fail)) ?_) | fail)
  refine OpsL.call2 (by subst_vars; decide) (by (first | (simp only [ASt.ev, tmPut, ↓reduceIte, reduceIte, Nat.reduceEqDiff, plain1, *]; done) | fail)) (by (first | (simp only [ASt.ev, tmPut, ↓reduceIte, reduceIte, Nat.reduceEqDiff, plain1, *]; done) | fail)) entersJoinR (rjoinC W0 pa pb (by omega)).ok ?_
  rintro v4 nx4 H4 ⟨⟨o4, r4, s4, m4, l4, w4, x4, -⟩, k4⟩
  replace pa := RowsAt.ext x4 hok pa
  replace pb := RowsAt.ext x4 hok pb
  replace pc := RowsAt.ext x4 hok pc
  replace p3 := RowsAt.ext x4 hok p3
  have p4 := w4.at encP_len
  replace hok := k4
  clear w4 x4 k4
  repeat (first | (refine OpsL.unguard (by exact rfl) (by (first | (simp only [ASt.ev, tmPut, ↓reduceIte, reduceIte, Nat.reduceEqDiff, decide_true, decide_false, not_true_eq_false, not_false_eq_true, Bool.not_true, Bool.not_false, *]; done) | fail)) ?_) | fail)
  refine OpsL.call2 (by subst_vars; decide) (by (first | (simp only [ASt.ev, tmPut, ↓reduceIte, reduceIte, Nat.reduceEqDiff, plain1, *]; done) | fail)) (by (first | (simp only [ASt.ev, tmPut, ↓reduceIte, reduceIte, Nat.reduceEqDiff, plain1, *]; done) | fail)) entersSameR (sameC W0 p3 p4 (by omega) (by omega)) ?_
  rintro _ _ _ ⟨rfl, rfl, rfl⟩
  rw [decide_eq_true (strict_ext r3 r4 s3 s4 fun z => by rw [m3, m4])]
  clear p3 s3 m3 l3
  clear p4 s4 m4 l4
  repeat (first | (refine OpsL.p (by subst_vars; decide) (by (first | (exact aop_move (by (first | (simp only [ASt.ev, tmPut, ↓reduceIte, reduceIte, Nat.reduceEqDiff, plain1, *]; rfl) | fail))) | (exact aop_pickT (by (first | (simp only [ASt.ev, tmPut, ↓reduceIte, reduceIte, Nat.reduceEqDiff, decide_true, decide_false, not_true_eq_false, not_false_eq_true, Bool.not_true, Bool.not_false, *]; done) | fail)) (by (first | (simp only [ASt.ev, tmPut, ↓reduceIte, reduceIte, Nat.reduceEqDiff, plain1, *]; rfl) | fail))) | fail)) ?_) | (refine OpsL.unguard (by exact rfl) (by (first | (simp only [ASt.ev, tmPut, ↓reduceIte, reduceIte, Nat.reduceEqDiff, decide_true, decide_false, not_true_eq_false, not_false_eq_true, Bool.not_true, Bool.not_false, *]; done) | fail)) ?_) | fail)
  refine OpsL.call2 (by subst_vars; decide) (by (first | (simp only [ASt.ev, tmPut, ↓reduceIte, reduceIte, Nat.reduceEqDiff, plain1, *]; done) | fail)) (by (first | (simp only [ASt.ev, tmPut, ↓reduceIte, reduceIte, Nat.reduceEqDiff, plain1, *]; done) | fail)) entersJoinS (joinC W0 pb pc (by omega)).ok ?_
  rintro v5 nx5 H5 ⟨⟨o5, r5, s5, m5, l5, w5, x5, -⟩, k5⟩
  replace pa := RowsAt.ext x5 hok pa
  replace pb := RowsAt.ext x5 hok pb
  replace pc := RowsAt.ext x5 hok pc
  have p5 := w5.at encP_len
  replace hok := k5
  clear w5 x5 k5
  repeat (first | (refine OpsL.unguard (by exact rfl) (by (first | (simp only [ASt.ev, tmPut, ↓reduceIte, reduceIte, Nat.reduceEqDiff, decide_true, decide_false, not_true_eq_false, not_false_eq_true, Bool.not_true, Bool.not_false, *]; done) | fail)) ?_) | fail)
  refine OpsL.call2 (by subst_vars; decide) (by (first | (simp only [ASt.ev, tmPut, ↓reduceIte, reduceIte, Nat.reduceEqDiff, plain1, *]; done) | fail)) (by (first | (simp only [ASt.ev, tmPut, ↓reduceIte, reduceIte, Nat.reduceEqDiff, plain1, *]; done) | fail)) entersBothS (bothC W0 pa p5 (by omega) (by omega)).ok ?_
  rintro v6 nx6 H6 ⟨⟨o6, r6, s6, m6, l6, w6, x6, -⟩, k6⟩
  replace pa := RowsAt.ext x6 hok pa
  replace pb := RowsAt.ext x6 hok pb
  replace pc := RowsAt.ext x6 hok pc
  replace p5 := RowsAt.ext x6 hok p5
  have p6 := w6.at encP_len
  replace hok := k6
  clear w6 x6 k6
  repeat (first | (refine OpsL.p (by subst_vars; decide) (by (first | (exact aop_move (by (first | (simp only [ASt.ev, tmPut, ↓reduceIte, reduceIte, Nat.reduceEqDiff, plain1, *]; rfl) | fail))) | fail)) ?_) | (refine OpsL.unguard (by exact rfl) (by (first | (simp only [ASt.ev, tmPut, ↓reduceIte, reduceIte, Nat.reduceEqDiff, decide_true, decide_false, not_true_eq_false, not_false_eq_true, Bool.not_true, Bool.not_false, *]; done) | fail)) ?_) | fail)
  refine OpsL.call2 (by subst_vars; decide) (by (first | (simp only [ASt.ev, tmPut, ↓reduceIte, reduceIte, Nat.reduceEqDiff, plain1, *]; done) | fail)) (by (first | (simp only [ASt.ev, tmPut, ↓reduceIte, reduceIte, Nat.reduceEqDiff, plain1, *]; done) | fail)) entersBothS (bothC W0 pa pb (by omega) (by omega)).ok ?_
  rintro v7 nx7 H7 ⟨⟨o7, r7, s7, m7, l7, w7, x7, -⟩, k7⟩
  replace pa := RowsAt.ext x7 hok pa
  replace pb := RowsAt.ext x7 hok pb
  replace pc := RowsAt.ext x7 hok pc
  replace p5 := RowsAt.ext x7 hok p5
  replace p6 := RowsAt.ext x7 hok p6
  have p7 := w7.at encP_len
  replace hok := k7
  clear w7 x7 k7
  repeat (first | (refine OpsL.p (by subst_vars; decide) (by (first | (exact aop_move (by (first | (simp only [ASt.ev, tmPut, ↓reduceIte, reduceIte, Nat.reduceEqDiff, plain1, *]; rfl) | fail))) | fail)) ?_) | (refine OpsL.unguard (by exact rfl) (by (first | (simp only [ASt.ev, tmPut, ↓reduceIte, reduceIte, Nat.reduceEqDiff, decide_true, decide_false, not_true_eq_false, not_false_eq_true, Bool.not_true, Bool.not_false, *]; done) | fail)) ?_) | fail)
  refine OpsL.call2 (by subst_vars; decide) (by (first | (simp only [ASt.ev, tmPut, ↓reduceIte, reduceIte, Nat.reduceEqDiff, plain1, *]; done) | fail)) (by (first | (simp only [ASt.ev, tmPut, ↓reduceIte, reduceIte, Nat.reduceEqDiff, plain1, *]; done) | fail)) entersBothS (bothC W0 pa pc (by omega) (by omega)).ok ?_
  rintro v8 nx8 H8 ⟨⟨o8, r8, s8, m8, l8, w8, x8, -⟩, k8⟩
  replace pa := RowsAt.ext x8 hok pa
  replace pb := RowsAt.ext x8 hok pb
  replace pc := RowsAt.ext x8 hok pc
  replace p5 := RowsAt.ext x8 hok p5
  replace p6 := RowsAt.ext x8 hok p6
  replace p7 := RowsAt.ext x8 hok p7
  have p8 := w8.at encP_len
  replace hok := k8
  clear w8 x8 k8
  repeat (first | (refine OpsL.unguard (by exact rfl) (by (first | (simp only [ASt.ev, tmPut, ↓reduceIte, reduceIte, Nat.reduceEqDiff, decide_true, decide_false, not_true_eq_false, not_false_eq_true, Bool.not_true, Bool.not_false, *]; done) | fail)) ?_) | fail)
  refine OpsL.call2 (by subst_vars; decide) (by (first | (simp only [ASt.ev, tmPut, ↓reduceIte, reduceIte, Nat.reduceEqDiff, plain1, *]; done) | fail)) (by (first | (simp only [ASt.ev, tmPut, ↓reduceIte, reduceIte, Nat.reduceEqDiff, plain1, *]; done) | fail)) entersJoinS (joinC W0 p7 p8 (by omega)).ok ?_
  rintro v9 nx9 H9 ⟨⟨o9, r9, s9, m9, l9, w9, x9, -⟩, k9⟩
  replace pa := RowsAt.ext x9 hok pa
  replace pb := RowsAt.ext x9 hok pb
  replace pc := RowsAt.ext x9 hok pc
  replace p5 := RowsAt.ext x9 hok p5
  replace p6 := RowsAt.ext x9 hok p6
  replace p7 := RowsAt.ext x9 hok p7
  replace p8 := RowsAt.ext x9 hok p8
  have p9 := w9.at encP_len
  replace hok := k9
  clear w9 x9 k9
  repeat (first | (refine OpsL.unguard (by exact rfl) (by (first | (simp only [ASt.ev, tmPut, ↓reduceIte, reduceIte, Nat.reduceEqDiff, decide_true, decide_false, not_true_eq_false, not_false_eq_true, Bool.not_true, Bool.not_false, *]; done) | fail)) ?_) | fail)
  refine OpsL.call2 (by subst_vars; decide) (by (first | (simp only [ASt.ev, tmPut, ↓reduceIte, reduceIte, Nat.reduceEqDiff, plain1, *]; done) | fail)) (by (first | (simp only [ASt.ev, tmPut, ↓reduceIte, reduceIte, Nat.reduceEqDiff, plain1, *]; done) | fail)) entersSameR (sameC W0 p6 p9 (by omega) (by omega)) ?_
  rintro _ _ _ ⟨rfl, rfl, rfl⟩
  rw [decide_eq_true (strict_ext r6 r9 s6 s9 fun z => by rw [m6, m5, m9, m7, m8, and_or_left])]
  clear p6 s6 m6 l6
  clear p9 s9 m9 l9
  repeat (first | (refine OpsL.p (by subst_vars; decide) (by (first | (exact aop_move (by (first | (simp only [ASt.ev, tmPut, ↓reduceIte, reduceIte, Nat.reduceEqDiff, plain1, *]; rfl) | fail))) | (exact aop_pickT (by (first | (simp only [ASt.ev, tmPut, ↓reduceIte, reduceIte, Nat.reduceEqDiff, decide_true, decide_false, not_true_eq_false, not_false_eq_true, Bool.not_true, Bool.not_false, *]; done) | fail)) (by (first | (simp only [ASt.ev, tmPut, ↓reduceIte, reduceIte, Nat.reduceEqDiff, plain1, *]; rfl) | fail))) | fail)) ?_) | (refine OpsL.unguard (by exact rfl) (by (first | (simp only [ASt.ev, tmPut, ↓reduceIte, reduceIte, Nat.reduceEqDiff, decide_true, decide_false, not_true_eq_false, not_false_eq_true, Bool.not_true, Bool.not_false, *]; done) | fail)) ?_) | fail)
  refine OpsL.call2 (by subst_vars; decide) (by (first | (simp only [ASt.ev, tmPut, ↓reduceIte, reduceIte, Nat.reduceEqDiff, plain1, *]; done) | fail)) (by (first | (simp only [ASt.ev, tmPut, ↓reduceIte, reduceIte, Nat.reduceEqDiff, plain1, *]; done) | fail)) entersJoinS (joinC W0 pa pa (by omega)).ok ?_
  rintro v10 nx10 H10 ⟨⟨o10, r10, s10, m10, l10, w10, x10, -⟩, k10⟩
  replace pa := RowsAt.ext x10 hok pa
  replace pb := RowsAt.ext x10 hok pb
  replace pc := RowsAt.ext x10 hok pc
  replace p5 := RowsAt.ext x10 hok p5
  replace p7 := RowsAt.ext x10 hok p7
  replace p8 := RowsAt.ext x10 hok p8
  have p10 := w10.at encP_len
  replace hok := k10
  clear w10 x10 k10
  repeat (first | (refine OpsL.p (by subst_vars; decide) (by (first | (exact aop_move (by (first | (simp only [ASt.ev, tmPut, ↓reduceIte, reduceIte, Nat.reduceEqDiff, plain1, *]; rfl) | fail))) | fail)) ?_) | (refine OpsL.unguard (by exact rfl) (by (first | (simp only [ASt.ev, tmPut, ↓reduceIte, reduceIte, Nat.reduceEqDiff, decide_true, decide_false, not_true_eq_false, not_false_eq_true, Bool.not_true, Bool.not_false, *]; done) | fail)) ?_) | fail)
  refine OpsL.call1 (by subst_vars; decide) (by (first | (simp only [ASt.ev, tmPut, ↓reduceIte, reduceIte, Nat.reduceEqDiff, plain1, *]; done) | fail)) entersPairsS (pairsC W0 pa (by omega)).ok ?_
  rintro v11 nx11 H11 ⟨⟨o11, r11, s11, m11, l11, w11, x11, -⟩, k11⟩
  replace pa := RowsAt.ext x11 hok pa
  replace pb := RowsAt.ext x11 hok pb
  replace pc := RowsAt.ext x11 hok pc
  replace p5 := RowsAt.ext x11 hok p5
  replace p7 := RowsAt.ext x11 hok p7
  replace p8 := RowsAt.ext x11 hok p8
  replace p10 := RowsAt.ext x11 hok p10
  have p11 := w11.at encP_len
  replace hok := k11
  clear w11 x11 k11
  repeat (first | (refine OpsL.unguard (by exact rfl) (by (first | (simp only [ASt.ev, tmPut, ↓reduceIte, reduceIte, Nat.reduceEqDiff, decide_true, decide_false, not_true_eq_false, not_false_eq_true, Bool.not_true, Bool.not_false, *]; done) | fail)) ?_) | fail)
  refine OpsL.call2 (by subst_vars; decide) (by (first | (simp only [ASt.ev, tmPut, ↓reduceIte, reduceIte, Nat.reduceEqDiff, plain1, *]; done) | fail)) (by (first | (simp only [ASt.ev, tmPut, ↓reduceIte, reduceIte, Nat.reduceEqDiff, plain1, *]; done) | fail)) entersSameR (sameC W0 p10 p11 (by omega) (by omega)) ?_
  rintro _ _ _ ⟨rfl, rfl, rfl⟩
  rw [decide_eq_true (strict_ext r10 r11 s10 s11 fun z => by rw [m10, m11, or_self])]
  clear p10 s10 m10 l10
  clear p11 s11 m11 l11
  repeat (first | (refine OpsL.p (by subst_vars; decide) (by (first | (exact aop_move (by (first | (simp only [ASt.ev, tmPut, ↓reduceIte, reduceIte, Nat.reduceEqDiff, plain1, *]; rfl) | fail))) | (exact aop_pickT (by (first | (simp only [ASt.ev, tmPut, ↓reduceIte, reduceIte, Nat.reduceEqDiff, decide_true, decide_false, not_true_eq_false, not_false_eq_true, Bool.not_true, Bool.not_false, *]; done) | fail)) (by (first | (simp only [ASt.ev, tmPut, ↓reduceIte, reduceIte, Nat.reduceEqDiff, plain1, *]; rfl) | fail))) | fail)) ?_) | (refine OpsL.unguard (by exact rfl) (by (first | (simp only [ASt.ev, tmPut, ↓reduceIte, reduceIte, Nat.reduceEqDiff, decide_true, decide_false, not_true_eq_false, not_false_eq_true, Bool.not_true, Bool.not_false, *]; done) | fail)) ?_) | fail)
  refine OpsL.call2 (by subst_vars; decide) (by (first | (simp only [ASt.ev, tmPut, ↓reduceIte, reduceIte, Nat.reduceEqDiff, plain1, *]; done) | fail)) (by (first | (simp only [ASt.ev, tmPut, ↓reduceIte, reduceIte, Nat.reduceEqDiff, plain1, *]; done) | fail)) entersBothS (bothC W0 pa pb (by omega) (by omega)).ok ?_
  rintro v12 nx12 H12 ⟨⟨o12, r12, s12, m12, l12, w12, x12, -⟩, k12⟩
  replace pa := RowsAt.ext x12 hok pa
  replace pb := RowsAt.ext x12 hok pb
  replace pc := RowsAt.ext x12 hok pc
  replace p5 := RowsAt.ext x12 hok p5
  replace p7 := RowsAt.ext x12 hok p7
  replace p8 := RowsAt.ext x12 hok p8
  have p12 := w12.at encP_len
  replace hok := k12
  clear w12 x12 k12
  repeat (first | (refine OpsL.p (by subst_vars; decide) (by (first | (exact aop_move (by (first | (simp only [ASt.ev, tmPut, ↓reduceIte, reduceIte, Nat.reduceEqDiff, plain1, *]; rfl) | fail))) | fail)) ?_) | (refine OpsL.unguard (by exact rfl) (by (first | (simp only [ASt.ev, tmPut, ↓reduceIte, reduceIte, Nat.reduceEqDiff, decide_true, decide_false, not_true_eq_false, not_false_eq_true, Bool.not_true, Bool.not_false, *]; done) | fail)) ?_) | fail)
  refine OpsL.call2 (by subst_vars; decide) (by (first | (simp only [ASt.ev, tmPut, ↓reduceIte, reduceIte, Nat.reduceEqDiff, plain1, *]; done) | fail)) (by (first | (simp only [ASt.ev, tmPut, ↓reduceIte, reduceIte, Nat.reduceEqDiff, plain1, *]; done) | fail)) entersBothS (bothC W0 pb pa (by omega) (by omega)).ok ?_
  rintro v13 nx13 H13 ⟨⟨o13, r13, s13, m13, l13, w13, x13, -⟩, k13⟩
  replace pa := RowsAt.ext x13 hok pa
  replace pb := RowsAt.ext x13 hok pb
  replace pc := RowsAt.ext x13 hok pc
  replace p5 := RowsAt.ext x13 hok p5
  replace p7 := RowsAt.ext x13 hok p7
  replace p8 := RowsAt.ext x13 hok p8
  replace p12 := RowsAt.ext x13 hok p12
  have p13 := w13.at encP_len
  replace hok := k13
  clear w13 x13 k13
  repeat (first | (refine OpsL.unguard (by exact rfl) (by (first | (simp only [ASt.ev, tmPut, ↓reduceIte, reduceIte, Nat.reduceEqDiff, decide_true, decide_false, not_true_eq_false, not_false_eq_true, Bool.not_true, Bool.not_false, *]; done) | fail)) ?_) | fail)
  refine OpsL.call2 (by subst_vars; decide) (by (first | (simp only [ASt.ev, tmPut, ↓reduceIte, reduceIte, Nat.reduceEqDiff, plain1, *]; done) | fail)) (by (first | (simp only [ASt.ev, tmPut, ↓reduceIte, reduceIte, Nat.reduceEqDiff, plain1, *]; done) | fail)) entersSameR (sameC W0 p12 p13 (by omega) (by omega)) ?_
  rintro _ _ _ ⟨rfl, rfl, rfl⟩
  rw [decide_eq_true (strict_ext r12 r13 s12 s13 fun z => by rw [m12, m13, and_comm])]
  clear p12 s12 m12 l12
  clear p13 s13 m13 l13
  repeat (first | (refine OpsL.p (by subst_vars; decide) (by (first | (exact aop_assign (by (first | (simp only [ASt.ev, tmPut, ↓reduceIte, reduceIte, Nat.reduceEqDiff, plain1, *]; rfl) | fail))) | (exact aop_pickT (by (first | (simp only [ASt.ev, tmPut, ↓reduceIte, reduceIte, Nat.reduceEqDiff, decide_true, decide_false, not_true_eq_false, not_false_eq_true, Bool.not_true, Bool.not_false, *]; done) | fail)) (by (first | (simp only [ASt.ev, tmPut, ↓reduceIte, reduceIte, Nat.reduceEqDiff, plain1, *]; rfl) | fail))) | fail)) ?_) | (refine Trip.ret ?_; ((repeat (first | refine blockExit_eq ?_ | refine blockExit_ne (by decide) ?_ | refine blockExit_normal ?_ | refine blockExit_ret ?_ | refine blockExit_goto ?_)); first | (change Trip _ _ _ _ _) | dsimp only | skip)) | (refine OpsL.nil ?_; ((repeat (first | refine blockExit_eq ?_ | refine blockExit_ne (by decide) ?_ | refine blockExit_normal ?_ | refine blockExit_ret ?_ | refine blockExit_goto ?_)); first | (change Trip _ _ _ _ _) | dsimp only | skip)) | fail)
  exact ⟨.inr rfl, _, res_tmp, by simp [tmPut]⟩

theorem core (W0 : World) (nx : Nat) (H : Heap) (x0 : List Int) (w0 : ∀ x ∈ x0, (Lit.int .i64 x).wf = true) (x1 : List Int) (w1 : ∀ x ∈ x1, (Lit.int .i64 x).wf = true) (x2 : List Int) (w2 : ∀ x ∈ x2, (Lit.int .i64 x).wf = true) (us : List Value)
    (hat : All2 (Arg.at H) [.ints .i64 x0, .ints .i64 x1, .ints .i64 x2] us) (_ : ∀ id o, H id = some o → id < nx) : ACalls Try.prog W0 4 us nx H fun v _ _ => v = .bool true := by
  obtain ⟨u0, us, rfl, h0, hat⟩ := hat.cons
  obtain ⟨u1, us, rfl, h1, hat⟩ := hat.cons
  obtain ⟨u2, us, rfl, h2, hat⟩ := hat.cons
  obtain rfl := hat.nil
  exact law W0 h0.1 h1.1 h2.1

theorem own : ownKnob Try.prog.godebug = none := by kernel_rfl
theorem laidOut : laidOutB Try.prog = true := by kernel_rfl
theorem cells_ints : Try.prog.cellsOf 3 = 1 := by kernel_rfl

set_option maxRecDepth 100000 in
theorem lifted (os : Os) (started : os.Started) (H : Type) (enc : TypeId × Value → H) :
    ReturnsInHanded {} Try.checked os 4 .any (Rows.setsTwoSpec.pre6 enc Try.prog Try.f4 Rows.setsTwoRow.domain false) (Rows.setsTwoSpec.post enc Try.prog Try.f4 false true false false) := by
  refine returnsInHanded_of_change (C := Try.checked) own started (by kernel_rfl) Try.func4
    (ChangeSpec.witness6 (enc := enc) (C := Try.checked) false ⟨#[], #[.slice none 0 0, .slice none 0 0, .slice none 0 0], []⟩ 8 (by kernel_rfl) (by kernel_rfl) (by kernel_rfl) (by kernel_rfl)) ?_
  intro W base args ds gs before hval0 hW _ _
  have hval : ∀ (j : Nat) t v, Try.f4.params[j]? = some t → args[j]? = some v → Value.okWide Try.prog W .any base t v := hval0
  have hW' := hW
  obtain ⟨p, q, hA0, hV, rfl, _, _⟩ := hW
  have hA : DataW.TrodAll enc Try.prog W 0 (fun _ => true) true Try.f4.params.toList args.toList ds p := hA0
  rw [Try.params4] at hA hval
  obtain ⟨v0, vs0, d0, ds0, p0, q0, hargs, rfl, rfl, h0, r0⟩ := trodAll_cons hA
  obtain ⟨v1, vs1, d1, ds1, p1, q1, rfl, rfl, rfl, h1, r1⟩ := trodAll_cons r0
  obtain ⟨v2, vs2, d2, ds2, p2, q2, rfl, rfl, rfl, h2, r2⟩ := trodAll_cons r1
  obtain ⟨rfl, rfl, rfl⟩ := trodAll_nil r2
  obtain rfl : args = #[v0, v1, v2] := by cases args; simp_all
  obtain ⟨rfl, rfl⟩ := trodVars_none hV
  obtain ⟨x0, c0, w0⟩ := came_ints Try.underlying22 Try.underlying3 cells_ints (hval 0 22 v0 rfl rfl) h0
  obtain ⟨x1, c1, w1⟩ := came_ints Try.underlying22 Try.underlying3 cells_ints (hval 1 22 v1 rfl rfl) h1
  obtain ⟨x2, c2, w2⟩ := came_ints Try.underlying22 Try.underlying3 cells_ints (hval 2 22 v2 rfl rfl) h2
  clear hA0 hval0
  refine (law_calls (ars := [.ints .i64 x0, .ints .i64 x1, .ints .i64 x2]) (vs := [_, _, _]) ⟨c0, c1, c2, trivial⟩ (fun nx H us hat hok => core W nx H x0 w0 x1 w1 x2 w2 us hat hok)).mono fun e W' ⟨he, hg⟩ => ?_
  subst he
  exact ⟨_, rfl, law_post laidOut (by kernel_rfl) rfl Try.underlying4 rfl hW' rfl hg⟩

theorem over : Rows.setsTwoRow.holds Try.pinned (OpenSpec.ofChange Rows.setsTwoSpec) :=
  OpenClaim.holds_of_wide 4 Try.f4 rfl rfl rfl rfl rfl rfl rfl ⟨rfl, rfl, rfl, rfl, rfl⟩ rfl rfl rfl rfl rfl (by kernel_rfl) Try.func4 (by kernel_rfl)
    (of_decide_eq_true (by kernel_rfl)) (by unfold Func.isWrapper; first | (rw [if_pos (by decide +kernel)]; kernel_rfl) | (rw [if_neg (by decide +kernel)]; exact ⟨rfl, rfl⟩))
    (fun os started H enc _ => lifted os started H enc)

theorem proved : Rows.SetsTwoSaid := over
#print axioms proved

end Go.Proofs.Ytigincejpjajpaa.setsTwo
