import Derived.Test.YtmijhkclfoadaaaDoorQEM32
import Derived.Test.YtmijhkclfoadaaaDoorQEM21
import Derived.Test.YtmijhkclfoadaaaDoorQEM36
import Derived.Test.YtmijhkclfoadaaaDoorQEM33
namespace Go.Am
set_option linter.unusedSimpArgs false
set_option linter.unusedVariables false
open Go.RowKit
def formE (x : Ex) : Int := if 20 < deepX x then 3 else if 200 < sizeX x then 2 else if formX x = false then 7 else 0
end Go.Am
namespace Go.Proofs.YtmijhkclfoadaaaDoor
set_option linter.unusedSimpArgs false
set_option linter.unusedVariables false
open Go.Am Go.RowKit
attribute [local irreducible] aop OpsL Trip blockExit OpsD OpsK OpsR
theorem entersFormE : Am.Enters Tryd.prog 41 := ⟨Tryd.f41, Tryd.func41, by kernel_rfl, by kernel_rfl⟩
set_option maxRecDepth 20000 in
set_option maxHeartbeats 8000000 in
theorem formEC (W0 : World) {x : Ex} {nx : Nat} {H : Heap} {cs : List Value} {B : List Nat} (hx : ExC H cs x B) (hB : B.Nodup) (hn : sizeX x ≤ 1000000) : ACalls Tryd.prog W0 41 [.agg cs.toArray] nx H fun v nx' H' => v = .int .i64 (formE x) ∧ Ext nx H nx' H' := by
  obtain ⟨k, s, e, l⟩ := x
  obtain ⟨av, c, rfl⟩ := hx.cells
  refine ACalls.by_trip (fn := Tryd.f41) (c := _) Tryd.func41 rfl (fun tm n hn0 htm => ?_)
  have e0 : tm 0 = .agg ([.int .i64 k, .int .i64 s, .int .i64 e, .slice av l.length c] : List Value).toArray := htm 0
  clear htm
  replace hn0 : n = 12 := hn0
  refine Trip.ok fun hok => ?_
  replace hok : ∀ id o, H id = some o → id < nx := hok
  refine Trip.seq ?_
  refine Trip.ops ?_
  refine OpsL.boxX hok ?_ (by (first | (simp only [ASt.ev, tmPut, ↓reduceIte, Nat.reduceEqDiff, *]; rfl))) rfl (by subst_vars; decide)
  intro G x0 okG hb
  have hG := hx.ext x0 hok
  have h0 := hb.c0
  have h1 := hb.c1
  have h2 := hb.c2
  have h3 := hb.c3
  clear e0
  have h4 := hb.all
  generalize Ex.node k s e l = x at *
  clear h0 h1 h2 h3
  repeat (first | (refine OpsL.q (by first | exact oasg | exact aop_loadAgg (k := 4) (by (first | (simp only [ASt.ev, tmPut, ↓reduceIte, Nat.reduceEqDiff, *]; rfl))) (by exact rfl) rfl (by exact rfl) (by assumption)) ?_) | (refine Trip.seq ?_) | (refine Trip.ops ?_) | (refine Trip.block ?_) | (refine OpsL.nil ?_; (change Trip _ _ _ _ _)))
  refine OpsL.c1 (hf := entersDeepX) (hc := (deepXC W0 hG hB hn)) (h := ?_)
  rintro v1 n1 H1 ⟨rfl, y1⟩
  by_cases hd : 20 < deepX x
  · have hr : formE x = 3 := by unfold formE; rw [if_pos hd]
    rw [decide_eq_true hd]
    clear hd
    repeat (first | (refine OpsL.q (by exact oasg) ?_) | (refine OpsL.nil ?_; (change Trip _ _ _ _ _)))
    refine Trip.ifT ?_
    repeat (first | (refine OpsL.q (by exact oasg) ?_) | (refine Trip.seq ?_) | (refine Trip.ops ?_) | (refine Trip.ret ?_; ((repeat (refine blockExit_ret ?_)); dsimp only)) | (refine OpsL.nil ?_; (change Trip _ _ _ _ _)))
    exact ⟨.inr rfl, _, res_tmp, by simp [tmPut, *], x0.trans y1⟩
  rw [decide_eq_false hd]
  repeat (first | (refine OpsL.q (by exact oasg) ?_) | (refine OpsL.nil ?_; (change Trip _ _ _ _ _)))
  refine Trip.ifF ?_
  have g4 := getc_ext y1 okG h4
  repeat (first | (refine OpsL.q (by exact aop_loadAgg (k := 4) (by (first | (simp only [ASt.ev, tmPut, ↓reduceIte, Nat.reduceEqDiff, *]; rfl))) (by exact rfl) rfl (by exact rfl) (by assumption)) ?_) | (refine Trip.seq ?_) | (refine Trip.ops ?_))
  refine OpsL.c1 (hf := entersLongX) (hc := (longXC W0 (hG.ext y1 okG) hn)) (h := ?_)
  rintro v2 n2 H2 ⟨rfl, y2⟩
  have z2 := y1.trans y2
  clear g4 y2
  by_cases hd2 : 200 < sizeX x
  · have hr : formE x = 2 := by unfold formE; rw [if_neg hd, if_pos hd2]
    rw [decide_eq_true hd2]
    clear hd hd2
    repeat (first | (refine OpsL.q (by exact oasg) ?_) | (refine OpsL.nil ?_; (change Trip _ _ _ _ _)))
    refine Trip.ifT ?_
    repeat (first | (refine OpsL.q (by exact oasg) ?_) | (refine Trip.seq ?_) | (refine Trip.ops ?_) | (refine Trip.ret ?_; ((repeat (refine blockExit_ret ?_)); dsimp only)) | (refine OpsL.nil ?_; (change Trip _ _ _ _ _)))
    exact ⟨.inr rfl, _, res_tmp, by simp [tmPut, *], x0.trans z2⟩
  rw [decide_eq_false hd2]
  repeat (first | (refine OpsL.q (by exact oasg) ?_) | (refine OpsL.nil ?_; (change Trip _ _ _ _ _)))
  refine Trip.ifF ?_
  have g4 := getc_ext z2 okG h4
  repeat (first | (refine OpsL.q (by exact aop_loadAgg (k := 4) (by (first | (simp only [ASt.ev, tmPut, ↓reduceIte, Nat.reduceEqDiff, *]; rfl))) (by exact rfl) rfl (by exact rfl) (by assumption)) ?_) | (refine Trip.seq ?_) | (refine Trip.ops ?_))
  refine OpsL.c1 (hf := entersMis) (hc := (misC W0 (hG.ext z2 okG) hn)) (h := ?_)
  rintro v3 n3 H3 ⟨rfl, y3⟩
  have z3 := z2.trans y3
  have hfa := form_any x
  clear g4 y3
  cases hf : anyX illX x
  · rw [hf] at hfa
    have hr : formE x = 0 := by unfold formE; rw [if_neg hd, if_neg hd2, if_neg (by rw [hfa]; decide)]
    clear hf hfa hd hd2
    repeat (first | (refine OpsL.q (by exact oasg) ?_) | (refine OpsL.nil ?_; (change Trip _ _ _ _ _)))
    refine Trip.ifF ?_
    repeat (first | (refine OpsL.q (by exact oasg) ?_) | (refine Trip.seq ?_) | (refine Trip.ops ?_) | (refine Trip.skip ?_; ((repeat (refine blockExit_normal ?_)); change Trip _ _ _ _ _)) | (refine Trip.ret ?_; (dsimp only)) | (refine OpsL.nil ?_; (change Trip _ _ _ _ _)))
    exact ⟨.inr rfl, _, res_tmp, by simp [tmPut, *], x0.trans z3⟩
  · rw [hf, Bool.not_true] at hfa
    have hr : formE x = 7 := by unfold formE; rw [if_neg hd, if_neg hd2, if_pos hfa]
    clear hf hfa hd hd2
    repeat (first | (refine OpsL.q (by exact oasg) ?_) | (refine OpsL.nil ?_; (change Trip _ _ _ _ _)))
    refine Trip.ifT ?_
    repeat (first | (refine OpsL.q (by exact oasg) ?_) | (refine Trip.seq ?_) | (refine Trip.ops ?_) | (refine Trip.ret ?_; ((repeat (refine blockExit_ret ?_)); dsimp only)) | (refine OpsL.nil ?_; (change Trip _ _ _ _ _)))
    exact ⟨.inr rfl, _, res_tmp, by simp [tmPut, *], x0.trans z3⟩
theorem entersCheckX : Am.Enters Tryd.prog 15 := ⟨Tryd.f15, Tryd.func15, by kernel_rfl, by kernel_rfl⟩
set_option maxRecDepth 20000 in
set_option maxHeartbeats 8000000 in
theorem checkXC (W0 : World) {ss : List (ByteArray × Int)} (hss : ss.length ≤ 1000) (hkd : ∀ x ∈ ss, x.2 ≠ 0) {x : Ex} {nx : Nat} {H : Heap} {lv : Value} {cs : List Value} {B : List Nat} (hl : SymsAt H lv ss) (hx : ExC H cs x B) (hB : B.Nodup) (hn : sizeX x ≤ 1000000) : ACalls Tryd.prog W0 15 [lv, .agg cs.toArray] nx H fun v nx' H' => v = .int .i64 (checkX ss x) ∧ Ext nx H nx' H' := by
  obtain ⟨k, s, e, l⟩ := x
  obtain ⟨av, c, rfl⟩ := hx.cells
  obtain ⟨la, lc, rfl, _⟩ := id hl
  refine ACalls.by_trip (fn := Tryd.f15) (c := _) Tryd.func15 rfl (fun tm n hn0 htm => ?_)
  have e0 : tm 0 = .slice (some la) ss.length lc := htm 0
  have e1 : tm 1 = .agg ([.int .i64 k, .int .i64 s, .int .i64 e, .slice av l.length c] : List Value).toArray := htm 1
  clear htm
  replace hn0 : n = 20 := hn0
  refine Trip.ok fun hok => ?_
  replace hok : ∀ id o, H id = some o → id < nx := hok
  refine Trip.seq ?_
  refine Trip.ops ?_
  refine OpsL.boxX hok ?_ (by (first | (simp only [ASt.ev, tmPut, ↓reduceIte, Nat.reduceEqDiff, *]; rfl))) rfl (by subst_vars; decide)
  intro G x0 okG hb
  have hG := hx.ext x0 hok
  have h0 := hb.c0
  have h1 := hb.c1
  have h2 := hb.c2
  have h3 := hb.c3
  clear e1
  have hlG := hl.ext x0 hok
  have h4 := hb.all
  generalize Ex.node k s e l = x at *
  clear h0 h1 h2 h3
  repeat (first | (refine OpsL.q (by first | exact oasg | exact aop_loadAgg (k := 4) (by (first | (simp only [ASt.ev, tmPut, ↓reduceIte, Nat.reduceEqDiff, *]; rfl))) (by exact rfl) rfl (by exact rfl) (by assumption)) ?_) | (refine Trip.seq ?_) | (refine Trip.ops ?_) | (refine OpsL.nil ?_; (change Trip _ _ _ _ _)))
  refine OpsL.c1 (hf := entersFormE) (hc := (formEC W0 hG hB hn)) (h := ?_)
  rintro v1 n1 H1 ⟨rfl, y1⟩
  have hce : checkX ss x = if formE x ≠ 0 then formE x else if namedX ss x = false then 6 else if looseX ss x false = true then 8 else 0 := by
    unfold checkX formE
    repeat' split
    all_goals first | rfl | (exfalso; omega) | simp_all
  have hfm : formE x = 0 → formX x = true := fun h => by
    unfold formE at h
    cases hf : formX x
    · rw [hf] at h
      repeat' split at h
      all_goals first | exact absurd h (by decide) | (exact absurd rfl ‹_›)
    · rfl
  by_cases hz : formE x = 0
  · rw [if_neg (by simp [hz])] at hce
    have hform := hfm hz
    rw [hz]
    clear hfm hz
    repeat (first | (refine OpsL.q (by first | exact oasg | exact omv) ?_) | (refine Trip.seq ?_) | (refine Trip.ops ?_) | (refine Trip.block ?_) | (refine OpsL.nil ?_; (change Trip _ _ _ _ _)))
    refine OpsL.neqF ?_ (c := show (0 : Int) = 0 from rfl)
    repeat (first | (refine OpsL.q (by exact oasg) ?_) | (refine OpsL.nil ?_; (change Trip _ _ _ _ _)))
    refine Trip.ifF ?_
    have g4 := getc_ext y1 okG h4
    repeat (first | (refine OpsL.q (by first | exact omv | exact aop_loadAgg (k := 4) (by (first | (simp only [ASt.ev, tmPut, ↓reduceIte, Nat.reduceEqDiff, *]; rfl))) (by exact rfl) rfl (by exact rfl) (by assumption)) ?_) | (refine Trip.seq ?_) | (refine Trip.ops ?_))
    refine OpsL.c2 (hf := entersStrange) (hc := (strangeC W0 (hlG.ext y1 okG) hss hkd (hG.ext y1 okG) hn)) (h := ?_)
    rintro v2 n2 H2 ⟨rfl, y2⟩
    have z2 := y1.trans y2
    have hna := named_any ss x
    clear g4 y2
    cases hf : anyX (oddX ss) x
    · rw [hf, Bool.not_false] at hna
      rw [if_neg (by rw [hna]; decide), loose_any ss x hna hform] at hce
      clear hf
      repeat (first | (refine OpsL.q (by exact oasg) ?_) | (refine OpsL.nil ?_; (change Trip _ _ _ _ _)))
      refine Trip.ifF ?_
      have g4 := getc_ext z2 okG h4
      repeat (first | (refine OpsL.q (by first | exact omv | exact aop_loadAgg (k := 4) (by (first | (simp only [ASt.ev, tmPut, ↓reduceIte, Nat.reduceEqDiff, *]; rfl))) (by exact rfl) rfl (by exact rfl) (by assumption)) ?_) | (refine Trip.seq ?_) | (refine Trip.ops ?_))
      refine OpsL.c2 (hf := entersLooseX) (hc := (looseXC W0 (hlG.ext z2 okG) hss hform (hG.ext z2 okG) hn)) (h := ?_)
      rintro v3 n3 H3 ⟨rfl, y3⟩
      have z3 := z2.trans y3
      clear g4 y3 hna hform
      cases hf : anyX (nestX ss) x
      · rw [hf, if_neg (by decide)] at hce
        clear hf
        repeat (first | (refine OpsL.q (by exact oasg) ?_) | (refine OpsL.nil ?_; (change Trip _ _ _ _ _)))
        refine Trip.ifF ?_
        repeat (first | (refine OpsL.q (by exact oasg) ?_) | (refine Trip.seq ?_) | (refine Trip.ops ?_) | (refine Trip.skip ?_; ((repeat (refine blockExit_normal ?_)); change Trip _ _ _ _ _)) | (refine Trip.ret ?_; (dsimp only)) | (refine OpsL.nil ?_; (change Trip _ _ _ _ _)))
        exact ⟨.inr rfl, _, res_tmp, by simp [tmPut, *], x0.trans z3⟩
      · rw [hf, if_pos rfl] at hce
        clear hf
        repeat (first | (refine OpsL.q (by exact oasg) ?_) | (refine OpsL.nil ?_; (change Trip _ _ _ _ _)))
        refine Trip.ifT ?_
        repeat (first | (refine OpsL.q (by exact oasg) ?_) | (refine Trip.seq ?_) | (refine Trip.ops ?_) | (refine Trip.ret ?_; ((repeat (refine blockExit_ret ?_)); dsimp only)) | (refine OpsL.nil ?_; (change Trip _ _ _ _ _)))
        exact ⟨.inr rfl, _, res_tmp, by simp [tmPut, *], x0.trans z3⟩
    · rw [hf, Bool.not_true] at hna
      rw [if_pos hna] at hce
      clear hf hna hform
      repeat (first | (refine OpsL.q (by exact oasg) ?_) | (refine OpsL.nil ?_; (change Trip _ _ _ _ _)))
      refine Trip.ifT ?_
      repeat (first | (refine OpsL.q (by exact oasg) ?_) | (refine Trip.seq ?_) | (refine Trip.ops ?_) | (refine Trip.ret ?_; ((repeat (refine blockExit_ret ?_)); dsimp only)) | (refine OpsL.nil ?_; (change Trip _ _ _ _ _)))
      exact ⟨.inr rfl, _, res_tmp, by simp [tmPut, *], x0.trans z2⟩
  · rw [if_pos hz] at hce
    clear hfm
    rw [hce]
    clear hce
    generalize formE x = q at *
    repeat (first | (refine OpsL.q (by first | exact oasg | exact omv) ?_) | (refine Trip.seq ?_) | (refine Trip.ops ?_) | (refine Trip.block ?_) | (refine OpsL.nil ?_; (change Trip _ _ _ _ _)))
    refine OpsL.neqT ?_ (c := hz)
    clear hz
    repeat (first | (refine OpsL.q (by exact oasg) ?_) | (refine OpsL.nil ?_; (change Trip _ _ _ _ _)))
    refine Trip.ifT ?_
    repeat (first | (refine OpsL.q (by first | exact oasg | exact omv) ?_) | (refine Trip.seq ?_) | (refine Trip.ops ?_) | (refine Trip.ret ?_; ((repeat (refine blockExit_ret ?_)); dsimp only)) | (refine OpsL.nil ?_; (change Trip _ _ _ _ _)))
    exact ⟨.inr rfl, _, res_tmp, by simp [tmPut, *], x0.trans y1⟩
end Go.Proofs.YtmijhkclfoadaaaDoor
