import Derived.Test.YtmijhkclfoadaaaDoorQEM33
import Derived.Test.YtmijhkclfoadaaaDoorQEM21
import Derived.Test.YtmijhkclfoadaaaDoorQEM34
namespace Go.Proofs.YtmijhkclfoadaaaDoor
set_option linter.unusedSimpArgs false
set_option linter.unusedVariables false
open Go.Am Go.RowKit
attribute [local irreducible] aop OpsL Trip blockExit OpsD OpsK OpsR
structure BadK (k cR n0 : Nat) (H0 : Heap) (rc : LoopState → Option Code → AObj) (b : Bool) (nx : Nat) (H : Heap) : Prop where
  rec_ : H k = some (if b then rc .done (some .ret) else rc .ready none)
  res : H cR = some (.cells [.bool b] 0 none false (some 4))
  lt : k < nx
  old : Ext n0 H0 nx H
theorem BadK.ext {k cR n0 : Nat} {H0 : Heap} {rc : LoopState → Option Code → AObj} {b : Bool} {nx nx' : Nat} {H H' : Heap} (hR : cR < k) (h : BadK k cR n0 H0 rc b nx H) (hx : Ext nx H nx' H') : BadK k cR n0 H0 rc b nx' H' := by
  have := h.lt
  exact ⟨by rw [hx.2 _ (by omega)]; exact h.rec_, by rw [hx.2 _ (by omega)]; exact h.res, by have := hx.1; omega, h.old.trans hx⟩
theorem entersStrange : Am.Enters Tryd.prog 42 := ⟨Tryd.f42, Tryd.func42, by kernel_rfl, by kernel_rfl⟩
set_option maxRecDepth 20000 in
set_option maxHeartbeats 8000000 in
theorem strangeC (W0 : World) {x : Ex} {nx : Nat} {H : Heap} {lv : Value} {ss : List (ByteArray × Int)} {cs : List Value} {B : List Nat} (hl : SymsAt H lv ss) (hss : ss.length ≤ 1000) (hkd : ∀ x ∈ ss, x.2 ≠ 0) (hx : ExC H cs x B) (hn : sizeX x ≤ 1000000) : ACalls Tryd.prog W0 42 [lv, .agg cs.toArray] nx H fun v nx' H' => v = .bool (anyX (oddX ss) x) ∧ Ext nx H nx' H' := by
  obtain ⟨k, s, e, l⟩ := x
  obtain ⟨av, c, rfl⟩ := hx.cells
  obtain ⟨la, lc, rfl, _⟩ := id hl
  refine ACalls.by_trip (fn := Tryd.f42) (c := _) Tryd.func42 rfl (fun tm n hn0 htm => ?_)
  have e0 : tm 0 = .slice (some la) ss.length lc := htm 0
  have e1 : tm 1 = .agg ([.int .i64 k, .int .i64 s, .int .i64 e, .slice av l.length c] : List Value).toArray := htm 1
  clear htm
  replace hn0 : n = 35 := hn0
  refine Trip.ok fun hok => ?_
  replace hok : ∀ id o, H id = some o → id < nx := hok
  refine Trip.seq ?_
  refine Trip.ops ?_
  refine OpsL.new (by subst_vars; decide) (aop_box (by (first | (simp only [ASt.ev, tmPut, ↓reduceIte, Nat.reduceEqDiff, *]; rfl)))) ?_
  obtain ⟨G0, hG0⟩ : ∃ G0, G0 = H.put nx (.cells (Value.slice (some la) ss.length lc).cells.toList 0 none false (some 24)) := ⟨_, rfl⟩
  have xA : Ext nx H (nx + 1) G0 := by rw [hG0]; exact Ext.newPut
  have rA : G0 nx = some (.cells [.slice (some la) ss.length lc] 0 none false (some 24)) := by rw [hG0, Heap.put_eq]; rfl
  have okA : ∀ id o, G0 id = some o → id < nx + 1 := by rw [hG0]; exact ok_new hok
  rw [← hG0]
  clear hG0
  refine OpsL.boxX okA ?_ (by (first | (simp only [ASt.ev, tmPut, ↓reduceIte, Nat.reduceEqDiff, *]; rfl))) rfl (by subst_vars; decide)
  intro G xB okG hb
  have hG := (hx.ext xA hok).ext xB okA
  have hlG := (hl.ext xA hok).ext xB okA
  have rA' : G nx = some (.cells [.slice (some la) ss.length lc] 0 none false (some 24)) := by rw [xB.2 _ (by omega)]; exact rA
  clear e0 e1
  generalize Ex.node k s e l = x at *
  have hall := hb.all
  refine OpsL.new (by subst_vars; decide) (aop_alloc (l := [.bool false]) (by exact rfl)) ?_
  obtain ⟨G1, hG1⟩ : ∃ G1, G1 = G.put (nx + 1 + 1) (.cells [.bool false] 0 none false (some 4)) := ⟨_, rfl⟩
  have x1 : Ext (nx + 1 + 1) G (nx + 1 + 1 + 1) G1 := by rw [hG1]; exact Ext.newPut
  have r1 : G1 (nx + 1 + 1) = some (.cells [.bool false] 0 none false (some 4)) := by rw [hG1]; exact Heap.put_eq
  rw [← hG1]
  clear hG1
  have g4 : getc G1 ⟨nx + 1, 0, none⟩ 4 = some [.int .i64 k, .int .i64 s, .int .i64 e, .slice av l.length c] := getc_ext x1 okG hall
  refine OpsL.nil ?_
  (change Trip _ _ _ _ _)
  refine Trip.seq ?_
  refine Trip.ok fun ok1 => ?_
  replace ok1 : ∀ id o, G1 id = some o → id < nx + 1 + 1 + 1 := ok1
  refine Trip.seq ?_
  refine Trip.mono (Q := fun x st => x = .normal ∧ ∃ (tm' : Nat → Value) (G3 : Heap), st = ⟨tm', n, G3, nx + 1 + 1 + 1 + 1⟩ ∧ Ext (nx + 1 + 1 + 1) G1 (nx + 1 + 1 + 1 + 1) G3 ∧ ExBox G3 (nx + 1 + 1 + 1) k s e (.slice av l.length c) ∧ tm' 2 = .pointer (some ⟨nx, 0, none⟩) ∧ tm' 4 = .pointer (some ⟨nx + 1 + 1, 0, none⟩) ∧ tm' 7 = .func (.func 101) #[] #[.pointer (some ⟨nx + 1 + 1 + 1, 0, none⟩)]) ?_ ?_
  · refine Trip.ops ?_
    repeat (first | (refine OpsL.q (by exact aop_loadAgg (k := 4) (by (first | (simp only [ASt.ev, tmPut, ↓reduceIte, Nat.reduceEqDiff, *]; rfl))) (by exact rfl) rfl (by exact rfl) (by assumption)) ?_))
    refine OpsL.c1 (hf := entersAllX) (hc := (allXC W0 rfl)) (h := ?_)
    rintro v3 n3 G3 ⟨rfl, rfl, x3, hb3⟩
    refine OpsL.nil ?_
    exact ⟨rfl, _, G3, rfl, x3, hb3, by simp [tmPut, *], by simp [tmPut, *], by simp [tmPut]⟩
  rintro x' st ⟨rfl, tm, G3, rfl, x3, hb3, eL, eR, e5⟩
  (change Trip _ _ _ _ _)
  have hBk : ∀ b ∈ B, b ∉ [nx + 1 + 1 + 1 + 1, nx + 1 + 1] := fun b hb => by
    have := hx.lt hok b hb
    simp only [List.mem_cons, List.not_mem_nil, or_false]
    omega
  have hx3 := (hG.ext x1 okG).ext x3 ok1
  have r3 : G3 (nx + 1 + 1) = some (.cells [.bool false] 0 none false (some 4)) := by rw [x3.2 _ (by omega)]; exact r1
  refine Trip.block ?_
  refine Trip.ok fun ok3 => ?_
  replace ok3 : ∀ id o, G3 id = some o → id < nx + 1 + 1 + 1 + 1 := ok3
  subst hn0
  refine Trip.rangeXJ (good := fun _ => True) (J := BadK (nx + 1 + 1 + 1 + 1) (nx + 1 + 1) (nx + 1 + 1) G) (L := [nx + 1 + 1 + 1 + 1, nx + 1 + 1]) (step := fun _ y => oddX ss y) (live := fun b => !b) (a := false) (ev_cut e5 (by decide)) ok3 ?_ ?_ rfl trivial hx3 hBk hn hb3.all ?_
  · have q2 := cutT_at (n := 35) eR (by decide)
    have qL := cutT_at (n := 35) eL (by decide)
    refine ⟨fun cc n4 H4 cs4 x4 B4 hJ hlv _ hx4 hB4 hok4 => ?_, fun cc n4 H4 n5 H5 hJ h5 => hJ.ext (by omega) h5, fun cc n4 H4 hJ i hi => ?_, fun cc n4 H4 hJ => ?_, fun _ _ _ _ _ _ _ => trivial⟩
    · obtain rfl : cc = false := by cases cc <;> simp_all
      have hr := hJ.rec_
      have hdl := hJ.lt
      refine AYields.round (tm := tm) (n := 35) (p := 8) hr (by decide) ?_
      refine Trip.ops ?_
      obtain ⟨yk, ys, ye, yl⟩ := x4
      obtain ⟨ya, yc, rfl⟩ := hx4.cells
      refine OpsL.new (by subst_vars; decide) (aop_alloc (l := [.int .i64 0, .int .i64 0, .int .i64 0, .slice none 0 0]) (by exact rfl)) ?_
      obtain ⟨F1, hF1⟩ : ∃ F1, F1 = H4.put n4 (.cells [.int .i64 0, .int .i64 0, .int .i64 0, .slice none 0 0] 0 none false (some 28)) := ⟨_, rfl⟩
      have xF1 : Ext n4 H4 (n4 + 1) F1 := by rw [hF1]; exact Ext.newPut
      have rF1 : F1 n4 = some (.cells [.int .i64 0, .int .i64 0, .int .i64 0, .slice none 0 0] 0 none false (some 28)) := by rw [hF1]; exact Heap.put_eq
      rw [← hF1]
      clear hF1
      refine OpsL.storeX ?_ (by (first | (simp only [ASt.ev, tmPut, ↓reduceIte, Nat.reduceEqDiff, *]; done))) (by (first | (simp only [ASt.ev, tmPut, ↓reduceIte, Nat.reduceEqDiff, *]; rfl))) rF1 rfl rfl rfl
      intro F2 rF2 sF2
      have xF2 : Ext n4 H4 (n4 + 1) F2 := ⟨Nat.le_succ _, fun q hq => by rw [sF2 q (by omega), xF1.2 q hq]⟩
      have hJ2 := hJ.ext (by omega) xF2
      have hx5 := hx4.ext xF2 hok4
      clear xF1 rF1 sF2
      refine OpsL.nil ?_
      refine ⟨rfl, by dsimp only; rw [xF2.2 _ hJ.lt]; exact hr, ?_⟩
      dsimp only
      have fR : ∀ o, (F2.put (nx + 1 + 1 + 1 + 1) o) (nx + 1 + 1) = some (.cells [.bool false] 0 none false (some 4)) := fun o => by rw [Heap.put_ne (by omega)]; exact hJ2.res
      have fK : ∀ o, (F2.put (nx + 1 + 1 + 1 + 1) o) (nx + 1 + 1 + 1 + 1) = some o := fun o => Heap.put_eq
      have fC : ∀ o, (F2.put (nx + 1 + 1 + 1 + 1) o) n4 = some (.cells [.int .i64 yk, .int .i64 ys, .int .i64 ye, .slice ya yl.length yc] 0 none false (some 28)) := fun o => by rw [Heap.put_ne (by omega)]; exact rF2
      have fX : ∀ o, ExC (F2.put (nx + 1 + 1 + 1 + 1) o) [.int .i64 yk, .int .i64 ys, .int .i64 ye, .slice ya yl.length yc] (.node yk ys ye yl) B4 := fun o => hx5.same fun b hb => Heap.put_ne (by have := hB4 b hb; simp only [List.mem_cons, List.not_mem_nil, or_false, not_or] at this; exact this.1)
      have fO : ∀ o i, i < n4 → i ≠ (nx + 1 + 1 + 1 + 1) → (F2.put (nx + 1 + 1 + 1 + 1) o) i = H4 i := fun o i h1 h2 => by rw [Heap.put_ne h2, xF2.2 i h1]
      generalize hF : F2.put (nx + 1 + 1 + 1 + 1) _ = F
      replace fR := hF ▸ fR _
      replace fK := hF ▸ fK _
      replace fC := hF ▸ fC _
      replace fX := hF ▸ fX _
      replace fO := hF ▸ fO _
      clear hF rF2
      have cL : cellAt F ⟨nx, 0, none⟩ (.slice (some la) ss.length lc) := cell_one (by rw [fO nx (by omega) (by omega), hJ.old.2 nx (by omega)]; exact rA')
      have xGF : Ext (nx + 1 + 1) G (n4 + 1) F := ⟨by omega, fun i hi => by rw [fO i (by omega) (by omega), hJ.old.2 i hi]⟩
      have hlF := hlG.ext xGF okG
      have hc0 : cellAt F ⟨n4, 0, none⟩ (.int .i64 yk) := cellAt_own (off := 0) fC (by simp)
      have hc1 : cellAt F ⟨n4, 1, none⟩ (.int .i64 ys) := cellAt_own (off := 1) fC (by simp)
      have hc2 : cellAt F ⟨n4, 2, none⟩ (.int .i64 ye) := cellAt_own (off := 2) fC (by simp)
      have hbd : oddX ss (.node yk ys ye yl) = !nameX ss yk ys ye := rfl
      clear fC fX
      refine Trip.ok fun okF => ?_
      replace okF : ∀ id o, F id = some o → id < n4 + 1 := okF
      refine Trip.block ?_
      repeat (first | (refine OpsL.q (by first | exact ofa | exact old) ?_) | (refine Trip.seq ?_) | (refine Trip.ops ?_) | (refine Trip.block ?_) | (refine OpsL.nil ?_; (change Trip _ _ _ _ _)))
      by_cases h3 : yk = 3
      · rw [nameX_3 h3, isX_zero] at hbd
        refine OpsL.eqlT ?_ (c := h3)
        repeat (first | (refine OpsL.q (by exact oasg) ?_) | (refine OpsL.nil ?_; (change Trip _ _ _ _ _)))
        refine Trip.ifT ?_
        repeat (first | (refine OpsL.q (by first | exact ofa | exact old) ?_) | (refine Trip.seq ?_) | (refine Trip.ops ?_))
        refine OpsL.c2 (hf := entersSymAtX) (hc := (symAtXC W0 hlF hss ys)) (h := ?_)
        rintro v6 n6 F6 ⟨rfl, y6⟩
        have gR := (y6.2 (nx + 1 + 1) (by omega)).trans fR
        have gK := (y6.2 (nx + 1 + 1 + 1 + 1) (by omega)).trans fK
        have gO : ∀ i, i < n4 → i ≠ (nx + 1 + 1 + 1 + 1) → F6 i = H4 i := fun i h1 h2 => by rw [y6.2 i (by omega), fO i h1 h2]
        have hle6 := y6.1
        refine OpsL.p (by subst_vars; decide) (aop_build (l := []) (by simp [evParts]) (v := .agg #[.string .empty, .int .i64 0]) (by exact rfl)) ?_
        refine OpsL.p (by subst_vars; decide) (aop_eqlA (by (first | (simp only [ASt.ev, tmPut, ↓reduceIte, Nat.reduceEqDiff, *]; rfl))) (by (first | (simp only [ASt.ev, tmPut, ↓reduceIte, Nat.reduceEqDiff, *]; rfl))) (by kernel_rfl) (symEqX _ _ _ _ _)) ?_
        by_cases hp : 0 ≤ ys ∧ ys < ss.length
        · have hbad : oddX ss (.node yk ys ye yl) = false := by rw [hbd, decide_eq_true hp]; rfl
          have hz : ((symX ss ys).2 == (0 : Int)) = false := by rw [beq_eq_false_iff_ne]; exact symX_in hp hkd
          rw [hz, Bool.and_false]
          repeat (first | (refine OpsL.nil ?_; (change Trip _ _ _ _ _)))
          refine Trip.ifF ?_
          repeat (first | (refine Trip.skip ?_; ((repeat (refine blockExit_normal ?_)); dsimp only)))
          refine ⟨gK, by rw [hbad]; rfl, ⟨by rw [Heap.put_eq, hbad]; rfl, ?_, by omega, ⟨by omega, fun i hi => by rw [Heap.put_ne (by omega), gO i (by omega) (by omega), hJ.old.2 i hi]⟩⟩, ⟨by omega, fun i hi hn => ?_⟩⟩
          · rw [Heap.put_ne (by omega), gR, hbad]
          · simp only [List.mem_cons, List.not_mem_nil, or_false, not_or] at hn
            rw [Heap.put_ne hn.1, gO i hi hn.1]
        · have hbad : oddX ss (.node yk ys ye yl) = true := by rw [hbd, decide_eq_false hp]; rfl
          have hs0 : symX ss ys = (.empty, 0) := by unfold symX; rw [if_neg hp]
          rw [hs0]
          have hT : (sEq (ByteArray.empty, (0 : Int)).1 ByteArray.empty && ((ByteArray.empty, (0 : Int)).2 == (0 : Int))) = true := by kernel_rfl
          rw [hT]
          repeat (first | (refine OpsL.nil ?_; (change Trip _ _ _ _ _)))
          refine Trip.ifT ?_
          repeat (first | (refine Trip.seq ?_) | (refine Trip.ops ?_))
          refine OpsL.storeAt (cs' := [.bool true]) 0 (by (first | (simp only [ASt.ev, tmPut, ↓reduceIte, Nat.reduceEqDiff, *]; rfl))) (by (first | (simp only [ASt.ev, tmPut, ↓reduceIte, Nat.reduceEqDiff, *]; rfl))) (by exact rfl) (by exact rfl) (by exact rfl) gR (by exact rfl) (by simp) (by exact rfl) ?_
          repeat (first | (refine Trip.ret ?_; ((repeat (refine blockExit_ret ?_)); dsimp only)) | (refine OpsL.nil ?_; (change Trip _ _ _ _ _)))
          refine ⟨by rw [Heap.put_ne (by omega)]; exact gK, by rw [hbad]; rfl, ⟨by rw [Heap.put_eq, hbad]; rfl, ?_, by omega, ⟨by omega, fun i hi => by rw [Heap.put_ne (by omega), Heap.put_ne (by omega), gO i (by omega) (by omega), hJ.old.2 i hi]⟩⟩, ⟨by omega, fun i hi hn => ?_⟩⟩
          · rw [Heap.put_ne (by omega), Heap.put_eq, hbad]
          · simp only [List.mem_cons, List.not_mem_nil, or_false, not_or] at hn
            rw [Heap.put_ne hn.1, Heap.put_ne hn.2, gO i hi hn.1]
      refine OpsL.eqlF ?_ (c := h3)
      repeat (first | (refine OpsL.q (by exact oasg) ?_) | (refine OpsL.nil ?_; (change Trip _ _ _ _ _)))
      refine Trip.ifF ?_
      by_cases h4 : yk = 4
      · rw [nameX_4 h3 h4, symX_kind (by decide), symX_kind (by decide)] at hbd
        refine Trip.seq ?_
        refine Trip.ops ?_
        refine OpsL.eqlT ?_ (c := h4)
        repeat (first | (refine OpsL.q (by exact oasg) ?_) | (refine OpsL.nil ?_; (change Trip _ _ _ _ _)))
        refine Trip.ifT ?_
        repeat (first | (refine OpsL.q (by first | exact ofa | exact old) ?_) | (refine Trip.seq ?_) | (refine Trip.ops ?_))
        refine OpsL.c2 (hf := entersSymAtX) (hc := (symAtXC W0 hlF hss ys)) (h := ?_)
        rintro v6 n6 F6 ⟨rfl, y6⟩
        have gR := (y6.2 (nx + 1 + 1) (by omega)).trans fR
        have gK := (y6.2 (nx + 1 + 1 + 1 + 1) (by omega)).trans fK
        have gO : ∀ i, i < n4 → i ≠ (nx + 1 + 1 + 1 + 1) → F6 i = H4 i := fun i h1 h2 => by rw [y6.2 i (by omega), fO i h1 h2]
        have hle6 := y6.1
        generalize symX ss ys = r1 at *
        obtain ⟨ra, rk⟩ := r1
        simp only at hbd ⊢
        repeat (first | (refine OpsL.q (by exact aop_field (by (first | (simp only [ASt.ev, tmPut, ↓reduceIte, Nat.reduceEqDiff, *]; rfl))) (by exact rfl) (by exact rfl) (by exact rfl) rfl (by exact rfl)) ?_))
        by_cases hk1 : rk = 1
        · rw [decide_eq_true hk1, Bool.true_and] at hbd
          refine OpsL.neqF ?_ (c := hk1)
          have cL6 := cell_ext y6 okF cL
          have hc26 := cell_ext y6 okF hc2
          have hl6 := hlF.ext y6 okF
          clear cL hc0 hc1 hc2
          repeat (first | (refine OpsL.q (by first | exact omv | exact ofa | exact old) ?_) | (refine OpsL.ung ?_))
          refine OpsL.c2 (hf := entersSymAtX) (hc := (symAtXC W0 hl6 hss ye)) (h := ?_)
          rintro v7 n7 F7 ⟨rfl, y7⟩
          replace gR := (y7.2 (nx + 1 + 1) (by omega)).trans gR
          replace gK := (y7.2 (nx + 1 + 1 + 1 + 1) (by omega)).trans gK
          replace gO : ∀ i, i < n4 → i ≠ (nx + 1 + 1 + 1 + 1) → F7 i = H4 i := fun i h1 h2 => by rw [y7.2 i (by omega), gO i h1 h2]
          have hle7 := y7.1
          generalize symX ss ye = r2 at *
          obtain ⟨rb, rk2⟩ := r2
          simp only at hbd ⊢
          repeat (first | (refine OpsL.q (by exact aop_field (by (first | (simp only [ASt.ev, tmPut, ↓reduceIte, Nat.reduceEqDiff, *]; rfl))) (by exact rfl) (by exact rfl) (by exact rfl) rfl (by exact rfl)) ?_) | (refine OpsL.ung ?_))
          by_cases hk2 : rk2 = 2
          · rw [decide_eq_true hk2] at hbd
            have hbad : oddX ss (.node yk ys ye yl) = false := hbd
            refine OpsL.neqF ?_ (c := hk2)
            repeat (first | (refine OpsL.q (by exact opkF) ?_) | (refine OpsL.nil ?_; (change Trip _ _ _ _ _)))
            refine Trip.ifF ?_
            repeat (first | (refine Trip.skip ?_; ((repeat (refine blockExit_normal ?_)); dsimp only)))
            refine ⟨gK, by rw [hbad]; rfl, ⟨by rw [Heap.put_eq, hbad]; rfl, ?_, by omega, ⟨by omega, fun i hi => by rw [Heap.put_ne (by omega), gO i (by omega) (by omega), hJ.old.2 i hi]⟩⟩, ⟨by omega, fun i hi hn => ?_⟩⟩
            · rw [Heap.put_ne (by omega), gR, hbad]
            · simp only [List.mem_cons, List.not_mem_nil, or_false, not_or] at hn
              rw [Heap.put_ne hn.1, gO i hi hn.1]
          · rw [decide_eq_false hk2] at hbd
            have hbad : oddX ss (.node yk ys ye yl) = true := hbd
            refine OpsL.neqT ?_ (c := hk2)
            repeat (first | (refine OpsL.q (by exact opkF) ?_) | (refine OpsL.nil ?_; (change Trip _ _ _ _ _)))
            refine Trip.ifT ?_
            repeat (first | (refine Trip.seq ?_) | (refine Trip.ops ?_))
            refine OpsL.storeAt (cs' := [.bool true]) 0 (by (first | (simp only [ASt.ev, tmPut, ↓reduceIte, Nat.reduceEqDiff, *]; rfl))) (by (first | (simp only [ASt.ev, tmPut, ↓reduceIte, Nat.reduceEqDiff, *]; rfl))) (by exact rfl) (by exact rfl) (by exact rfl) gR (by exact rfl) (by simp) (by exact rfl) ?_
            repeat (first | (refine Trip.ret ?_; ((repeat (refine blockExit_ret ?_)); dsimp only)) | (refine OpsL.nil ?_; (change Trip _ _ _ _ _)))
            refine ⟨by rw [Heap.put_ne (by omega)]; exact gK, by rw [hbad]; rfl, ⟨by rw [Heap.put_eq, hbad]; rfl, ?_, by omega, ⟨by omega, fun i hi => by rw [Heap.put_ne (by omega), Heap.put_ne (by omega), gO i (by omega) (by omega), hJ.old.2 i hi]⟩⟩, ⟨by omega, fun i hi hn => ?_⟩⟩
            · rw [Heap.put_ne (by omega), Heap.put_eq, hbad]
            · simp only [List.mem_cons, List.not_mem_nil, or_false, not_or] at hn
              rw [Heap.put_ne hn.1, Heap.put_ne hn.2, gO i hi hn.1]
        · rw [decide_eq_false hk1, Bool.false_and] at hbd
          have hbad : oddX ss (.node yk ys ye yl) = true := hbd
          refine OpsL.neqT ?_ (c := hk1)
          repeat (first | (refine OpsL.q (by first | exact omv | exact opkT) ?_) | (refine OpsL.nil ?_; (change Trip _ _ _ _ _)) | (refine OpsL.skp ?_))
          refine Trip.ifT ?_
          repeat (first | (refine Trip.seq ?_) | (refine Trip.ops ?_))
          refine OpsL.storeAt (cs' := [.bool true]) 0 (by (first | (simp only [ASt.ev, tmPut, ↓reduceIte, Nat.reduceEqDiff, *]; rfl))) (by (first | (simp only [ASt.ev, tmPut, ↓reduceIte, Nat.reduceEqDiff, *]; rfl))) (by exact rfl) (by exact rfl) (by exact rfl) gR (by exact rfl) (by simp) (by exact rfl) ?_
          repeat (first | (refine Trip.ret ?_; ((repeat (refine blockExit_ret ?_)); dsimp only)) | (refine OpsL.nil ?_; (change Trip _ _ _ _ _)))
          refine ⟨by rw [Heap.put_ne (by omega)]; exact gK, by rw [hbad]; rfl, ⟨by rw [Heap.put_eq, hbad]; rfl, ?_, by omega, ⟨by omega, fun i hi => by rw [Heap.put_ne (by omega), Heap.put_ne (by omega), gO i (by omega) (by omega), hJ.old.2 i hi]⟩⟩, ⟨by omega, fun i hi hn => ?_⟩⟩
          · rw [Heap.put_ne (by omega), Heap.put_eq, hbad]
          · simp only [List.mem_cons, List.not_mem_nil, or_false, not_or] at hn
            rw [Heap.put_ne hn.1, Heap.put_ne hn.2, gO i hi hn.1]
      · have hbad : oddX ss (.node yk ys ye yl) = false := by rw [hbd, nameX_n h3 h4]; rfl
        refine Trip.seq ?_
        refine Trip.ops ?_
        refine OpsL.eqlF ?_ (c := h4)
        repeat (first | (refine OpsL.q (by exact oasg) ?_) | (refine OpsL.nil ?_; (change Trip _ _ _ _ _)))
        refine Trip.ifF ?_
        have gR := fR
        have gK := fK
        have gO := fO
        repeat (first | (refine Trip.skip ?_; ((repeat (refine blockExit_normal ?_)); dsimp only)))
        refine ⟨gK, by rw [hbad]; rfl, ⟨by rw [Heap.put_eq, hbad]; rfl, ?_, by omega, ⟨by omega, fun i hi => by rw [Heap.put_ne (by omega), gO i (by omega) (by omega), hJ.old.2 i hi]⟩⟩, ⟨by omega, fun i hi hn => ?_⟩⟩
        · rw [Heap.put_ne (by omega), gR, hbad]
        · simp only [List.mem_cons, List.not_mem_nil, or_false, not_or] at hn
          rw [Heap.put_ne hn.1, gO i hi hn.1]
    · have := hJ.lt
      simp only [List.mem_cons, List.not_mem_nil, or_false] at hi
      omega
    · rw [hJ.rec_]
      split <;> rfl
  · exact ⟨by rw [Heap.put_eq]; rfl, by rw [Heap.put_ne (by omega)]; exact r3, by omega, ⟨by omega, fun i hi => by rw [Heap.put_ne (by omega), x3.2 i (by omega), x1.2 i (by omega)]⟩⟩
  · skip
    intro n2 H2 hJ2 y2
    rw [each_any] at hJ2
    have hdl := hJ2.lt
    have hsame : ∀ i, i < nx → H2.del (nx + 1 + 1 + 1 + 1) i = H i := fun i hi => by
      rw [del_ne (by omega), y2.same i (by omega) (by simp; omega), Heap.put_ne (by omega), x3.2 i (by omega), x1.2 i (by omega), xB.2 i (by omega), xA.2 i hi]
    have q2 := cutT_at (n := 35) eR (by decide)
    cases hA : anyX (oddX ss) x
    · rw [hA] at hJ2
      have hr := hJ2.rec_
      refine ⟨_, _, _, _, _, _, _, hr, by decide, .inl ⟨rfl, ?_⟩⟩
      have fR : H2.del (nx + 1 + 1 + 1 + 1) (nx + 1 + 1) = some (.cells [.bool false] 0 none false (some 4)) := by rw [del_ne (by omega), hJ2.res]
      generalize H2.del (nx + 1 + 1 + 1 + 1) = F at *
      ((repeat (refine blockExit_normal ?_)); change Trip _ _ _ _ _)
      repeat (first | (refine Trip.seq ?_) | (refine Trip.ops ?_))
      refine OpsL.storeAt (cs' := [.bool false]) 0 (by (first | (simp only [ASt.ev, tmPut, ↓reduceIte, Nat.reduceEqDiff, *]; rfl))) (by (first | (simp only [ASt.ev, tmPut, ↓reduceIte, Nat.reduceEqDiff, *]; rfl))) (by exact rfl) (by exact rfl) (by exact rfl) fR (by exact rfl) (by simp) (by exact rfl) ?_
      repeat (first | (refine Trip.ret ?_; (dsimp only)) | (refine OpsL.nil ?_; (change Trip _ _ _ _ _)))
      refine ⟨.inr rfl, _, res_cell (a := ⟨(nx + 1 + 1), 0, none⟩) (v := .bool false) q2 (readAt_one (by exact rfl) rfl (cell_one Heap.put_eq)), rfl, by omega, fun i hi => by rw [Heap.put_ne (by omega)]; exact hsame i hi⟩
    · rw [hA] at hJ2
      have hr := hJ2.rec_
      refine ⟨_, _, _, _, _, _, _, hr, by decide, .inr ⟨_, rfl, ?_⟩⟩
      have fR : H2.del (nx + 1 + 1 + 1 + 1) (nx + 1 + 1) = some (.cells [.bool true] 0 none false (some 4)) := by rw [del_ne (by omega), hJ2.res]
      repeat (first | (refine Trip.ret ?_; ((repeat (refine blockExit_ret ?_)); dsimp only)))
      refine ⟨.inr rfl, _, res_cell (a := ⟨(nx + 1 + 1), 0, none⟩) (v := .bool true) q2 (readAt_one (by exact rfl) rfl (cell_one fR)), rfl, by omega, hsame⟩
end Go.Proofs.YtmijhkclfoadaaaDoor
