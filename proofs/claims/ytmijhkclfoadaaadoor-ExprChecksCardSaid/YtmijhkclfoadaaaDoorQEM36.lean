import Derived.Test.YtmijhkclfoadaaaDoorQEM34
import Derived.Test.YtmijhkclfoadaaaDoorQEM21
import Derived.Test.YtmijhkclfoadaaaDoorQEM35
namespace Go.Proofs.YtmijhkclfoadaaaDoor
set_option linter.unusedSimpArgs false
set_option linter.unusedVariables false
open Go.Am Go.RowKit
attribute [local irreducible] aop OpsL Trip blockExit OpsD OpsK OpsR
theorem entersLooseX : Am.Enters Tryd.prog 43 := ⟨Tryd.f43, Tryd.func43, by kernel_rfl, by kernel_rfl⟩
set_option maxRecDepth 20000 in
set_option maxHeartbeats 8000000 in
theorem looseXC (W0 : World) {x : Ex} {nx : Nat} {H : Heap} {lv : Value} {ss : List (ByteArray × Int)} {cs : List Value} {B : List Nat} (hl : SymsAt H lv ss) (hss : ss.length ≤ 1000) (hfm : formX x = true) (hx : ExC H cs x B) (hn : sizeX x ≤ 1000000) : ACalls Tryd.prog W0 43 [lv, .agg cs.toArray] nx H fun v nx' H' => v = .bool (anyX (nestX ss) x) ∧ Ext nx H nx' H' := by
  obtain ⟨k, s, e, l⟩ := x
  obtain ⟨av, c, rfl⟩ := hx.cells
  obtain ⟨la, lc, rfl, _⟩ := id hl
  refine ACalls.by_trip (fn := Tryd.f43) (c := _) Tryd.func43 rfl (fun tm n hn0 htm => ?_)
  have e0 : tm 0 = .slice (some la) ss.length lc := htm 0
  have e1 : tm 1 = .agg ([.int .i64 k, .int .i64 s, .int .i64 e, .slice av l.length c] : List Value).toArray := htm 1
  clear htm
  replace hn0 : n = 30 := hn0
  refine Trip.ok fun hok => ?_
  replace hok : ∀ id o, H id = some o → id < nx := hok
  refine Trip.seq ?_
  refine Trip.ops ?_
  refine OpsL.new (by subst_vars; decide) (aop_box (by (first | (simp only [ASt.ev, tmPut, ↓reduceIte, Nat.reduceEqDiff, *]; rfl)))) ?_
  obtain ⟨G0, hG0⟩ : ∃ G0, G0 = H.put nx (.cells (Value.slice (some la) ss.length lc).cells.toList 0 none false (some 24)) := ⟨_, rfl⟩
  have xA : Ext nx H (nx + 1) G0 := by rw [hG0]; exact Ext.newPut
  have rA : G0 nx = some (.cells [.slice (some la) ss.length lc] 0 none false (some 24)) := by rw [hG0, Heap.put_eq]; rfl
  have okA : ∀ id o, G0 id = some o → id < nx + 1 := by rw [hG0]; exact ok_new hok
  rw [← hG0]
  clear hG0
  refine OpsL.boxX okA ?_ (by (first | (simp only [ASt.ev, tmPut, ↓reduceIte, Nat.reduceEqDiff, *]; rfl))) rfl (by subst_vars; decide)
  intro G xB okG hb
  have hG := (hx.ext xA hok).ext xB okA
  have hlG := (hl.ext xA hok).ext xB okA
  have rA' : G nx = some (.cells [.slice (some la) ss.length lc] 0 none false (some 24)) := by rw [xB.2 _ (by omega)]; exact rA
  clear e0 e1
  generalize Ex.node k s e l = x at *
  have hall := hb.all
  refine OpsL.new (by subst_vars; decide) (aop_alloc (l := [.bool false]) (by exact rfl)) ?_
  obtain ⟨G1, hG1⟩ : ∃ G1, G1 = G.put (nx + 1 + 1) (.cells [.bool false] 0 none false (some 4)) := ⟨_, rfl⟩
  have x1 : Ext (nx + 1 + 1) G (nx + 1 + 1 + 1) G1 := by rw [hG1]; exact Ext.newPut
  have r1 : G1 (nx + 1 + 1) = some (.cells [.bool false] 0 none false (some 4)) := by rw [hG1]; exact Heap.put_eq
  rw [← hG1]
  clear hG1
  have g4 : getc G1 ⟨nx + 1, 0, none⟩ 4 = some [.int .i64 k, .int .i64 s, .int .i64 e, .slice av l.length c] := getc_ext x1 okG hall
  refine OpsL.nil ?_
  (change Trip _ _ _ _ _)
  refine Trip.seq ?_
  refine Trip.ok fun ok1 => ?_
  replace ok1 : ∀ id o, G1 id = some o → id < nx + 1 + 1 + 1 := ok1
  refine Trip.seq ?_
  refine Trip.mono (Q := fun x st => x = .normal ∧ ∃ (tm' : Nat → Value) (G3 : Heap), st = ⟨tm', n, G3, nx + 1 + 1 + 1 + 1⟩ ∧ Ext (nx + 1 + 1 + 1) G1 (nx + 1 + 1 + 1 + 1) G3 ∧ ExBox G3 (nx + 1 + 1 + 1) k s e (.slice av l.length c) ∧ tm' 2 = .pointer (some ⟨nx, 0, none⟩) ∧ tm' 4 = .pointer (some ⟨nx + 1 + 1, 0, none⟩) ∧ tm' 8 = .func (.func 101) #[] #[.pointer (some ⟨nx + 1 + 1 + 1, 0, none⟩)]) ?_ ?_
  · refine Trip.ops ?_
    repeat (first | (refine OpsL.q (by exact aop_loadAgg (k := 4) (by (first | (simp only [ASt.ev, tmPut, ↓reduceIte, Nat.reduceEqDiff, *]; rfl))) (by exact rfl) rfl (by exact rfl) (by assumption)) ?_))
    refine OpsL.c1 (hf := entersAllX) (hc := (allXC W0 rfl)) (h := ?_)
    rintro v3 n3 G3 ⟨rfl, rfl, x3, hb3⟩
    refine OpsL.nil ?_
    exact ⟨rfl, _, G3, rfl, x3, hb3, by simp [tmPut, *], by simp [tmPut, *], by simp [tmPut]⟩
  rintro x' st ⟨rfl, tm, G3, rfl, x3, hb3, eL, eR, e5⟩
  (change Trip _ _ _ _ _)
  have hBk : ∀ b ∈ B, b ∉ [nx + 1 + 1 + 1 + 1, nx + 1 + 1] := fun b hb => by
    have := hx.lt hok b hb
    simp only [List.mem_cons, List.not_mem_nil, or_false]
    omega
  have hx3 := (hG.ext x1 okG).ext x3 ok1
  have r3 : G3 (nx + 1 + 1) = some (.cells [.bool false] 0 none false (some 4)) := by rw [x3.2 _ (by omega)]; exact r1
  refine Trip.block ?_
  refine Trip.ok fun ok3 => ?_
  replace ok3 : ∀ id o, G3 id = some o → id < nx + 1 + 1 + 1 + 1 := ok3
  subst hn0
  refine Trip.rangeXJ (good := fun y => formX y = true ∧ sizeX y ≤ 1000000) (J := BadK (nx + 1 + 1 + 1 + 1) (nx + 1 + 1) (nx + 1 + 1) G) (L := [nx + 1 + 1 + 1 + 1, nx + 1 + 1]) (step := fun _ y => nestX ss y) (live := fun b => !b) (a := false) (ev_cut e5 (by decide)) ok3 ?_ ?_ rfl ⟨hfm, hn⟩ hx3 hBk hn hb3.all ?_
  · have q2 := cutT_at (n := 30) eR (by decide)
    have qL := cutT_at (n := 30) eL (by decide)
    refine ⟨fun cc n4 H4 cs4 x4 B4 hJ hlv hgd0 hx4 hB4 hok4 => ?_, fun cc n4 H4 n5 H5 hJ h5 => hJ.ext (by omega) h5, fun cc n4 H4 hJ i hi => ?_, fun cc n4 H4 hJ => ?_, fun k s e l h y hy => ⟨formX_kids h.1 y hy, ?_⟩⟩
    · obtain rfl : cc = false := by cases cc <;> simp_all
      obtain ⟨hgd, hn4⟩ := hgd0
      have hr := hJ.rec_
      have hdl := hJ.lt
      refine AYields.round (tm := tm) (n := 30) (p := 9) hr (by decide) ?_
      refine Trip.ops ?_
      obtain ⟨yk, ys, ye, yl⟩ := x4
      obtain ⟨ya, yc, rfl⟩ := hx4.cells
      refine OpsL.new (by subst_vars; decide) (aop_alloc (l := [.int .i64 0, .int .i64 0, .int .i64 0, .slice none 0 0]) (by exact rfl)) ?_
      obtain ⟨F1, hF1⟩ : ∃ F1, F1 = H4.put n4 (.cells [.int .i64 0, .int .i64 0, .int .i64 0, .slice none 0 0] 0 none false (some 28)) := ⟨_, rfl⟩
      have xF1 : Ext n4 H4 (n4 + 1) F1 := by rw [hF1]; exact Ext.newPut
      have rF1 : F1 n4 = some (.cells [.int .i64 0, .int .i64 0, .int .i64 0, .slice none 0 0] 0 none false (some 28)) := by rw [hF1]; exact Heap.put_eq
      rw [← hF1]
      clear hF1
      refine OpsL.storeX ?_ (by (first | (simp only [ASt.ev, tmPut, ↓reduceIte, Nat.reduceEqDiff, *]; done))) (by (first | (simp only [ASt.ev, tmPut, ↓reduceIte, Nat.reduceEqDiff, *]; rfl))) rF1 rfl rfl rfl
      intro F2 rF2 sF2
      have xF2 : Ext n4 H4 (n4 + 1) F2 := ⟨Nat.le_succ _, fun q hq => by rw [sF2 q (by omega), xF1.2 q hq]⟩
      have hJ2 := hJ.ext (by omega) xF2
      have hx5 := hx4.ext xF2 hok4
      clear xF1 rF1 sF2
      refine OpsL.nil ?_
      refine ⟨rfl, by dsimp only; rw [xF2.2 _ hJ.lt]; exact hr, ?_⟩
      dsimp only
      have fR : ∀ o, (F2.put (nx + 1 + 1 + 1 + 1) o) (nx + 1 + 1) = some (.cells [.bool false] 0 none false (some 4)) := fun o => by rw [Heap.put_ne (by omega)]; exact hJ2.res
      have fK : ∀ o, (F2.put (nx + 1 + 1 + 1 + 1) o) (nx + 1 + 1 + 1 + 1) = some o := fun o => Heap.put_eq
      have fC : ∀ o, (F2.put (nx + 1 + 1 + 1 + 1) o) n4 = some (.cells [.int .i64 yk, .int .i64 ys, .int .i64 ye, .slice ya yl.length yc] 0 none false (some 28)) := fun o => by rw [Heap.put_ne (by omega)]; exact rF2
      have fX : ∀ o, ExC (F2.put (nx + 1 + 1 + 1 + 1) o) [.int .i64 yk, .int .i64 ys, .int .i64 ye, .slice ya yl.length yc] (.node yk ys ye yl) B4 := fun o => hx5.same fun b hb => Heap.put_ne (by have := hB4 b hb; simp only [List.mem_cons, List.not_mem_nil, or_false, not_or] at this; exact this.1)
      have fO : ∀ o i, i < n4 → i ≠ (nx + 1 + 1 + 1 + 1) → (F2.put (nx + 1 + 1 + 1 + 1) o) i = H4 i := fun o i h1 h2 => by rw [Heap.put_ne h2, xF2.2 i h1]
      generalize hF : F2.put (nx + 1 + 1 + 1 + 1) _ = F
      replace fR := hF ▸ fR _
      replace fK := hF ▸ fK _
      replace fC := hF ▸ fC _
      replace fX := hF ▸ fX _
      replace fO := hF ▸ fO _
      clear hF rF2
      have fL : F nx = some (.cells [.slice (some la) ss.length lc] 0 none false (some 24)) := by rw [fO nx (by omega) (by omega), hJ.old.2 nx (by omega)]; exact rA'
      have hc0 : cellAt F ⟨n4, 0, none⟩ (.int .i64 yk) := cellAt_own (off := 0) fC (by simp)
      have hc3 : cellAt F ⟨n4, 3, none⟩ (.slice ya yl.length yc) := cellAt_own (off := 3) fC (by simp)
      refine Trip.block ?_
      refine Trip.seq ?_
      refine Trip.seq ?_
      refine Trip.ops ?_
      repeat (first | (refine OpsL.q (by first | exact ofa | exact old) ?_))
      by_cases h4 : yk = 4
      · refine OpsL.p (by decide) (aop_neqF (by (first | (simp only [ASt.ev, tmPut, ↓reduceIte, Nat.reduceEqDiff, *]; rfl))) (by (first | (simp only [ASt.ev, tmPut, ↓reduceIte, Nat.reduceEqDiff, *]; rfl))) h4) ?_
        refine OpsL.nil ?_
        (change Trip _ _ _ _ _)
        refine Trip.ifF ?_
        refine Trip.skip ?_
        (change Trip _ _ _ _ _)
        refine Trip.ok fun okF => ?_
        replace okF : ∀ id o, F id = some o → id < n4 + 1 := okF
        obtain ⟨y0, rfl⟩ := formX_one hgd h4
        obtain ⟨p, csy, By, rfl, hcy, hxy, hBy⟩ := fX.at rfl (i := 0) (by simp)
        replace hcy : getc F ⟨p.block, p.off + (0 : Int).toNat * 4, p.spot⟩ 4 = some csy := hcy
        have hsz0 : sizeX y0 ≤ 1000000 := by
          have := sizeXL_mem [y0] 1 (List.mem_singleton.2 rfl)
          simp only [sizeX] at hn4
          omega
        simp only [List.getElem_cons_zero] at hxy
        have hbd : nestX ss (.node yk ys ye [y0]) = anyX (symbadX ss) y0 := by simp [nestX, h4]
        obtain ⟨zk, zs, ze, zl⟩ := y0
        obtain ⟨za, zc, rfl⟩ := hxy.cells
        generalize Ex.node zk zs ze zl = y0 at *
        refine Trip.seq ?_
        refine Trip.mono (Q := fun x st => x = .normal ∧ ∃ (tm' : Nat → Value) (F6 : Heap), st = ⟨tm', 30, F6, n4 + 1 + 1⟩ ∧ Ext (n4 + 1) F (n4 + 1 + 1) F6 ∧ ExBox F6 (n4 + 1) zk zs ze (.slice za zl.length zc) ∧ tm' 2 = .pointer (some ⟨nx, 0, none⟩) ∧ tm' 4 = .pointer (some ⟨(nx + 1 + 1), 0, none⟩) ∧ tm' 17 = .func (.func 101) #[] #[.pointer (some ⟨n4 + 1, 0, none⟩)]) ?_ ?_
        · refine Trip.ops ?_
          have hl1 : (0 : Int) < (([Ex.node zk zs ze zl] : List Ex).length : Int) := by simp
          repeat (first | (refine OpsL.q (by first | exact ofa | exact old) ?_))
          refine OpsL.p (by subst_vars; decide) (aop_indexAddr (by (first | (simp only [ASt.ev, tmPut, ↓reduceIte, Nat.reduceEqDiff, *]; rfl))) (by (first | (simp only [ASt.ev, tmPut, ↓reduceIte, Nat.reduceEqDiff, *]; rfl))) (by exact rfl) (by exact rfl) (by omega) (by simp)) ?_
          repeat (first | (refine OpsL.q (by exact aop_loadAgg (k := 4) (by (first | (simp only [ASt.ev, tmPut, ↓reduceIte, Nat.reduceEqDiff, *]; rfl))) (by exact rfl) rfl (by exact rfl) (by assumption)) ?_))
          refine OpsL.call1 (by decide) (by (first | (simp only [ASt.ev, tmPut, ↓reduceIte, Nat.reduceEqDiff, *]; rfl))) entersAllX (allXC W0 rfl) ?_
          rintro v3 n3 G3 ⟨rfl, rfl, x3, hb3⟩
          refine OpsL.nil ?_
          exact ⟨rfl, _, G3, rfl, x3, hb3, by simp [tmPut, *], by simp [tmPut, *], by simp [tmPut]⟩
        rintro x' st ⟨rfl, tm2, F6, rfl, y6, hb6, eL2, eR2, e17⟩
        (change Trip _ _ _ _ _)
        have gR := (y6.2 (nx + 1 + 1) (by omega)).trans fR
        have gK := (y6.2 (nx + 1 + 1 + 1 + 1) (by omega)).trans fK
        have gO : ∀ i, i < n4 → i ≠ (nx + 1 + 1 + 1 + 1) → F6 i = H4 i := fun i h1 h2 => by rw [y6.2 i (by omega), fO i h1 h2]
        have gL := (y6.2 nx (by omega)).trans fL
        have hxy6 := hxy.ext y6 okF
        have hByL : ∀ b ∈ By, b ∉ [n4 + 1 + 1, (nx + 1 + 1)] := fun b hb => by
          have h1 := hB4 b (hBy b hb)
          have h2 := hx4.lt hok4 b (hBy b hb)
          simp only [List.mem_cons, List.not_mem_nil, or_false, not_or] at h1 ⊢
          exact ⟨by omega, h1.2⟩
        have hgG : Ext (nx + 1 + 1) G (n4 + 1 + 1) F6 := ⟨by omega, fun i hi => by rw [gO i (by omega) (by omega), hJ.old.2 i hi]⟩
        clear fX fC fO fR fK fL xF2 hJ2 hx5
        refine Trip.block ?_
        refine Trip.ok fun ok6 => ?_
        replace ok6 : ∀ id o, F6 id = some o → id < n4 + 1 + 1 := ok6
        refine Trip.rangeXJ (good := fun _ => True) (J := BadK (n4 + 1 + 1) (nx + 1 + 1) (nx + 1 + 1) G) (L := [n4 + 1 + 1, (nx + 1 + 1)]) (step := fun _ y => symbadX ss y) (live := fun b => !b) (a := false) (ev_cut e17 (by decide)) ok6 ?_ ?_ rfl trivial hxy6 hByL hsz0 hb6.all ?_
        · have p2 := cutT_at (n := 30) eR2 (by decide)
          have pL := cutT_at (n := 30) eL2 (by decide)
          clear gK gO gL y6 hb6 hxy6 hByL
          refine ⟨fun cc n7 H7 cs7 x7 B7 hJ hlv _ hx7 hB7 hok7 => ?_, fun cc n4 H4 n5 H5 hJ h5 => hJ.ext (by omega) h5, fun cc n4 H4 hJ i hi => ?_, fun cc n4 H4 hJ => ?_, fun _ _ _ _ _ _ _ => trivial⟩
          · obtain rfl : cc = false := by cases cc <;> simp_all
            have hr := hJ.rec_
            have hdl2 := hJ.lt
            refine AYields.round (tm := tm2) (n := 30) (p := 18) hr (by decide) ?_
            refine Trip.ops ?_
            obtain ⟨wk, ws, we, wl⟩ := x7
            obtain ⟨wa, wc, rfl⟩ := hx7.cells
            refine OpsL.new (by subst_vars; decide) (aop_alloc (l := [.int .i64 0, .int .i64 0, .int .i64 0, .slice none 0 0]) (by exact rfl)) ?_
            obtain ⟨I1, hI1⟩ : ∃ I1, I1 = H7.put n7 (.cells [.int .i64 0, .int .i64 0, .int .i64 0, .slice none 0 0] 0 none false (some 28)) := ⟨_, rfl⟩
            have xI1 : Ext n7 H7 (n7 + 1) I1 := by rw [hI1]; exact Ext.newPut
            have rI1 : I1 n7 = some (.cells [.int .i64 0, .int .i64 0, .int .i64 0, .slice none 0 0] 0 none false (some 28)) := by rw [hI1]; exact Heap.put_eq
            rw [← hI1]
            clear hI1
            refine OpsL.storeX ?_ (by (first | (simp only [ASt.ev, tmPut, ↓reduceIte, Nat.reduceEqDiff, *]; done))) (by (first | (simp only [ASt.ev, tmPut, ↓reduceIte, Nat.reduceEqDiff, *]; rfl))) rI1 rfl rfl rfl
            intro I2 rI2 sI2
            have xI2 : Ext n7 H7 (n7 + 1) I2 := ⟨Nat.le_succ _, fun q hq => by rw [sI2 q (by omega), xI1.2 q hq]⟩
            have hJi := hJ.ext (by omega) xI2
            have hx8 := hx7.ext xI2 hok7
            clear xI1 rI1 sI2
            refine OpsL.nil ?_
            refine ⟨rfl, by dsimp only; rw [xI2.2 _ hJ.lt]; exact hr, ?_⟩
            dsimp only
            have iR : ∀ o, (I2.put (n4 + 1 + 1) o) (nx + 1 + 1) = some (.cells [.bool false] 0 none false (some 4)) := fun o => by rw [Heap.put_ne (by omega)]; exact hJi.res
            have iK : ∀ o, (I2.put (n4 + 1 + 1) o) (n4 + 1 + 1) = some o := fun o => Heap.put_eq
            have iC : ∀ o, (I2.put (n4 + 1 + 1) o) n7 = some (.cells [.int .i64 wk, .int .i64 ws, .int .i64 we, .slice wa wl.length wc] 0 none false (some 28)) := fun o => by rw [Heap.put_ne (by omega)]; exact rI2
            have iX : ∀ o, ExC (I2.put (n4 + 1 + 1) o) [.int .i64 wk, .int .i64 ws, .int .i64 we, .slice wa wl.length wc] (.node wk ws we wl) B7 := fun o => hx8.same fun b hb => Heap.put_ne (by have := hB7 b hb; simp only [List.mem_cons, List.not_mem_nil, or_false, not_or] at this; exact this.1)
            have iO : ∀ o i, i < n7 → i ≠ (n4 + 1 + 1) → (I2.put (n4 + 1 + 1) o) i = H7 i := fun o i h1 h2 => by rw [Heap.put_ne h2, xI2.2 i h1]
            generalize hFI : I2.put (n4 + 1 + 1) _ = FI
            replace iR := hFI ▸ iR _
            replace iK := hFI ▸ iK _
            replace iC := hFI ▸ iC _
            replace iX := hFI ▸ iX _
            replace iO := hFI ▸ iO _
            clear hFI rI2
            have cL : cellAt FI ⟨nx, 0, none⟩ (.slice (some la) ss.length lc) := cell_one (by rw [iO nx (by omega) (by omega), hJ.old.2 nx (by omega)]; exact rA')
            have xGF : Ext (nx + 1 + 1) G (n7 + 1) FI := ⟨by omega, fun i hi => by rw [iO i (by omega) (by omega), hJ.old.2 i hi]⟩
            have hlF := hlG.ext xGF okG
            have ic0 : cellAt FI ⟨n7, 0, none⟩ (.int .i64 wk) := cellAt_own (off := 0) iC (by simp)
            have ic1 : cellAt FI ⟨n7, 1, none⟩ (.int .i64 ws) := cellAt_own (off := 1) iC (by simp)
            have ibd : symbadX ss (.node wk ws we wl) = (decide (wk = 3) && !decide ((symX ss ws).2 = 3)) := rfl
            clear iC iX
            refine Trip.block ?_
            repeat (first | (refine OpsL.q (by first | exact ofa | exact old) ?_) | (refine Trip.seq ?_) | (refine Trip.ops ?_))
            by_cases h3 : wk = 3
            · rw [decide_eq_true h3, Bool.true_and] at ibd
              refine OpsL.p (by decide) (aop_eqlT (by (first | (simp only [ASt.ev, tmPut, ↓reduceIte, Nat.reduceEqDiff, *]; rfl))) (by (first | (simp only [ASt.ev, tmPut, ↓reduceIte, Nat.reduceEqDiff, *]; rfl))) h3) ?_
              repeat (first | (refine OpsL.q (by first | exact omv | exact ofa | exact old) ?_) | (refine OpsL.ung ?_))
              refine OpsL.call2 (by decide) (by (first | (simp only [ASt.ev, tmPut, ↓reduceIte, Nat.reduceEqDiff, *]; done))) (by (first | (simp only [ASt.ev, tmPut, ↓reduceIte, Nat.reduceEqDiff, *]; done))) entersSymAtX (symAtXC W0 hlF hss ws) ?_
              rintro v8 n8 F8 ⟨rfl, y8⟩
              have gR := (y8.2 (nx + 1 + 1) (by omega)).trans iR
              have gK := (y8.2 (n4 + 1 + 1) (by omega)).trans iK
              have gO : ∀ i, i < n7 → i ≠ n4 + 1 + 1 → F8 i = H7 i := fun i h1 h2 => by rw [y8.2 i (by omega), iO i h1 h2]
              have hle8 := y8.1
              generalize symX ss ws = r1 at *
              obtain ⟨ra, rk⟩ := r1
              simp only at ibd ⊢
              repeat (first | (refine OpsL.q (by exact aop_field (by (first | (simp only [ASt.ev, tmPut, ↓reduceIte, Nat.reduceEqDiff, *]; rfl))) (by exact rfl) (by exact rfl) (by exact rfl) rfl (by exact rfl)) ?_) | (refine OpsL.ung ?_))
              by_cases hk1 : rk = 3
              · rw [decide_eq_true hk1] at ibd
                have hbad : symbadX ss (.node wk ws we wl) = false := ibd
                refine OpsL.p (by decide) (aop_neqF (by (first | (simp only [ASt.ev, tmPut, ↓reduceIte, Nat.reduceEqDiff, *]; rfl))) (by (first | (simp only [ASt.ev, tmPut, ↓reduceIte, Nat.reduceEqDiff, *]; rfl))) hk1) ?_
                repeat (first | (refine OpsL.q (by exact opkT) ?_) | (refine OpsL.nil ?_; (change Trip _ _ _ _ _)))
                refine Trip.ifF ?_
                repeat (first | (refine Trip.skip ?_; ((repeat (refine blockExit_normal ?_)); dsimp only)))
                refine ⟨gK, by rw [hbad]; rfl, ⟨by rw [Heap.put_eq, hbad]; rfl, ?_, by omega, ⟨by omega, fun i hi => by rw [Heap.put_ne (by omega), gO i (by omega) (by omega), hJ.old.2 i hi]⟩⟩, ⟨by omega, fun i hi hn => ?_⟩⟩
                · rw [Heap.put_ne (by omega), gR, hbad]
                · simp only [List.mem_cons, List.not_mem_nil, or_false, not_or] at hn
                  rw [Heap.put_ne hn.1, gO i hi hn.1]
              · rw [decide_eq_false hk1] at ibd
                have hbad : symbadX ss (.node wk ws we wl) = true := ibd
                refine OpsL.p (by decide) (aop_neqT (by (first | (simp only [ASt.ev, tmPut, ↓reduceIte, Nat.reduceEqDiff, *]; rfl))) (by (first | (simp only [ASt.ev, tmPut, ↓reduceIte, Nat.reduceEqDiff, *]; rfl))) hk1) ?_
                repeat (first | (refine OpsL.q (by exact opkT) ?_) | (refine OpsL.nil ?_; (change Trip _ _ _ _ _)))
                refine Trip.ifT ?_
                repeat (first | (refine Trip.seq ?_) | (refine Trip.ops ?_))
                refine OpsL.storeAt (cs' := [.bool true]) 0 (by (first | (simp only [ASt.ev, tmPut, ↓reduceIte, Nat.reduceEqDiff, *]; rfl))) (by (first | (simp only [ASt.ev, tmPut, ↓reduceIte, Nat.reduceEqDiff, *]; rfl))) (by exact rfl) (by exact rfl) (by exact rfl) gR (by exact rfl) (by simp) (by exact rfl) ?_
                repeat (first | (refine Trip.ret ?_; ((repeat (refine blockExit_ret ?_)); dsimp only)) | (refine OpsL.nil ?_; (change Trip _ _ _ _ _)))
                refine ⟨by rw [Heap.put_ne (by omega)]; exact gK, by rw [hbad]; rfl, ⟨by rw [Heap.put_eq, hbad]; rfl, ?_, by omega, ⟨by omega, fun i hi => by rw [Heap.put_ne (by omega), Heap.put_ne (by omega), gO i (by omega) (by omega), hJ.old.2 i hi]⟩⟩, ⟨by omega, fun i hi hn => ?_⟩⟩
                · rw [Heap.put_ne (by omega), Heap.put_eq, hbad]
                · simp only [List.mem_cons, List.not_mem_nil, or_false, not_or] at hn
                  rw [Heap.put_ne hn.1, Heap.put_ne hn.2, gO i hi hn.1]
            · have hbad : symbadX ss (.node wk ws we wl) = false := by rw [ibd, decide_eq_false h3]; rfl
              refine OpsL.p (by decide) (aop_eqlF (by (first | (simp only [ASt.ev, tmPut, ↓reduceIte, Nat.reduceEqDiff, *]; rfl))) (by (first | (simp only [ASt.ev, tmPut, ↓reduceIte, Nat.reduceEqDiff, *]; rfl))) h3) ?_
              have gR := iR
              have gK := iK
              have gO := iO
              repeat (first | (refine OpsL.q (by first | exact omv | exact opkF) ?_) | (refine OpsL.nil ?_; (change Trip _ _ _ _ _)) | (refine OpsL.skp ?_))
              refine Trip.ifF ?_
              repeat (first | (refine Trip.skip ?_; ((repeat (refine blockExit_normal ?_)); dsimp only)))
              refine ⟨gK, by rw [hbad]; rfl, ⟨by rw [Heap.put_eq, hbad]; rfl, ?_, by omega, ⟨by omega, fun i hi => by rw [Heap.put_ne (by omega), gO i (by omega) (by omega), hJ.old.2 i hi]⟩⟩, ⟨by omega, fun i hi hn => ?_⟩⟩
              · rw [Heap.put_ne (by omega), gR, hbad]
              · simp only [List.mem_cons, List.not_mem_nil, or_false, not_or] at hn
                rw [Heap.put_ne hn.1, gO i hi hn.1]
          · have := hJ.lt
            simp only [List.mem_cons, List.not_mem_nil, or_false] at hi
            omega
          · rw [hJ.rec_]
            split <;> rfl
        · exact ⟨by rw [Heap.put_eq]; rfl, by rw [Heap.put_ne (by omega)]; exact gR, by omega, ⟨by omega, fun i hi => by rw [Heap.put_ne (by omega)]; exact hgG.2 i hi⟩⟩
        · intro n9 H9 hJ9 y9
          rw [each_any] at hJ9
          have hd9 := hJ9.lt
          have kK := (show (H9.del (n4 + 1 + 1)) (nx + 1 + 1 + 1 + 1) = F6 (nx + 1 + 1 + 1 + 1) by rw [del_ne (by omega), y9.same (nx + 1 + 1 + 1 + 1) (by omega) (by simp; omega), Heap.put_ne (by omega)]).trans gK
          have kO : ∀ i, i < n4 → i ≠ (nx + 1 + 1 + 1 + 1) → i ≠ (nx + 1 + 1) → (H9.del (n4 + 1 + 1)) i = H4 i := fun i h1 h2 h3 => by
            rw [del_ne (by omega), y9.same i (by omega) (by simp; omega), Heap.put_ne (by omega)]
            exact gO i h1 h2
          have p2 := cutT_at (n := 30) eR2 (by decide)
          cases hA : anyX (symbadX ss) y0
          · rw [hA] at hJ9 hbd
            have hr := hJ9.rec_
            refine ⟨_, _, _, _, _, _, _, hr, by decide, .inl ⟨rfl, ?_⟩⟩
            have kR : (H9.del (n4 + 1 + 1)) (nx + 1 + 1) = some (.cells [.bool false] 0 none false (some 4)) := by rw [del_ne (by omega), hJ9.res]
            generalize H9.del (n4 + 1 + 1) = F9 at *
            have hbad := hbd
            ((repeat (refine blockExit_normal ?_)); dsimp only)
            refine ⟨kK, by rw [hbad]; rfl, ⟨by rw [Heap.put_eq, hbad]; rfl, ?_, by omega, ⟨by omega, fun i hi => by rw [Heap.put_ne (by omega), kO i (by omega) (by omega) (by omega), hJ.old.2 i hi]⟩⟩, ⟨by omega, fun i hi hn => ?_⟩⟩
            · rw [Heap.put_ne (by omega), kR, hbad]
            · simp only [List.mem_cons, List.not_mem_nil, or_false, not_or] at hn
              rw [Heap.put_ne hn.1, kO i hi hn.1 hn.2]
          · rw [hA] at hJ9 hbd
            have hr := hJ9.rec_
            refine ⟨_, _, _, _, _, _, _, hr, by decide, .inr ⟨_, rfl, ?_⟩⟩
            have kR : (H9.del (n4 + 1 + 1)) (nx + 1 + 1) = some (.cells [.bool true] 0 none false (some 4)) := by rw [del_ne (by omega), hJ9.res]
            generalize H9.del (n4 + 1 + 1) = F9 at *
            have hbad := hbd
            repeat (first | (refine Trip.ret ?_; ((repeat (refine blockExit_ret ?_)); dsimp only)))
            refine ⟨kK, by rw [hbad]; rfl, ⟨by rw [Heap.put_eq, hbad]; rfl, ?_, by omega, ⟨by omega, fun i hi => by rw [Heap.put_ne (by omega), kO i (by omega) (by omega) (by omega), hJ.old.2 i hi]⟩⟩, ⟨by omega, fun i hi hn => ?_⟩⟩
            · rw [Heap.put_ne (by omega), kR, hbad]
            · simp only [List.mem_cons, List.not_mem_nil, or_false, not_or] at hn
              rw [Heap.put_ne hn.1, kO i hi hn.1 hn.2]
      · have hbad : nestX ss (.node yk ys ye yl) = false := by simp [nestX, h4]
        refine OpsL.p (by decide) (aop_neqT (by (first | (simp only [ASt.ev, tmPut, ↓reduceIte, Nat.reduceEqDiff, *]; rfl))) (by (first | (simp only [ASt.ev, tmPut, ↓reduceIte, Nat.reduceEqDiff, *]; rfl))) h4) ?_
        refine OpsL.nil ?_
        (change Trip _ _ _ _ _)
        refine Trip.ifT ?_
        have gR := fR
        have gK := fK
        have gO := fO
        repeat (first | (refine Trip.exit ?_; ((repeat (refine blockExit_eq ?_)); dsimp only)))
        refine ⟨gK, by rw [hbad]; rfl, ⟨by rw [Heap.put_eq, hbad]; rfl, ?_, by omega, ⟨by omega, fun i hi => by rw [Heap.put_ne (by omega), gO i (by omega) (by omega), hJ.old.2 i hi]⟩⟩, ⟨by omega, fun i hi hn => ?_⟩⟩
        · rw [Heap.put_ne (by omega), gR, hbad]
        · simp only [List.mem_cons, List.not_mem_nil, or_false, not_or] at hn
          rw [Heap.put_ne hn.1, gO i hi hn.1]
    · have := hJ.lt
      simp only [List.mem_cons, List.not_mem_nil, or_false] at hi
      omega
    · rw [hJ.rec_]
      split <;> rfl
    · have := sizeXL_mem l 1 hy
      have := h.2
      simp only [sizeX] at this
      omega
  · exact ⟨by rw [Heap.put_eq]; rfl, by rw [Heap.put_ne (by omega)]; exact r3, by omega, ⟨by omega, fun i hi => by rw [Heap.put_ne (by omega), x3.2 i (by omega), x1.2 i (by omega)]⟩⟩
  · skip
    intro n2 H2 hJ2 y2
    rw [each_any] at hJ2
    have hdl := hJ2.lt
    have hsame : ∀ i, i < nx → H2.del (nx + 1 + 1 + 1 + 1) i = H i := fun i hi => by
      rw [del_ne (by omega), y2.same i (by omega) (by simp; omega), Heap.put_ne (by omega), x3.2 i (by omega), x1.2 i (by omega), xB.2 i (by omega), xA.2 i hi]
    have q2 := cutT_at (n := 30) eR (by decide)
    cases hA : anyX (nestX ss) x
    · rw [hA] at hJ2
      have hr := hJ2.rec_
      refine ⟨_, _, _, _, _, _, _, hr, by decide, .inl ⟨rfl, ?_⟩⟩
      have fR : H2.del (nx + 1 + 1 + 1 + 1) (nx + 1 + 1) = some (.cells [.bool false] 0 none false (some 4)) := by rw [del_ne (by omega), hJ2.res]
      generalize H2.del (nx + 1 + 1 + 1 + 1) = F at *
      ((repeat (refine blockExit_normal ?_)); change Trip _ _ _ _ _)
      repeat (first | (refine Trip.seq ?_) | (refine Trip.ops ?_))
      refine OpsL.storeAt (cs' := [.bool false]) 0 (by (first | (simp only [ASt.ev, tmPut, ↓reduceIte, Nat.reduceEqDiff, *]; rfl))) (by (first | (simp only [ASt.ev, tmPut, ↓reduceIte, Nat.reduceEqDiff, *]; rfl))) (by exact rfl) (by exact rfl) (by exact rfl) fR (by exact rfl) (by simp) (by exact rfl) ?_
      repeat (first | (refine Trip.ret ?_; (dsimp only)) | (refine OpsL.nil ?_; (change Trip _ _ _ _ _)))
      refine ⟨.inr rfl, _, res_cell (a := ⟨(nx + 1 + 1), 0, none⟩) (v := .bool false) q2 (readAt_one (by exact rfl) rfl (cell_one Heap.put_eq)), rfl, by omega, fun i hi => by rw [Heap.put_ne (by omega)]; exact hsame i hi⟩
    · rw [hA] at hJ2
      have hr := hJ2.rec_
      refine ⟨_, _, _, _, _, _, _, hr, by decide, .inr ⟨_, rfl, ?_⟩⟩
      have fR : H2.del (nx + 1 + 1 + 1 + 1) (nx + 1 + 1) = some (.cells [.bool true] 0 none false (some 4)) := by rw [del_ne (by omega), hJ2.res]
      repeat (first | (refine Trip.ret ?_; ((repeat (refine blockExit_ret ?_)); dsimp only)))
      refine ⟨.inr rfl, _, res_cell (a := ⟨(nx + 1 + 1), 0, none⟩) (v := .bool true) q2 (readAt_one (by exact rfl) rfl (cell_one fR)), rfl, by omega, hsame⟩
end Go.Proofs.YtmijhkclfoadaaaDoor
