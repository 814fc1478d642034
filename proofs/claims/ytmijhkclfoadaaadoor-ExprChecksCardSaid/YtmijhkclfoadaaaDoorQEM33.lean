import Derived.Test.YtmijhkclfoadaaaDoorQEM31
import Derived.Test.YtmijhkclfoadaaaDoorQEM21
import Derived.Test.YtmijhkclfoadaaaDoorQEM23
namespace Go.Am
set_option linter.unusedSimpArgs false
set_option linter.unusedVariables false
open Go.RowKit
mutual
def anyX (bad : Ex → Bool) : Ex → Bool
  | .node k s e l => anyXL bad l (bad (.node k s e l))
def anyXL (bad : Ex → Bool) : List Ex → Bool → Bool
  | [], b => b
  | x :: l, b => anyXL bad l (b || anyX bad x)
end
theorem anyXL_true (bad : Ex → Bool) : ∀ l : List Ex, anyXL bad l true = true
  | [] => by simp [anyXL]
  | x :: l => by simp only [anyXL, Bool.true_or]; exact anyXL_true bad l
mutual
theorem each_any (bad : Ex → Bool) : ∀ (x : Ex) (a : Bool), eachX (fun _ y => bad y) (fun b => !b) x a = anyX bad x
  | .node k s e l, a => by
    simp only [eachX, anyX]
    cases h : bad (.node k s e l)
    · simp only [Bool.not_false, cond_true]; exact each_anyL bad l false
    · simp only [Bool.not_true, cond_false]; rw [anyXL_true]
theorem each_anyL (bad : Ex → Bool) : ∀ (l : List Ex) (a : Bool), eachXL (fun _ y => bad y) (fun b => !b) l a = anyXL bad l a
  | [], a => by simp [eachXL, anyXL]
  | x :: l, a => by
    simp only [eachXL, anyXL]
    cases a
    · simp only [Bool.not_false, cond_true, Bool.false_or]; rw [each_any bad x false]; exact each_anyL bad l _
    · simp only [Bool.not_true, cond_false, Bool.true_or]; rw [anyXL_true]
end
def illX : Ex → Bool | .node k s e l => !shapeX k s e l.length
def oddX (ss : List (ByteArray × Int)) : Ex → Bool | .node k s e _ => !nameX ss k s e
mutual
theorem form_any : ∀ x : Ex, formX x = !anyX illX x
  | .node k s e l => by simp only [formX, anyX, illX]; rw [← Bool.not_not (shapeX k s e l.length), formXL_any l, Bool.not_not]
theorem formXL_any : ∀ (l : List Ex) (b : Bool), formXL l (!b) = !anyXL illX l b
  | [], b => by simp [formXL, anyXL]
  | x :: l, b => by simp only [formXL, anyXL]; rw [form_any x, ← Bool.not_or]; exact formXL_any l _
end
mutual
theorem named_any (ss : List (ByteArray × Int)) : ∀ x : Ex, namedX ss x = !anyX (oddX ss) x
  | .node k s e l => by simp only [namedX, anyX, oddX]; rw [← Bool.not_not (nameX ss k s e), namedXL_any ss l, Bool.not_not]
theorem namedXL_any (ss : List (ByteArray × Int)) : ∀ (l : List Ex) (b : Bool), namedXL ss l (!b) = !anyXL (oddX ss) l b
  | [], b => by simp [namedXL, anyXL]
  | x :: l, b => by simp only [namedXL, anyXL]; rw [named_any ss x, ← Bool.not_or]; exact namedXL_any ss l _
end
end Go.Am
namespace Go.Proofs.YtmijhkclfoadaaaDoor
set_option linter.unusedSimpArgs false
set_option linter.unusedVariables false
open Go.Am Go.RowKit
set_option maxRecDepth 20000 in
set_option maxHeartbeats 4000000 in
theorem pairEqX (H : Heap) (a b c d : Int) : aEq Tryd.prog H 60 62 (.agg #[.int .i64 a, .int .i64 b]) (.agg #[.int .i64 c, .int .i64 d]) = some (decide (a = c ∧ b = d)) := by
  have h1 : Tryd.prog.stoodInHeld 62 = false := by kernel_rfl
  have key : aEq Tryd.prog H 60 62 (.agg #[.int .i64 a, .int .i64 b]) (.agg #[.int .i64 c, .int .i64 d]) = some ((a == c) && (b == d)) := by
    cases h : (a == c) <;> cases h2 : (b == d) <;> simp [aEq, eqFields, getPart, isAggD, h, h2, h1, Tryd.underlying62, Tryd.underlying3]
  rw [key]
  congr 1
  rw [Bool.eq_iff_iff]
  simp
attribute [local irreducible] aop OpsL Trip blockExit OpsD OpsK OpsR
theorem entersShaped : Am.Enters Tryd.prog 100 := ⟨Tryd.f100, Tryd.func100, by kernel_rfl, by kernel_rfl⟩
set_option maxRecDepth 20000 in
set_option maxHeartbeats 8000000 in
theorem shapedC (W0 : World) {nx : Nat} {H : Heap} {k s e : Int} {av : Option Addr} {c m : Nat} : ACalls Tryd.prog W0 100 [.agg #[.int .i64 k, .int .i64 s, .int .i64 e, .slice av m c]] nx H fun v nx' H' => v = .bool (shapeX k s e m) ∧ Ext nx H nx' H' := by
  refine ACalls.by_trip (fn := Tryd.f100) (c := _) Tryd.func100 rfl (fun tm n hn0 htm => ?_)
  have e0 : tm 0 = .agg #[.int .i64 k, .int .i64 s, .int .i64 e, .slice av m c] := htm 0
  clear htm
  replace hn0 : n = 53 := hn0
  refine Trip.ok fun hok => ?_
  replace hok : ∀ id o, H id = some o → id < nx := hok
  refine Trip.seq ?_
  refine Trip.ops ?_
  refine OpsL.boxX hok ?_ (by (first | (simp only [ASt.ev, tmPut, ↓reduceIte, Nat.reduceEqDiff, *]; rfl))) rfl (by subst_vars; decide)
  intro G x0 okG hb
  have h0 := hb.c0
  have h1 := hb.c1
  have h2 := hb.c2
  have h3 := hb.c3
  clear e0 okG hb
  (first | (refine OpsL.q (by exact oasg) ?_))
  (first | (refine OpsL.nil ?_; (change Trip _ _ _ _ _)))
  refine Trip.seq ?_
  refine Trip.mono (Q := fun x st => x = .normal ∧ ∃ tm' : Nat → Value, st = ⟨tm', n, G, nx + 1⟩ ∧ tm' 1 = .pointer (some ⟨nx, 0, none⟩) ∧ tm' 3 = .int .i64 m ∧ tm' 4 = .bool (decide (s = 0 ∧ e = 0))) ?_ ?_
  · refine OpsR.drawn [] (K := fun _ _ => True) mixedX (by kernel_rfl) (by kernel_rfl) [0, 1, 2, 3, 4, 5, 6, 7, 8, 9, 10, 11] (by kernel_rfl) trivial ?_
    refine OpsR.one rfl rfl rfl (by kernel_rfl) ?_
    repeat (first | (refine OpsL.q (by exact ofa) ?_) | (refine OpsL.nil ?_; (dsimp only)))
    refine OpsR.one rfl rfl rfl (by kernel_rfl) ?_
    repeat (first | (refine OpsL.q (by exact old) ?_) | (refine OpsL.nil ?_; (skip)))
    refine OpsR.one rfl rfl rfl (by kernel_rfl) ?_
    repeat (first | (refine OpsL.q (by exact olen) ?_) | (refine OpsL.nil ?_; (skip)))
    refine OpsR.one rfl rfl rfl (by kernel_rfl) ?_
    repeat (first | (refine OpsL.q (by exact ofa) ?_) | (refine OpsL.nil ?_; (dsimp only)))
    refine OpsR.one rfl rfl rfl (by kernel_rfl) ?_
    repeat (first | (refine OpsL.q (by exact old) ?_) | (refine OpsL.nil ?_; (skip)))
    refine OpsR.one rfl rfl rfl (by kernel_rfl) ?_
    repeat (first | (refine OpsL.q (by exact ofa) ?_) | (refine OpsL.nil ?_; (dsimp only)))
    refine OpsR.one rfl rfl rfl (by kernel_rfl) ?_
    repeat (first | (refine OpsL.q (by exact old) ?_) | (refine OpsL.nil ?_; (skip)))
    refine OpsR.one rfl rfl rfl (by kernel_rfl) ?_
    refine OpsL.p (by subst_vars; decide) (aop_build (l := [(0, .int .i64 s), (1, .int .i64 e)]) (by simp [evParts, ASt.ev, tmPut, plainC, plain1, *]) (v := .agg #[.int .i64 s, .int .i64 e]) (by exact rfl)) ?_
    refine OpsL.nil ?_
    refine OpsR.one rfl rfl rfl (by kernel_rfl) ?_
    refine OpsL.p (by subst_vars; decide) (aop_build (l := []) (by simp [evParts]) (v := .agg #[.int .i64 0, .int .i64 0]) (by exact rfl)) ?_
    refine OpsL.nil ?_
    refine OpsR.one rfl rfl rfl (by kernel_rfl) ?_
    refine OpsL.p (by subst_vars; decide) (aop_eqlA (by (first | (simp only [ASt.ev, tmPut, ↓reduceIte, Nat.reduceEqDiff, *]; rfl))) (by (first | (simp only [ASt.ev, tmPut, ↓reduceIte, Nat.reduceEqDiff, *]; rfl))) (by kernel_rfl) (pairEqX _ _ _ _ _)) ?_
    refine OpsL.nil ?_
    refine OpsR.one rfl rfl rfl (by kernel_rfl) ?_
    repeat (first | (refine OpsL.q (by exact oasg) ?_) | (refine OpsL.nil ?_; (skip)))
    refine OpsR.one rfl rfl rfl (by kernel_rfl) ?_
    repeat (first | (refine OpsL.q (by exact oasg) ?_) | (refine OpsL.nil ?_; (skip)))
    refine OpsR.nil ?_
    exact ⟨rfl, _, rfl, by simp [tmPut, *], by simp [tmPut, *], by simp [tmPut, *]⟩
  rintro x st ⟨rfl, tm, rfl, e1, e3, e4⟩
  (change Trip _ _ _ _ _)
  cases hb : decide (s = 0 ∧ e = 0)
  · rw [hb] at e4
    have hb' := of_decide_eq_false hb
    clear hb
    repeat' (first | (first | (refine OpsL.q (by first | exact omv | exact oasg | exact ofa | exact old | exact oeql | exact ogeq | exact opkT | exact opkF) ?_) | (refine Trip.seq ?_) | (refine Trip.ops ?_) | (refine Trip.block ?_) | (refine Trip.itA (fun _ => ?_) (fun _ => ?_)) | (refine Trip.skip ?_; ((repeat (refine blockExit_normal ?_)); change Trip _ _ _ _ _)) | (refine Trip.ret ?_; ((repeat (refine blockExit_ret ?_)); dsimp only)) | (refine OpsL.nil ?_; (change Trip _ _ _ _ _)) | (refine OpsL.ung ?_) | (refine OpsL.skp ?_) | (refine OpsL.gT (fun _ => ?_) (fun _ => ?_))) | fail)
    all_goals first | exact absurd trivial ‹¬ True› | (refine ⟨.inr rfl, _, res_tmp, ?_, x0⟩; simp [tmPut, shapeX, -Bool.decide_and, -not_and, *] <;> omega)
  · rw [hb] at e4
    have hb' := of_decide_eq_true hb
    clear hb
    repeat' (first | (first | (refine OpsL.q (by first | exact omv | exact oasg | exact ofa | exact old | exact oeql | exact ogeq | exact opkT | exact opkF) ?_) | (refine Trip.seq ?_) | (refine Trip.ops ?_) | (refine Trip.block ?_) | (refine Trip.itA (fun _ => ?_) (fun _ => ?_)) | (refine Trip.skip ?_; ((repeat (refine blockExit_normal ?_)); change Trip _ _ _ _ _)) | (refine Trip.ret ?_; ((repeat (refine blockExit_ret ?_)); dsimp only)) | (refine OpsL.nil ?_; (change Trip _ _ _ _ _)) | (refine OpsL.ung ?_) | (refine OpsL.skp ?_) | (refine OpsL.gT (fun _ => ?_) (fun _ => ?_))) | fail)
    all_goals first | exact absurd trivial ‹¬ True› | (refine ⟨.inr rfl, _, res_tmp, ?_, x0⟩; simp [tmPut, shapeX, -Bool.decide_and, *] <;> omega)
end Go.Proofs.YtmijhkclfoadaaaDoor
namespace Go.Proofs.YtmijhkclfoadaaaDoor
set_option linter.unusedSimpArgs false
set_option linter.unusedVariables false
open Go.Am Go.RowKit
attribute [local irreducible] aop OpsL Trip blockExit OpsD OpsK OpsR
structure BadJ (k cR : Nat) (rc : LoopState → Option Code → AObj) (b : Bool) (nx : Nat) (H : Heap) : Prop where
  rec_ : H k = some (if b then rc .done (some .ret) else rc .ready none)
  res : H cR = some (.cells [.bool b] 0 none false (some 4))
  lt : k < nx
theorem BadJ.ext {k cR : Nat} {rc : LoopState → Option Code → AObj} {b : Bool} {nx nx' : Nat} {H H' : Heap} (hR : cR < k) (h : BadJ k cR rc b nx H) (hx : Ext nx H nx' H') : BadJ k cR rc b nx' H' := by
  have := h.lt
  exact ⟨by rw [hx.2 _ (by omega)]; exact h.rec_, by rw [hx.2 _ (by omega)]; exact h.res, by have := hx.1; omega⟩
theorem entersMis : Am.Enters Tryd.prog 70 := ⟨Tryd.f70, Tryd.func70, by kernel_rfl, by kernel_rfl⟩
set_option maxRecDepth 20000 in
set_option maxHeartbeats 8000000 in
theorem misC (W0 : World) {x : Ex} {nx : Nat} {H : Heap} {cs : List Value} {B : List Nat} (hx : ExC H cs x B) (hn : sizeX x ≤ 1000000) : ACalls Tryd.prog W0 70 [.agg cs.toArray] nx H fun v nx' H' => v = .bool (anyX illX x) ∧ Ext nx H nx' H' := by
  obtain ⟨k, s, e, l⟩ := x
  obtain ⟨av, c, rfl⟩ := hx.cells
  refine ACalls.by_trip (fn := Tryd.f70) (c := _) Tryd.func70 rfl (fun tm n hn0 htm => ?_)
  have e0 : tm 0 = .agg ([.int .i64 k, .int .i64 s, .int .i64 e, .slice av l.length c] : List Value).toArray := htm 0
  clear htm
  replace hn0 : n = 10 := hn0
  refine Trip.ok fun hok => ?_
  replace hok : ∀ id o, H id = some o → id < nx := hok
  refine Trip.seq ?_
  refine Trip.ops ?_
  refine OpsL.boxX hok ?_ (by (first | (simp only [ASt.ev, tmPut, ↓reduceIte, Nat.reduceEqDiff, *]; rfl))) rfl (by subst_vars; decide)
  intro G x0 okG hb
  have hG := hx.ext x0 hok
  have h0 := hb.c0
  have h1 := hb.c1
  have h2 := hb.c2
  have h3 := hb.c3
  clear e0
  generalize Ex.node k s e l = x at *
  have hall := hb.all
  clear h0 h1 h2 h3
  refine OpsL.new (by subst_vars; decide) (aop_alloc (l := [.bool false]) (by exact rfl)) ?_
  obtain ⟨G1, hG1⟩ : ∃ G1, G1 = G.put (nx + 1) (.cells [.bool false] 0 none false (some 4)) := ⟨_, rfl⟩
  have x1 : Ext (nx + 1) G (nx + 1 + 1) G1 := by rw [hG1]; exact Ext.newPut
  have r1 : G1 (nx + 1) = some (.cells [.bool false] 0 none false (some 4)) := by rw [hG1]; exact Heap.put_eq
  rw [← hG1]
  clear hG1
  have g4 : getc G1 ⟨nx, 0, none⟩ 4 = some [.int .i64 k, .int .i64 s, .int .i64 e, .slice av l.length c] := getc_ext x1 okG hall
  refine OpsL.nil ?_
  (change Trip _ _ _ _ _)
  refine Trip.seq ?_
  refine Trip.ok fun ok1 => ?_
  replace ok1 : ∀ id o, G1 id = some o → id < nx + 1 + 1 := ok1
  refine Trip.seq ?_
  refine Trip.mono (Q := fun x st => x = .normal ∧ ∃ (tm' : Nat → Value) (G3 : Heap), st = ⟨tm', n, G3, nx + 1 + 1 + 1⟩ ∧ Ext (nx + 1 + 1) G1 (nx + 1 + 1 + 1) G3 ∧ ExBox G3 (nx + 1 + 1) k s e (.slice av l.length c) ∧ tm' 2 = .pointer (some ⟨nx + 1, 0, none⟩) ∧ tm' 5 = .func (.func 101) #[] #[.pointer (some ⟨nx + 1 + 1, 0, none⟩)]) ?_ ?_
  · refine Trip.ops ?_
    repeat (first | (refine OpsL.q (by exact aop_loadAgg (k := 4) (by (first | (simp only [ASt.ev, tmPut, ↓reduceIte, Nat.reduceEqDiff, *]; rfl))) (by exact rfl) rfl (by exact rfl) (by assumption)) ?_))
    refine OpsL.c1 (hf := entersAllX) (hc := (allXC W0 rfl)) (h := ?_)
    rintro v3 n3 G3 ⟨rfl, rfl, x3, hb3⟩
    refine OpsL.nil ?_
    exact ⟨rfl, _, G3, rfl, x3, hb3, by simp [tmPut, *], by simp [tmPut]⟩
  rintro x' st ⟨rfl, tm, G3, rfl, x3, hb3, eR, e5⟩
  (change Trip _ _ _ _ _)
  have hBk : ∀ b ∈ B, b ∉ [nx + 1 + 1 + 1, nx + 1] := fun b hb => by
    have := hx.lt hok b hb
    simp only [List.mem_cons, List.not_mem_nil, or_false]
    omega
  have hx3 := (hG.ext x1 okG).ext x3 ok1
  have r3 : G3 (nx + 1) = some (.cells [.bool false] 0 none false (some 4)) := by rw [x3.2 _ (by omega)]; exact r1
  refine Trip.block ?_
  refine Trip.ok fun ok3 => ?_
  replace ok3 : ∀ id o, G3 id = some o → id < nx + 1 + 1 + 1 := ok3
  subst hn0
  refine Trip.rangeXJ (good := fun _ => True) (J := BadJ (nx + 1 + 1 + 1) (nx + 1)) (L := [nx + 1 + 1 + 1, nx + 1]) (step := fun _ y => illX y) (live := fun b => !b) (a := false) (ev_cut e5 (by decide)) ok3 ?_ ?_ rfl trivial hx3 hBk hn hb3.all ?_
  · have q2 := cutT_at (n := 10) eR (by decide)
    refine ⟨fun cc n4 H4 cs4 x4 B4 hJ hlv _ hx4 hB4 hok4 => ?_, fun cc n4 H4 n5 H5 hJ h5 => hJ.ext (by omega) h5, fun cc n4 H4 hJ i hi => ?_, fun cc n4 H4 hJ => ?_, fun _ _ _ _ _ _ _ => trivial⟩
    · obtain rfl : cc = false := by cases cc <;> simp_all
      have hr := hJ.rec_
      have hdl := hJ.lt
      refine AYields.round (tm := tm) (n := 10) (p := 6) hr (by decide) ?_
      refine Trip.ops ?_
      obtain ⟨yk, ys, ye, yl⟩ := x4
      obtain ⟨ya, yc, rfl⟩ := hx4.cells
      refine OpsL.new (by subst_vars; decide) (aop_alloc (l := [.int .i64 0, .int .i64 0, .int .i64 0, .slice none 0 0]) (by exact rfl)) ?_
      obtain ⟨F1, hF1⟩ : ∃ F1, F1 = H4.put n4 (.cells [.int .i64 0, .int .i64 0, .int .i64 0, .slice none 0 0] 0 none false (some 28)) := ⟨_, rfl⟩
      have xF1 : Ext n4 H4 (n4 + 1) F1 := by rw [hF1]; exact Ext.newPut
      have rF1 : F1 n4 = some (.cells [.int .i64 0, .int .i64 0, .int .i64 0, .slice none 0 0] 0 none false (some 28)) := by rw [hF1]; exact Heap.put_eq
      rw [← hF1]
      clear hF1
      refine OpsL.storeX ?_ (by (first | (simp only [ASt.ev, tmPut, ↓reduceIte, Nat.reduceEqDiff, *]; done))) (by (first | (simp only [ASt.ev, tmPut, ↓reduceIte, Nat.reduceEqDiff, *]; rfl))) rF1 rfl rfl rfl
      intro F2 rF2 sF2
      have xF2 : Ext n4 H4 (n4 + 1) F2 := ⟨Nat.le_succ _, fun q hq => by rw [sF2 q (by omega), xF1.2 q hq]⟩
      have hJ2 := hJ.ext (by omega) xF2
      have hx5 := hx4.ext xF2 hok4
      clear xF1 rF1 sF2
      refine OpsL.nil ?_
      refine ⟨rfl, by dsimp only; rw [xF2.2 _ hJ.lt]; exact hr, ?_⟩
      dsimp only
      have fR : ∀ o, (F2.put (nx + 1 + 1 + 1) o) (nx + 1) = some (.cells [.bool false] 0 none false (some 4)) := fun o => by rw [Heap.put_ne (by omega)]; exact hJ2.res
      have fK : ∀ o, (F2.put (nx + 1 + 1 + 1) o) (nx + 1 + 1 + 1) = some o := fun o => Heap.put_eq
      have fC : ∀ o, (F2.put (nx + 1 + 1 + 1) o) n4 = some (.cells [.int .i64 yk, .int .i64 ys, .int .i64 ye, .slice ya yl.length yc] 0 none false (some 28)) := fun o => by rw [Heap.put_ne (by omega)]; exact rF2
      have fX : ∀ o, ExC (F2.put (nx + 1 + 1 + 1) o) [.int .i64 yk, .int .i64 ys, .int .i64 ye, .slice ya yl.length yc] (.node yk ys ye yl) B4 := fun o => hx5.same fun b hb => Heap.put_ne (by have := hB4 b hb; simp only [List.mem_cons, List.not_mem_nil, or_false, not_or] at this; exact this.1)
      have fO : ∀ o i, i < n4 → i ≠ (nx + 1 + 1 + 1) → (F2.put (nx + 1 + 1 + 1) o) i = H4 i := fun o i h1 h2 => by rw [Heap.put_ne h2, xF2.2 i h1]
      generalize hF : F2.put (nx + 1 + 1 + 1) _ = F
      replace fR := hF ▸ fR _
      replace fK := hF ▸ fK _
      replace fC := hF ▸ fC _
      replace fX := hF ▸ fX _
      replace fO := hF ▸ fO _
      clear hF rF2
      have g5 : getc F ⟨n4, 0, none⟩ 4 = some [.int .i64 yk, .int .i64 ys, .int .i64 ye, .slice ya yl.length yc] := getc_all fC rfl
      refine Trip.block ?_
      repeat (first | (refine OpsL.q (by exact aop_loadAgg (k := 4) (by (first | (simp only [ASt.ev, tmPut, ↓reduceIte, Nat.reduceEqDiff, *]; rfl))) (by exact rfl) rfl (by exact rfl) (by assumption)) ?_) | (refine Trip.seq ?_) | (refine Trip.ops ?_))
      refine OpsL.c1 (hf := entersShaped) (hc := (shapedC W0)) (h := ?_)
      rintro v6 n6 F6 ⟨rfl, y6⟩
      have gR := (y6.2 (nx + 1) (by omega)).trans fR
      have gK := (y6.2 (nx + 1 + 1 + 1) (by omega)).trans fK
      have gO : ∀ i, i < n4 → i ≠ nx + 1 + 1 + 1 → F6 i = H4 i := fun i h1 h2 => by rw [y6.2 i (by omega), fO i h1 h2]
      have hle6 := y6.1
      have hbd : illX (.node yk ys ye yl) = !shapeX yk ys ye yl.length := rfl
      clear fC fX fO fR fK g5
      cases hs : shapeX yk ys ye yl.length
      · have hbad : illX (.node yk ys ye yl) = true := by rw [hbd, hs]; rfl
        repeat (first | (refine OpsL.q (by exact onot) ?_) | (refine OpsL.nil ?_; (change Trip _ _ _ _ _)))
        refine Trip.ifT ?_
        repeat (first | (refine Trip.seq ?_) | (refine Trip.ops ?_))
        refine OpsL.storeAt (cs' := [.bool true]) 0 (by (first | (simp only [ASt.ev, tmPut, ↓reduceIte, Nat.reduceEqDiff, *]; rfl))) (by (first | (simp only [ASt.ev, tmPut, ↓reduceIte, Nat.reduceEqDiff, *]; rfl))) (by exact rfl) (by exact rfl) (by exact rfl) gR (by exact rfl) (by simp) (by exact rfl) ?_
        repeat (first | (refine Trip.ret ?_; ((repeat (refine blockExit_ret ?_)); dsimp only)) | (refine OpsL.nil ?_; (change Trip _ _ _ _ _)))
        refine ⟨by rw [Heap.put_ne (by omega)]; exact gK, by rw [hbad]; rfl, ⟨by rw [Heap.put_eq, hbad]; rfl, ?_, by omega⟩, ⟨by omega, fun i hi hn => ?_⟩⟩
        · rw [Heap.put_ne (by omega), Heap.put_eq, hbad]
        · simp only [List.mem_cons, List.not_mem_nil, or_false, not_or] at hn
          rw [Heap.put_ne hn.1, Heap.put_ne hn.2, gO i hi hn.1]
      · have hbad : illX (.node yk ys ye yl) = false := by rw [hbd, hs]; rfl
        repeat (first | (refine OpsL.q (by exact onot) ?_) | (refine OpsL.nil ?_; (change Trip _ _ _ _ _)))
        refine Trip.ifF ?_
        repeat (first | (refine Trip.skip ?_; ((repeat (refine blockExit_normal ?_)); dsimp only)))
        refine ⟨gK, by rw [hbad]; rfl, ⟨by rw [Heap.put_eq, hbad]; rfl, ?_, by omega⟩, ⟨by omega, fun i hi hn => ?_⟩⟩
        · rw [Heap.put_ne (by omega), gR, hbad]
        · simp only [List.mem_cons, List.not_mem_nil, or_false, not_or] at hn
          rw [Heap.put_ne hn.1, gO i hi hn.1]
    · have := hJ.lt
      simp only [List.mem_cons, List.not_mem_nil, or_false] at hi
      omega
    · rw [hJ.rec_]
      split <;> rfl
  · exact ⟨by rw [Heap.put_eq]; rfl, by rw [Heap.put_ne (by omega)]; exact r3, by omega⟩
  · skip
    intro n2 H2 hJ2 y2
    rw [each_any] at hJ2
    have hdl := hJ2.lt
    have hsame : ∀ i, i < nx → H2.del (nx + 1 + 1 + 1) i = H i := fun i hi => by
      rw [del_ne (by omega), y2.same i (by omega) (by simp; omega), Heap.put_ne (by omega), x3.2 i (by omega), x1.2 i (by omega), x0.2 i hi]
    have q2 := cutT_at (n := 10) eR (by decide)
    cases hA : anyX illX x
    · rw [hA] at hJ2
      have hr := hJ2.rec_
      refine ⟨_, _, _, _, _, _, _, hr, by decide, .inl ⟨rfl, ?_⟩⟩
      have fR : H2.del (nx + 1 + 1 + 1) (nx + 1) = some (.cells [.bool false] 0 none false (some 4)) := by rw [del_ne (by omega), hJ2.res]
      generalize H2.del (nx + 1 + 1 + 1) = F at *
      ((repeat (refine blockExit_normal ?_)); change Trip _ _ _ _ _)
      repeat (first | (refine Trip.seq ?_) | (refine Trip.ops ?_))
      refine OpsL.storeAt (cs' := [.bool false]) 0 (by (first | (simp only [ASt.ev, tmPut, ↓reduceIte, Nat.reduceEqDiff, *]; rfl))) (by (first | (simp only [ASt.ev, tmPut, ↓reduceIte, Nat.reduceEqDiff, *]; rfl))) (by exact rfl) (by exact rfl) (by exact rfl) fR (by exact rfl) (by simp) (by exact rfl) ?_
      repeat (first | (refine Trip.ret ?_; (dsimp only)) | (refine OpsL.nil ?_; (change Trip _ _ _ _ _)))
      refine ⟨.inr rfl, _, res_cell (a := ⟨(nx + 1), 0, none⟩) (v := .bool false) q2 (readAt_one (by exact rfl) rfl (cell_one Heap.put_eq)), rfl, by omega, fun i hi => by rw [Heap.put_ne (by omega)]; exact hsame i hi⟩
    · rw [hA] at hJ2
      have hr := hJ2.rec_
      refine ⟨_, _, _, _, _, _, _, hr, by decide, .inr ⟨_, rfl, ?_⟩⟩
      have fR : H2.del (nx + 1 + 1 + 1) (nx + 1) = some (.cells [.bool true] 0 none false (some 4)) := by rw [del_ne (by omega), hJ2.res]
      repeat (first | (refine Trip.ret ?_; ((repeat (refine blockExit_ret ?_)); dsimp only)))
      refine ⟨.inr rfl, _, res_cell (a := ⟨(nx + 1), 0, none⟩) (v := .bool true) q2 (readAt_one (by exact rfl) rfl (cell_one fR)), rfl, by omega, hsame⟩
end Go.Proofs.YtmijhkclfoadaaaDoor
namespace Go.Am
set_option linter.unusedSimpArgs false
set_option linter.unusedVariables false
open Go.RowKit
def symX (ss : List (ByteArray × Int)) (p : Int) : ByteArray × Int := if 0 ≤ p ∧ p < ss.length then (ss[p.toNat]?).getD (.empty, 0) else (.empty, 0)
theorem symX_kind {ss : List (ByteArray × Int)} {p k : Int} (hk : k ≠ 0) : isX ss p k = decide ((symX ss p).2 = k) := by
  unfold isX symX
  by_cases h : 0 ≤ p ∧ p < ss.length
  · rw [if_pos h, decide_eq_true h, decide_eq_false hk]
    simp only [Bool.true_and, Bool.false_or]
    have hj : p.toNat < ss.length := by omega
    rw [List.getElem?_eq_getElem hj]
    rfl
  · rw [if_neg h, decide_eq_false h]
    simp only [Bool.false_and]
    exact (decide_eq_false (fun e => hk e.symm)).symm
theorem symX_in {ss : List (ByteArray × Int)} {p : Int} (h : 0 ≤ p ∧ p < ss.length) (hkd : ∀ x ∈ ss, x.2 ≠ 0) : (symX ss p).2 ≠ 0 := by
  unfold symX
  rw [if_pos h, List.getElem?_eq_getElem (by omega)]
  exact hkd _ (List.getElem_mem _)
theorem isX_zero {ss : List (ByteArray × Int)} {p : Int} : isX ss p 0 = decide (0 ≤ p ∧ p < ss.length) := by unfold isX; simp
end Go.Am
namespace Go.Proofs.YtmijhkclfoadaaaDoor
set_option linter.unusedSimpArgs false
set_option linter.unusedVariables false
open Go.Am Go.RowKit
set_option maxRecDepth 20000 in
set_option maxHeartbeats 4000000 in
theorem symEqX (H : Heap) (a b : ByteArray) (k m : Int) : aEq Tryd.prog H 60 60 (.agg #[.string a, .int .i64 k]) (.agg #[.string b, .int .i64 m]) = some (sEq a b && k == m) := by
  have h1 : Tryd.prog.stoodInHeld 60 = false := by kernel_rfl
  cases h : sEq a b <;> cases h2 : (k == m) <;> simp [aEq, eqFields, getPart, isAggD, h, h2, h1, Tryd.underlying60, Tryd.underlying3, Tryd.underlying9]
attribute [local irreducible] aop OpsL Trip blockExit OpsD OpsK OpsR
theorem entersSymAtX : Am.Enters Tryd.prog 72 := ⟨Tryd.f72, Tryd.func72, by kernel_rfl, by kernel_rfl⟩
set_option maxRecDepth 20000 in
set_option maxHeartbeats 8000000 in
theorem symAtXC (W0 : World) {nx : Nat} {H : Heap} {lv : Value} {ss : List (ByteArray × Int)} (hl : SymsAt H lv ss) (hss : ss.length ≤ 1000) (p : Int) : ACalls Tryd.prog W0 72 [lv, .int .i64 p] nx H fun v nx' H' => v = .agg #[.string (symX ss p).1, .int .i64 (symX ss p).2] ∧ Ext nx H nx' H' := by
  obtain ⟨la, lc, rfl, hlr⟩ := id hl
  refine ACalls.by_trip (fn := Tryd.f72) (c := _) Tryd.func72 rfl (fun tm n hn0 htm => ?_)
  have e0 : tm 0 = .slice (some la) ss.length lc := htm 0
  have e1 : tm 1 = .int .i64 p := htm 1
  clear htm
  replace hn0 : n = 18 := hn0
  refine Trip.ok fun hok => ?_
  replace hok : ∀ id o, H id = some o → id < nx := hok
  refine Trip.seq ?_
  refine Trip.ops ?_
  refine OpsL.new (by subst_vars; decide) (aop_alloc (l := [.string .empty, .int .i64 0]) (by exact rfl)) ?_
  obtain ⟨G, hGe⟩ : ∃ G, G = H.put nx (.cells [.string .empty, .int .i64 0] 0 none false (some 60)) := ⟨_, rfl⟩
  have x0 : Ext nx H (nx + 1) G := by rw [hGe]; exact Ext.newPut
  have rG : G nx = some (.cells [.string .empty, .int .i64 0] 0 none false (some 60)) := by rw [hGe]; exact Heap.put_eq
  rw [← hGe]
  clear hGe
  have hend : ∀ (tm2 : Nat → Value) (a : ByteArray) (k : Int), tm2 4 = .pointer (some ⟨nx, 0, none⟩) → symX ss p = (a, k) → ∀ G2 : Heap, G2 nx = some (.cells [.string a, .int .i64 k] 0 none false (some 60)) → (∀ i, i ≠ nx → G2 i = G i) → (AExit.ret = .normal ∨ AExit.ret = .ret) ∧ ∃ v, aResults Tryd.prog ⟨tm2, n, G2, nx + 1⟩ #[.cell 4 60] = some v ∧ v = .agg #[.string (symX ss p).1, .int .i64 (symX ss p).2] ∧ Ext nx H (nx + 1) G2 := fun tm2 a k h4 hs G2 hG2 ho =>
    ⟨.inr rfl, _, res_cell (a := ⟨nx, 0, none⟩) (v := .agg [.string a, .int .i64 k].toArray) h4 (readAt_agg (k := 2) (by exact rfl) rfl (by exact rfl) (getc_all hG2 rfl)), by rw [hs], by omega, fun i hi => by rw [ho i (by omega)]; exact x0.2 i hi⟩
  have hlG := hl.ext x0 hok
  refine OpsL.nil ?_
  (change Trip _ _ _ _ _)
  by_cases hp : 0 ≤ p ∧ p < ss.length
  · have hj : p.toNat < ss.length := by omega
    obtain ⟨a', c', he, hrows⟩ := id hlG
    cases he
    have hc := hrows p.toNat hj
    have hs : symX ss p = ss[p.toNat] := by unfold symX; rw [if_pos hp, List.getElem?_eq_getElem hj]; rfl
    generalize ss[p.toNat] = r at *
    obtain ⟨ra, rk⟩ := r
    simp only at hc
    repeat (first | (refine OpsL.q (by exact omv) ?_) | (refine Trip.seq ?_) | (refine Trip.ops ?_))
    refine OpsL.lssF ?_ (c := show ¬ p < 0 by omega)
    repeat (first | (refine OpsL.q (by first | exact omv | exact olen) ?_) | (refine OpsL.ung ?_))
    refine OpsL.geqF ?_ (c := show ¬ (ss.length : Int) ≤ p by omega)
    repeat (first | (refine OpsL.q (by exact opkF) ?_) | (refine OpsL.nil ?_; (change Trip _ _ _ _ _)))
    refine Trip.ifF ?_
    repeat (first | (refine OpsL.q (by first | exact omv | exact oixa | exact oldP) ?_) | (refine Trip.seq ?_) | (refine Trip.ops ?_) | (refine Trip.skip ?_; (change Trip _ _ _ _ _)))
    refine OpsL.upd (aop_store (k := 2) (by (first | (simp only [ASt.ev, tmPut, ↓reduceIte, Nat.reduceEqDiff, *]; done))) (by (first | (simp only [ASt.ev, tmPut, ↓reduceIte, Nat.reduceEqDiff, *]; rfl))) (by exact rfl) (by exact rfl) (setc_allN rG rfl rfl)) ?_
    repeat (first | (refine Trip.ret ?_; (dsimp only)) | (refine OpsL.nil ?_; (change Trip _ _ _ _ _)))
    exact hend _ _ _ (by simp [tmPut, *]) hs _ Heap.put_eq fun i hi => Heap.put_ne hi
  · have hs : symX ss p = (.empty, 0) := by unfold symX; rw [if_neg hp]
    by_cases h0 : p < 0
    · repeat (first | (refine OpsL.q (by exact omv) ?_) | (refine Trip.seq ?_) | (refine Trip.ops ?_))
      refine OpsL.lssT ?_ (c := h0)
      repeat (first | (refine OpsL.q (by first | exact omv | exact opkT) ?_) | (refine OpsL.nil ?_; (change Trip _ _ _ _ _)) | (refine OpsL.skp ?_))
      refine Trip.ifT ?_
      repeat (first | (refine Trip.seq ?_) | (refine Trip.ops ?_))
      refine OpsL.p (by subst_vars; decide) (aop_build (l := []) (by simp [evParts]) (v := .agg #[.string .empty, .int .i64 0]) (by exact rfl)) ?_
      refine OpsL.upd (aop_store (k := 2) (by (first | (simp only [ASt.ev, tmPut, ↓reduceIte, Nat.reduceEqDiff, *]; done))) (by (first | (simp only [ASt.ev, tmPut, ↓reduceIte, Nat.reduceEqDiff, *]; rfl))) (by exact rfl) (by exact rfl) (setc_allN rG rfl rfl)) ?_
      repeat (first | (refine Trip.ret ?_; (dsimp only)) | (refine OpsL.nil ?_; (change Trip _ _ _ _ _)))
      exact hend _ _ _ (by simp [tmPut, *]) hs _ Heap.put_eq fun i hi => Heap.put_ne hi
    · repeat (first | (refine OpsL.q (by exact omv) ?_) | (refine Trip.seq ?_) | (refine Trip.ops ?_))
      refine OpsL.lssF ?_ (c := h0)
      repeat (first | (refine OpsL.q (by first | exact omv | exact olen) ?_) | (refine OpsL.ung ?_))
      refine OpsL.geqT ?_ (c := show (ss.length : Int) ≤ p by omega)
      repeat (first | (refine OpsL.q (by exact opkF) ?_) | (refine OpsL.nil ?_; (change Trip _ _ _ _ _)))
      refine Trip.ifT ?_
      repeat (first | (refine Trip.seq ?_) | (refine Trip.ops ?_))
      refine OpsL.p (by subst_vars; decide) (aop_build (l := []) (by simp [evParts]) (v := .agg #[.string .empty, .int .i64 0]) (by exact rfl)) ?_
      refine OpsL.upd (aop_store (k := 2) (by (first | (simp only [ASt.ev, tmPut, ↓reduceIte, Nat.reduceEqDiff, *]; done))) (by (first | (simp only [ASt.ev, tmPut, ↓reduceIte, Nat.reduceEqDiff, *]; rfl))) (by exact rfl) (by exact rfl) (setc_allN rG rfl rfl)) ?_
      repeat (first | (refine Trip.ret ?_; (dsimp only)) | (refine OpsL.nil ?_; (change Trip _ _ _ _ _)))
      exact hend _ _ _ (by simp [tmPut, *]) hs _ Heap.put_eq fun i hi => Heap.put_ne hi
end Go.Proofs.YtmijhkclfoadaaaDoor
