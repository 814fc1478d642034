import Derived.Test.YtmijhkclfoadaaaDoorQEM30
import Derived.Test.YtmijhkclfoadaaaDoorQEM21
import Derived.Test.YtmijhkclfoadaaaDoorQEM23
namespace Go.Am
set_option linter.unusedSimpArgs false
set_option linter.unusedVariables false
open Go.RowKit
theorem del_ne {H : Heap} {i k : Nat} (h : i ≠ k) : H.del k i = H i := by simp [Heap.del, h]
theorem cell_one {H : Heap} {b e : Nat} {v : Value} {q : Option TypeId} {ro : Bool} (h : H b = some (.cells [v] e none ro q)) : cellAt H ⟨b, 0, none⟩ v := cellAt_own (off := 0) h (by simp)
def cntU : Nat → Ex → Nat := fun c _ => c + 1
def liveU : Nat → Bool := fun c => decide (c ≤ 200)
mutual
theorem cntU_eq : ∀ (x : Ex) (c : Nat), c ≤ 200 → eachX cntU liveU x c = min (c + sizeX x) 201
  | .node k s e l, c, h => by
    simp only [eachX, sizeX, cntU]
    by_cases h2 : c + 1 ≤ 200
    · simp only [liveU, decide_eq_true h2, cond_true]
      have := cntUL_eq l (c + 1) h2
      have e2 := sizeXL_shift l c 1
      rw [this]
      omega
    · simp only [liveU, decide_eq_false h2, cond_false]
      have := sizeXL_le l 1
      omega
theorem cntUL_eq : ∀ (l : List Ex) (c : Nat), c ≤ 200 → eachXL cntU liveU l c = min (sizeXL l c) 201
  | [], c, h => by simp [eachXL, sizeXL]; omega
  | x :: l, c, h => by
    simp only [eachXL, sizeXL]
    have hx := cntU_eq x c h
    simp only [liveU, decide_eq_true h, cond_true]
    rw [hx]
    by_cases h2 : c + sizeX x ≤ 200
    · rw [Nat.min_eq_left (by omega)]
      exact cntUL_eq l _ h2
    · rw [Nat.min_eq_right (by omega), eachXL_dead l (by simp [liveU])]
      have := sizeXL_le l (c + sizeX x)
      omega
theorem sizeXL_shift : ∀ (l : List Ex) (c m : Nat), sizeXL l (c + m) = c + sizeXL l m
  | [], c, m => by simp [sizeXL]
  | x :: l, c, m => by
    simp only [sizeXL]
    rw [Nat.add_assoc, sizeXL_shift l c]
end
end Go.Am
namespace Go.Proofs.YtmijhkclfoadaaaDoor
set_option linter.unusedSimpArgs false
set_option linter.unusedVariables false
open Go.Am Go.RowKit
attribute [local irreducible] aop OpsL Trip blockExit OpsD OpsK OpsR
structure LongJ (k cR cN : Nat) (rc : LoopState → Option Code → AObj) (c nx : Nat) (H : Heap) : Prop where
  rec_ : H k = some (if c ≤ 200 then rc .ready none else rc .done (some .ret))
  num : H cN = some (.cells [.int .i64 c] 0 none false (some 3))
  res : H cR = some (.cells [.bool (decide (200 < c))] 0 none false (some 4))
  le : c ≤ 201
  lt : k < nx
theorem entersLongX : Am.Enters Tryd.prog 69 := ⟨Tryd.f69, Tryd.func69, by kernel_rfl, by kernel_rfl⟩
set_option maxRecDepth 20000 in
set_option maxHeartbeats 8000000 in
theorem longXC (W0 : World) {x : Ex} {nx : Nat} {H : Heap} {cs : List Value} {B : List Nat} (hx : ExC H cs x B) (hn : sizeX x ≤ 1000000) : ACalls Tryd.prog W0 69 [.agg cs.toArray] nx H fun v nx' H' => v = .bool (decide (200 < sizeX x)) ∧ Ext nx H nx' H' := by
  obtain ⟨k, s, e, l⟩ := x
  obtain ⟨av, c, rfl⟩ := hx.cells
  refine ACalls.by_trip (fn := Tryd.f69) (c := _) Tryd.func69 rfl (fun tm n hn0 htm => ?_)
  have e0 : tm 0 = .agg ([.int .i64 k, .int .i64 s, .int .i64 e, .slice av l.length c] : List Value).toArray := htm 0
  clear htm
  replace hn0 : n = 11 := hn0
  refine Trip.ok fun hok => ?_
  replace hok : ∀ id o, H id = some o → id < nx := hok
  refine Trip.seq ?_
  refine Trip.ops ?_
  refine OpsL.boxX hok ?_ (by (first | (simp only [ASt.ev, tmPut, ↓reduceIte, Nat.reduceEqDiff, *]; rfl))) rfl (by subst_vars; decide)
  intro G x0 okG hb
  have hG := hx.ext x0 hok
  have h0 := hb.c0
  have h1 := hb.c1
  have h2 := hb.c2
  have h3 := hb.c3
  clear e0
  generalize Ex.node k s e l = x at *
  have hall := hb.all
  clear h0 h1 h2 h3
  refine OpsL.new (by subst_vars; decide) (aop_alloc (l := [.bool false]) (by exact rfl)) ?_
  obtain ⟨G1, hG1⟩ : ∃ G1, G1 = G.put (nx + 1) (.cells [.bool false] 0 none false (some 4)) := ⟨_, rfl⟩
  have x1 : Ext (nx + 1) G (nx + 1 + 1) G1 := by rw [hG1]; exact Ext.newPut
  have r1 : G1 (nx + 1) = some (.cells [.bool false] 0 none false (some 4)) := by rw [hG1]; exact Heap.put_eq
  rw [← hG1]
  clear hG1
  refine OpsL.nil ?_
  (change Trip _ _ _ _ _)
  refine Trip.seq ?_
  refine Trip.ops ?_
  refine OpsL.new (by subst_vars; decide) (aop_alloc (l := [.int .i64 0]) (by exact rfl)) ?_
  obtain ⟨G2, hG2⟩ : ∃ G2, G2 = G1.put (nx + 1 + 1) (.cells [.int .i64 0] 0 none false (some 3)) := ⟨_, rfl⟩
  have x2 : Ext (nx + 1 + 1) G1 (nx + 1 + 1 + 1) G2 := by rw [hG2]; exact Ext.newPut
  have r2 : G2 (nx + 1 + 1) = some (.cells [.int .i64 0] 0 none false (some 3)) := by rw [hG2]; exact Heap.put_eq
  have r1' : G2 (nx + 1) = some (.cells [.bool false] 0 none false (some 4)) := by rw [x2.2 _ (by omega)]; exact r1
  rw [← hG2]
  clear hG2 r1
  refine OpsL.storeAt (cs' := [.int .i64 0]) 0 (by (first | (simp only [ASt.ev, tmPut, ↓reduceIte, Nat.reduceEqDiff, *]; rfl))) (by (first | (simp only [ASt.ev, tmPut, ↓reduceIte, Nat.reduceEqDiff, *]; rfl))) (by exact rfl) (by exact rfl) (by exact rfl) r2 (by exact rfl) (by simp) (by exact rfl) ?_
  have hsame : G2.put (nx + 1 + 1) (.cells [.int .i64 0] 0 none false (some 3)) = G2 := by
    funext i
    by_cases hi : i = nx + 1 + 1
    · subst hi; rw [Heap.put_eq, r2]
    · rw [Heap.put_ne hi]
  show OpsL _ _ _ _ ⟨_, _, G2.put (nx + 1 + 1) _, _⟩ _
  rw [hsame]
  clear hsame
  have g4 : getc G2 ⟨nx, 0, none⟩ 4 = some [.int .i64 k, .int .i64 s, .int .i64 e, .slice av l.length c] := getc_ext (x1.trans x2) okG hall
  refine OpsL.nil ?_
  (change Trip _ _ _ _ _)
  refine Trip.seq ?_
  refine Trip.ok fun ok2 => ?_
  replace ok2 : ∀ id o, G2 id = some o → id < nx + 1 + 1 + 1 := ok2
  refine Trip.seq ?_
  refine Trip.mono (Q := fun x st => x = .normal ∧ ∃ (tm' : Nat → Value) (G3 : Heap), st = ⟨tm', n, G3, nx + 1 + 1 + 1 + 1⟩ ∧ Ext (nx + 1 + 1 + 1) G2 (nx + 1 + 1 + 1 + 1) G3 ∧ ExBox G3 (nx + 1 + 1 + 1) k s e (.slice av l.length c) ∧ tm' 2 = .pointer (some ⟨nx + 1, 0, none⟩) ∧ tm' 3 = .pointer (some ⟨nx + 1 + 1, 0, none⟩) ∧ tm' 5 = .func (.func 101) #[] #[.pointer (some ⟨nx + 1 + 1 + 1, 0, none⟩)]) ?_ ?_
  · refine Trip.ops ?_
    repeat (first | (refine OpsL.q (by exact aop_loadAgg (k := 4) (by (first | (simp only [ASt.ev, tmPut, ↓reduceIte, Nat.reduceEqDiff, *]; rfl))) (by exact rfl) rfl (by exact rfl) (by assumption)) ?_))
    refine OpsL.c1 (hf := entersAllX) (hc := (allXC W0 rfl)) (h := ?_)
    rintro v3 n3 G3 ⟨rfl, rfl, x3, hb3⟩
    refine OpsL.nil ?_
    exact ⟨rfl, _, G3, rfl, x3, hb3, by simp [tmPut], by simp [tmPut], by simp [tmPut]⟩
  rintro x' st ⟨rfl, tm, G3, rfl, x3, hb3, e2, e3, e5⟩
  (change Trip _ _ _ _ _)
  have hBk : ∀ b ∈ B, b ∉ [nx + 1 + 1 + 1 + 1, nx + 1, nx + 1 + 1] := fun b hb => by
    have := hx.lt hok b hb
    simp only [List.mem_cons, List.not_mem_nil, or_false]
    omega
  have hx3 := (hG.ext (x1.trans x2) okG).ext x3 ok2
  have r1 : G3 (nx + 1) = some (.cells [.bool false] 0 none false (some 4)) := by rw [x3.2 _ (by omega)]; exact r1'
  have r2' : G3 (nx + 1 + 1) = some (.cells [.int .i64 0] 0 none false (some 3)) := by rw [x3.2 _ (by omega)]; exact r2
  refine Trip.block ?_
  refine Trip.ok fun ok3 => ?_
  replace ok3 : ∀ id o, G3 id = some o → id < nx + 1 + 1 + 1 + 1 := ok3
  subst hn0
  refine Trip.rangeXJ (good := fun _ => True) (J := LongJ (nx + 1 + 1 + 1 + 1) (nx + 1) (nx + 1 + 1)) (L := [nx + 1 + 1 + 1 + 1, nx + 1, nx + 1 + 1]) (step := cntU) (live := liveU) (a := 0) (ev_cut e5 (by decide)) ok3 ?_ ?_ rfl trivial hx3 hBk hn hb3.all ?_
  · have q2 := cutT_at (n := 11) e2 (by decide)
    have q3 := cutT_at (n := 11) e3 (by decide)
    refine ⟨fun cc n4 H4 cs4 x4 B4 hJ hlv _ hx4 hB4 hok4 => ?_, fun cc n4 H4 n5 H5 hJ h5 => ?_, fun cc n4 H4 hJ i hi => ?_, fun cc n4 H4 hJ => ?_, fun _ _ _ _ _ _ _ => trivial⟩
    · have hr := hJ.rec_
      have hle := of_decide_eq_true hlv
      have hdl := hJ.lt
      have h201 := hJ.le
      rw [if_pos hle] at hr
      refine AYields.round (tm := tm) (n := 11) (p := 6) hr (by decide) ?_
      refine Trip.skip ?_
      refine ⟨rfl, hr, ?_⟩
      dsimp only
      have fN : ∀ o, (H4.put (nx + 1 + 1 + 1 + 1) o) (nx + 1 + 1) = some (.cells [.int .i64 cc] 0 none false (some 3)) := fun o => by rw [Heap.put_ne (by omega)]; exact hJ.num
      have fR : ∀ o, (H4.put (nx + 1 + 1 + 1 + 1) o) (nx + 1) = some (.cells [.bool false] 0 none false (some 4)) := fun o => by rw [Heap.put_ne (by omega), hJ.res, decide_eq_false (by omega)]
      have fK : ∀ o, (H4.put (nx + 1 + 1 + 1 + 1) o) (nx + 1 + 1 + 1 + 1) = some o := fun o => Heap.put_eq
      have fO : ∀ o i, i ≠ nx + 1 + 1 + 1 + 1 → (H4.put (nx + 1 + 1 + 1 + 1) o) i = H4 i := fun o i hi => Heap.put_ne hi
      generalize hF : H4.put (nx + 1 + 1 + 1 + 1) _ = F
      replace fN := hF ▸ fN _
      replace fR := hF ▸ fR _
      replace fK := hF ▸ fK _
      replace fO := hF ▸ fO _
      clear hF
      have cN := cell_one fN
      refine Trip.block ?_
      repeat (first | (refine OpsL.q (by first | exact old | exact oadd) ?_) | (refine Trip.seq ?_) | (refine Trip.ops ?_))
      refine OpsL.storeAt (cs' := [.int .i64 ((cc : Int) + 1)]) 0 (by (first | (simp only [ASt.ev, tmPut, ↓reduceIte, Nat.reduceEqDiff, *]; rfl))) (by (first | (simp only [ASt.ev, tmPut, ↓reduceIte, Nat.reduceEqDiff, *]; rfl))) (by exact rfl) (by exact rfl) (by exact rfl) fN (by exact rfl) (by simp) (by exact rfl) ?_
      have gN : (F.put (nx + 1 + 1) (.cells [.int .i64 ((cc : Int) + 1)] 0 none false (some 3))) (nx + 1 + 1) = _ := Heap.put_eq
      have gR := (Heap.put_ne (H := F) (o := .cells [.int .i64 ((cc : Int) + 1)] 0 none false (some 3)) (show nx + 1 ≠ nx + 1 + 1 by omega)).trans fR
      have gK := (Heap.put_ne (H := F) (o := .cells [.int .i64 ((cc : Int) + 1)] 0 none false (some 3)) (show nx + 1 + 1 + 1 + 1 ≠ nx + 1 + 1 by omega)).trans fK
      have gO : ∀ i, i ≠ nx + 1 + 1 + 1 + 1 → i ≠ nx + 1 + 1 → (F.put (nx + 1 + 1) (.cells [.int .i64 ((cc : Int) + 1)] 0 none false (some 3))) i = H4 i := fun i h1 h2 => by rw [Heap.put_ne h2, fO i h1]
      show OpsL _ _ _ _ ⟨_, _, F.put (nx + 1 + 1) _, _⟩ _
      generalize F.put (nx + 1 + 1) (.cells [.int .i64 ((cc : Int) + 1)] 0 none false (some 3)) = F2 at *
      have dN := cell_one gN
      clear cN fN fR fK fO
      repeat (first | (refine OpsL.q (by exact old) ?_) | (refine Trip.seq ?_) | (refine Trip.ops ?_) | (refine OpsL.nil ?_; (change Trip _ _ _ _ _)))
      by_cases hc : (200 : Int) < (cc : Int) + 1
      · refine OpsL.gtrT ?_ (c := hc)
        repeat (first | (refine OpsL.nil ?_; (change Trip _ _ _ _ _)))
        refine Trip.ifT ?_
        repeat (first | (refine Trip.seq ?_) | (refine Trip.ops ?_))
        refine OpsL.storeAt (cs' := [.bool true]) 0 (by (first | (simp only [ASt.ev, tmPut, ↓reduceIte, Nat.reduceEqDiff, *]; rfl))) (by (first | (simp only [ASt.ev, tmPut, ↓reduceIte, Nat.reduceEqDiff, *]; rfl))) (by exact rfl) (by exact rfl) (by exact rfl) gR (by exact rfl) (by simp) (by exact rfl) ?_
        repeat (first | (refine Trip.ret ?_; ((repeat (refine blockExit_ret ?_)); dsimp only)) | (refine OpsL.nil ?_; (change Trip _ _ _ _ _)))
        have hlu : liveU (cntU cc x4) = false := by unfold liveU cntU; exact decide_eq_false (by omega)
        refine ⟨by rw [Heap.put_ne (by omega)]; exact gK, by rw [hlu]; rfl, ⟨by rw [Heap.put_eq, if_neg (by unfold cntU; omega)]; rfl, ?_, ?_, by unfold cntU; omega, by omega⟩, ⟨Nat.le_refl _, fun i hi hn => ?_⟩⟩
        · rw [Heap.put_ne (by omega), Heap.put_ne (by omega), gN]; simp [cntU]
        · rw [Heap.put_ne (by omega), Heap.put_eq, decide_eq_true (by unfold cntU; omega)]
        · simp only [List.mem_cons, List.not_mem_nil, or_false, not_or] at hn
          rw [Heap.put_ne hn.1, Heap.put_ne hn.2.1, gO i hn.1 hn.2.2]
      · refine OpsL.gtrF ?_ (c := hc)
        repeat (first | (refine OpsL.nil ?_; (change Trip _ _ _ _ _)))
        refine Trip.ifF ?_
        repeat (first | (refine Trip.skip ?_; ((repeat (refine blockExit_normal ?_)); dsimp only)))
        have hlu : liveU (cntU cc x4) = true := by unfold liveU cntU; exact decide_eq_true (by omega)
        refine ⟨gK, by rw [hlu]; rfl, ⟨by rw [Heap.put_eq, if_pos (by unfold cntU; omega)]; rfl, ?_, ?_, by unfold cntU; omega, by omega⟩, ⟨Nat.le_refl _, fun i hi hn => ?_⟩⟩
        · rw [Heap.put_ne (by omega), gN]; simp [cntU]
        · rw [Heap.put_ne (by omega), gR, decide_eq_false (by unfold cntU; omega)]
        · simp only [List.mem_cons, List.not_mem_nil, or_false, not_or] at hn
          rw [Heap.put_ne hn.1, gO i hn.1 hn.2.2]
    · have := hJ.lt
      exact ⟨by rw [h5.2 _ (by omega)]; exact hJ.rec_, by rw [h5.2 _ (by omega)]; exact hJ.num, by rw [h5.2 _ (by omega)]; exact hJ.res, hJ.le, by have := h5.1; omega⟩
    · have := hJ.lt
      simp only [List.mem_cons, List.not_mem_nil, or_false] at hi
      omega
    · rw [hJ.rec_]
      split <;> rfl
  · refine ⟨by rw [Heap.put_eq]; rfl, by rw [Heap.put_ne (by omega)]; exact r2', by rw [Heap.put_ne (by omega)]; exact r1, by omega, by omega⟩
  · intro n2 H2 hJ2 y2
    have hU := cntU_eq x 0 (by omega)
    rw [hU] at hJ2
    clear hU
    have hdl := hJ2.lt
    have hsame : ∀ i, i < nx → H2.del (nx + 1 + 1 + 1 + 1) i = H i := fun i hi => by
      rw [del_ne (by omega), y2.same i (by omega) (by simp; omega), Heap.put_ne (by omega), x3.2 i (by omega), x2.2 i (by omega), x1.2 i (by omega), x0.2 i hi]
    have q2 := cutT_at (n := 11) e2 (by decide)
    by_cases hc : 0 + sizeX x ≤ 200
    · rw [Nat.min_eq_left (by omega)] at hJ2
      have hr := hJ2.rec_
      rw [if_pos hc] at hr
      refine ⟨_, _, _, _, _, _, _, hr, by decide, .inl ⟨rfl, ?_⟩⟩
      have fR : H2.del (nx + 1 + 1 + 1 + 1) (nx + 1) = some (.cells [.bool false] 0 none false (some 4)) := by rw [del_ne (by omega), hJ2.res, decide_eq_false (by omega)]
      generalize H2.del (nx + 1 + 1 + 1 + 1) = F at *
      ((repeat (refine blockExit_normal ?_)); change Trip _ _ _ _ _)
      repeat (first | (refine Trip.seq ?_) | (refine Trip.ops ?_))
      refine OpsL.storeAt (cs' := [.bool false]) 0 (by (first | (simp only [ASt.ev, tmPut, ↓reduceIte, Nat.reduceEqDiff, *]; rfl))) (by (first | (simp only [ASt.ev, tmPut, ↓reduceIte, Nat.reduceEqDiff, *]; rfl))) (by exact rfl) (by exact rfl) (by exact rfl) fR (by exact rfl) (by simp) (by exact rfl) ?_
      repeat (first | (refine Trip.ret ?_; (dsimp only)) | (refine OpsL.nil ?_; (change Trip _ _ _ _ _)))
      refine ⟨.inr rfl, _, res_cell (a := ⟨nx + 1, 0, none⟩) (v := .bool false) q2 (readAt_one (by exact rfl) rfl (cell_one Heap.put_eq)), by rw [decide_eq_false (by omega)], by omega, fun i hi => by rw [Heap.put_ne (by omega)]; exact hsame i hi⟩
    · rw [Nat.min_eq_right (by omega)] at hJ2
      have hr := hJ2.rec_
      rw [if_neg (by omega)] at hr
      refine ⟨_, _, _, _, _, _, _, hr, by decide, .inr ⟨_, rfl, ?_⟩⟩
      have fR : H2.del (nx + 1 + 1 + 1 + 1) (nx + 1) = some (.cells [.bool true] 0 none false (some 4)) := by rw [del_ne (by omega), hJ2.res]; rfl
      repeat (first | (refine Trip.ret ?_; ((repeat (refine blockExit_ret ?_)); dsimp only)))
      refine ⟨.inr rfl, _, res_cell (a := ⟨nx + 1, 0, none⟩) (v := .bool true) q2 (readAt_one (by exact rfl) rfl (cell_one fR)), by rw [decide_eq_true (by omega)], by omega, hsame⟩
end Go.Proofs.YtmijhkclfoadaaaDoor
namespace Go.Am
set_option linter.unusedSimpArgs false
set_option linter.unusedVariables false
open Go.RowKit
def nextL (ls : List (List Ex)) : List (List Ex) := ((ls.flatten.filter fun x => !x.l.isEmpty).map (·.l))
def nextN : Nat → List (List Ex) → List (List Ex) | 0, ls => ls | n + 1, ls => nextN n (nextL ls)
theorem nextN_succ (n : Nat) : ∀ ls, nextN (n + 1) ls = nextL (nextN n ls) := by
  induction n with
  | zero => intro ls; rfl
  | succ n ih => intro ls; exact ih (nextL ls)
theorem deepX_kids {x : Ex} {n : Nat} : n + 1 < deepX x ↔ ∃ y ∈ x.l, n < deepX y := by
  obtain ⟨k, s, e, l⟩ := x
  simp only [deepX, Ex.l]
  have key : ∀ (l : List Ex) (m : Nat), n < deepXL l m ↔ n < m ∨ ∃ y ∈ l, n < deepX y := by
    intro l
    induction l with
    | nil => intro m; simp [deepXL]
    | cons x l ih =>
      intro m
      simp only [deepXL]
      rw [ih]
      simp only [List.mem_cons, exists_eq_or_imp]
      constructor
      · rintro (h | h)
        · rcases (by omega : n < m ∨ n < deepX x) with h | h
          · exact .inl h
          · exact .inr (.inl h)
        · exact .inr (.inr h)
      · rintro (h | h | h)
        · exact .inl (by omega)
        · exact .inl (by omega)
        · exact .inr h
  have := key l 0
  constructor
  · intro h
    rcases this.1 (by omega) with h | h
    · omega
    · exact h
  · intro h
    have := this.2 (.inr h)
    omega
theorem nextN_ne : ∀ (n : Nat) (ls : List (List Ex)), (∀ l ∈ ls, l ≠ []) → (nextN n ls ≠ [] ↔ ∃ l ∈ ls, ∃ y ∈ l, n < deepX y) := by
  intro n
  induction n with
  | zero =>
    intro ls h
    simp only [nextN]
    constructor
    · intro hne
      obtain ⟨l, hl⟩ := List.exists_mem_of_ne_nil ls hne
      obtain ⟨y, hy⟩ := List.exists_mem_of_ne_nil l (h l hl)
      exact ⟨l, hl, y, hy, by obtain ⟨k, s, e, m⟩ := y; simp [deepX]⟩
    · rintro ⟨l, hl, _⟩ rfl
      cases hl
  | succ n ih =>
    intro ls h
    simp only [nextN]
    rw [ih (nextL ls) (fun l hl => by
      unfold nextL at hl
      obtain ⟨x, hx, rfl⟩ := List.mem_map.1 hl
      have := (List.mem_filter.1 hx).2
      intro e
      rw [e] at this
      simp at this)]
    constructor
    · rintro ⟨l, hl, y, hy, hd⟩
      unfold nextL at hl
      obtain ⟨x, hx, rfl⟩ := List.mem_map.1 hl
      obtain ⟨m, hm, hxm⟩ := List.mem_flatten.1 (List.mem_filter.1 hx).1
      exact ⟨m, hm, x, hxm, deepX_kids.2 ⟨y, hy, hd⟩⟩
    · rintro ⟨l, hl, x, hx, hd⟩
      obtain ⟨y, hy, hd⟩ := deepX_kids.1 hd
      refine ⟨x.l, ?_, y, hy, hd⟩
      unfold nextL
      exact List.mem_map.2 ⟨x, List.mem_filter.2 ⟨List.mem_flatten.2 ⟨l, hl, hx⟩, by
        cases he : x.l with
        | nil => rw [he] at hy; cases hy
        | cons a b => rfl⟩, rfl⟩
theorem deep_levels (x : Ex) (n : Nat) : nextN n [[x]] ≠ [] ↔ n < deepX x := by
  rw [nextN_ne n [[x]] (by simp)]
  simp
def massL (ls : List (List Ex)) : Nat := (ls.map fun l => sizeXL l 0).sum
theorem sizeXL_sum : ∀ (l : List Ex), sizeXL l 0 = (l.map sizeX).sum
  | [] => by simp [sizeXL]
  | x :: l => by
    simp only [sizeXL, Nat.zero_add, List.map_cons, List.sum_cons]
    have := sizeXL_shift l (sizeX x) 0
    rw [Nat.add_zero] at this
    rw [this, sizeXL_sum l]
theorem kid_mass (x : Ex) : sizeXL x.l 0 + 1 = sizeX x := by
  obtain ⟨k, s, e, l⟩ := x
  simp only [Ex.l, sizeX]
  have := sizeXL_shift l 1 0
  rw [Nat.add_zero] at this
  omega
theorem nextL_mass (ls : List (List Ex)) : massL (nextL ls) ≤ massL ls := by
  unfold massL nextL
  rw [List.map_map]
  have h1 : ∀ l : List Ex, (((l.filter fun x => !x.l.isEmpty).map (·.l)).map fun l => sizeXL l 0).sum ≤ (l.map sizeX).sum := by
    intro l
    induction l with
    | nil => simp
    | cons x l ih =>
      have := kid_mass x
      simp only [List.filter_cons]
      split
      · simp only [List.map_cons, List.sum_cons]; omega
      · simp only [List.map_cons, List.sum_cons]; omega
  have h2 : ∀ ls : List (List Ex), (ls.flatten.map sizeX).sum = (ls.map fun l => sizeXL l 0).sum := by
    intro ls
    induction ls with
    | nil => rfl
    | cons l ls ih => simp only [List.flatten_cons, List.map_append, List.sum_append, List.map_cons, List.sum_cons, ih, sizeXL_sum]
  have := h1 ls.flatten
  rw [h2, List.map_map] at this
  exact this
theorem mass_len (ls : List (List Ex)) (h : ∀ l ∈ ls, l ≠ []) : ls.length ≤ massL ls := by
  induction ls with
  | nil => simp
  | cons l ls ih =>
    have h1 := ih fun m hm => h m (List.mem_cons_of_mem _ hm)
    have h2 : 1 ≤ sizeXL l 0 := by
      have := size_len l 0
      have := List.length_pos_iff.2 (h l (List.mem_cons_self ..))
      omega
    unfold massL at *
    simp only [List.length_cons, List.map_cons, List.sum_cons]
    omega
theorem nextN_mass (n : Nat) : ∀ ls, massL (nextN n ls) ≤ massL ls := by
  induction n with
  | zero => intro ls; exact Nat.le_refl _
  | succ n ih => intro ls; exact Nat.le_trans (ih _) (nextL_mass ls)
end Go.Am
namespace Go.Am
set_option linter.unusedSimpArgs false
set_option linter.unusedVariables false
open Go.RowKit
structure RowIt where
  sv : Option Addr × Nat × Nat
  l : List Ex
  B : List Nat
def slX (s : Option Addr × Nat × Nat) : Value := .slice s.1 s.2.1 s.2.2
def encSX (s : Option Addr × Nat × Nat) : List Value := [slX s]
theorem encSX_len (s : Option Addr × Nat × Nat) : (encSX s).length = 1 := rfl
theorem encSX_one (s : Option Addr × Nat × Nat) : (encSX s).all (·.oneCell') = true := rfl
def RowX (H : Heap) (it : RowIt) : Prop := ∃ p c, it.sv = (some p, it.l.length, c) ∧ it.l ≠ [] ∧ ExC H [.int .i64 0, .int .i64 0, .int .i64 0, .slice (some p) it.l.length c] (.node 0 0 0 it.l) it.B
theorem ExC.row {H : Heap} {k s e : Int} {v : Value} {l : List Ex} {B : List Nat} (h : ExC H [.int .i64 k, .int .i64 s, .int .i64 e, v] (.node k s e l) B) : ExC H [.int .i64 0, .int .i64 0, .int .i64 0, v] (.node 0 0 0 l) B := by
  cases h with
  | leaf => exact .leaf ..
  | node k s e l p c cs Bs hl hob h h2 => exact .node 0 0 0 l p c cs Bs hl hob h h2
theorem RowX.open_ {H : Heap} {it : RowIt} (h : RowX H it) : ∃ (p : Addr) (c : Nat) (cs : Nat → List Value) (Bs : Nat → List Nat) (c0 : List Value) (q : Option TypeId), it.sv = (some p, it.l.length, c) ∧ it.l ≠ [] ∧ H p.block = some (.cells c0 4 p.spot false q) ∧ (∀ i, i < it.l.length → getc H ⟨p.block, p.off + i * 4, p.spot⟩ 4 = some (cs i)) ∧ (∀ i (hi : i < it.l.length), ExC H (cs i) it.l[i] (Bs i)) ∧ it.B = p.block :: (List.range it.l.length).flatMap Bs := by
  obtain ⟨p, c, h1, h2, h3⟩ := h
  obtain ⟨sv, l, B⟩ := it
  simp only at h1 h2 h3 ⊢
  generalize hcs : [Value.int .i64 0, .int .i64 0, .int .i64 0, .slice (some p) l.length c] = cs0 at h3
  generalize hx : Ex.node 0 0 0 l = x at h3
  cases h3 with
  | leaf => cases hx; exact absurd rfl h2
  | node k s e l p c cs Bs hl hob h h4 =>
    cases hx
    cases hcs
    obtain ⟨c0, q, ho⟩ := hob
    exact ⟨p, c, cs, Bs, c0, q, h1, hl, ho, h, h4, rfl⟩
structure LevAt (H : Heap) (v : Value) (its : List RowIt) : Prop where
  rows : RowsAt encSX 1 H v (its.map (·.sv))
  each : ∀ it ∈ its, RowX H it
  nd : (its.flatMap (·.B)).Nodup
def keyX (it : RowIt) : Value := match it.sv.1 with | some p => .pointer (some ⟨p.block, p.off + (0 : Int).toNat * 4, p.spot⟩) | none => undef
def esX (out : List RowIt) : List (Value × Value) := out.map fun o => (keyX o, .int .i64 o.l.length)
def kidsX (l : List Ex) : List (List Ex) := (l.filter fun x => !x.l.isEmpty).map (·.l)
theorem nextL_snoc (ls : List (List Ex)) (l : List Ex) : nextL (ls ++ [l]) = nextL ls ++ kidsX l := by
  unfold nextL kidsX
  rw [List.flatten_append, List.filter_append, List.map_append]
  simp
theorem kidsX_take {l : List Ex} {j : Nat} (h : j < l.length) : kidsX (l.take (j + 1)) = kidsX (l.take j) ++ (if l[j].l.isEmpty then [] else [l[j].l]) := by
  rw [take_snoc h]
  unfold kidsX
  rw [List.filter_append, List.map_append]
  congr 1
  by_cases he : l[j].l.isEmpty
  · simp [he]
  · simp [he]
end Go.Am
namespace Go.Proofs.YtmijhkclfoadaaaDoor
set_option linter.unusedSimpArgs false
set_option linter.unusedVariables false
open Go.Am Go.RowKit
set_option maxRecDepth 20000 in
theorem keyNe {H : Heap} {a b : RowIt} (ha : RowX H a) (hb : RowX H b) (hne : ∀ x ∈ a.B, x ∉ b.B) : aEq Tryd.prog H 60 165 (keyX a) (keyX b) = some false := by
  obtain ⟨p, c, cs, Bs, c0, q, h1, h2, h3, _, _, h6⟩ := ha.open_
  obtain ⟨p', c', cs', Bs', c0', q', h1', h2', h3', _, _, h6'⟩ := hb.open_
  have hbl : p.block ≠ p'.block := fun e => hne p.block (by rw [h6]; exact List.mem_cons_self ..) (by rw [h6', e]; exact List.mem_cons_self ..)
  have hu : Tryd.prog.underlying 165 = some (.pointer 28) := by exact rfl
  have hz : szOf Tryd.prog 28 = some 4 := by exact rfl
  unfold keyX
  rw [h1, h1']
  unfold aEq
  simp only [hu, hz, h3, h3']
  rw [if_neg (by simp [hbl]), if_pos ⟨by decide, hbl⟩]
  simp [apartO]
theorem find_noX {H : Heap} {it : RowIt} (hi : RowX H it) : ∀ (out : List RowIt) (k : Nat), (∀ o ∈ out, RowX H o) → (∀ o ∈ out, ∀ x ∈ it.B, x ∉ o.B) → aFind Tryd.prog H 165 (keyX it) (esX out) k = some none
  | [], k, _, _ => rfl
  | o :: out, k, h1, h2 => by
    show aFind Tryd.prog H 165 (keyX it) ((keyX o, _) :: esX out) k = _
    simp only [aFind]
    rw [keyNe hi (h1 o (List.mem_cons_self ..)) (h2 o (List.mem_cons_self ..))]
    exact find_noX hi out (k + 1) (fun q hq => h1 q (List.mem_cons_of_mem _ hq)) fun q hq => h2 q (List.mem_cons_of_mem _ hq)
set_option maxRecDepth 20000 in
theorem key_ok {H : Heap} {it : RowIt} (hi : RowX H it) : aCheckKey Tryd.prog 60 165 (keyX it) = true ∧ keyOk H (keyX it) = true := by
  obtain ⟨p, c, cs, Bs, c0, q, h1, h2, h3, _, _, h6⟩ := hi.open_
  unfold keyX
  rw [h1]
  have hu : Tryd.prog.underlying 165 = some (.pointer 28) := by exact rfl
  refine ⟨by unfold aCheckKey; rw [hu], ?_⟩
  unfold keyOk
  rw [Bool.or_eq_true]
  right
  simp [liveP, h3, AObj.tag]
set_option maxRecDepth 20000 in
theorem lookX {H : Heap} {it : RowIt} {out : List RowIt} {m : Nat} {bs : List Nat} {clk : Nat} (hm : H m = some (.map (esX out) bs clk)) (hi : RowX H it) (h1 : ∀ o ∈ out, RowX H o) (h2 : ∀ o ∈ out, ∀ x ∈ it.B, x ∉ o.B) : aLookup Tryd.prog H 174 (.map (some m)) (keyX it) false = some (.int .i64 0) := by
  have hu : Tryd.prog.underlying 174 = some (.map 165 3) := by exact rfl
  have hmo : mapOf H (.map (some m)) = some (esX out) := by simp only [mapOf, hm]
  unfold aLookup
  simp only [hu, hmo, show zeroV Tryd.prog 3 = some (.int .i64 0) from rfl, (key_ok hi).1, show (Tryd.prog.underlying 165).isSome = true from rfl, and_self, if_true, find_noX hi out 0 h1 h2]
  rfl
set_option maxRecDepth 20000 in
theorem putX {H : Heap} {it : RowIt} {out : List RowIt} {m : Nat} {bs : List Nat} {clk : Nat} (hm : H m = some (.map (esX out) bs clk)) (hi : RowX H it) (h1 : ∀ o ∈ out, RowX H o) (h2 : ∀ o ∈ out, ∀ x ∈ it.B, x ∉ o.B) : aMapUpdate Tryd.prog H 174 (.map (some m)) (keyX it) (.int .i64 it.l.length) = some (.upd m (.map (esX (out ++ [it])) (bs ++ [clk]) (clk + 1))) := by
  have hu : Tryd.prog.underlying 174 = some (.map 165 3) := by exact rfl
  unfold aMapUpdate
  simp only [hu, hm, (key_ok hi).1, (key_ok hi).2, show (Tryd.prog.underlying 165).isSome = true from rfl, and_self, if_true, find_noX hi out 0 h1 h2]
  simp [esX]
end Go.Proofs.YtmijhkclfoadaaaDoor
