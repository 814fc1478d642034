import Derived.Test.YtmijhkclfoadaaaDoorQEM38
import Derived.Test.YtmijhkclfoadaaaDoorQEM21
import Derived.Test.YtmijhkclfoadaaaDoorQEM34
import Derived.Test.YtmijhkclfoadaaaDoorQEM37
namespace Go.Proofs.YtmijhkclfoadaaaDoor
set_option linter.unusedSimpArgs false
set_option linter.unusedVariables false
open Go.Am Go.RowKit
attribute [local irreducible] aop OpsL Trip blockExit OpsD OpsK OpsR
theorem entersMakeTop : Am.Enters Tryd.prog 13 := ⟨Tryd.f13, Tryd.func13, by kernel_rfl, by kernel_rfl⟩
set_option maxRecDepth 20000 in
set_option maxHeartbeats 8000000 in
theorem makeTopC (W0 : World) {ss : List (ByteArray × Int)} {ns : List Int} (hs0 : 0 < ss.length) (hss : ss.length ≤ 1000) {d : Nat} {nx : Nat} {H : Heap} {lv nv : Value} (hl : SymsAt H lv ss) (hn : IntsAt H nv ns) (hd : cntX d + 1 ≤ 1000000) : ACalls Tryd.prog W0 13 [lv, nv, .int .i64 d] nx H fun v nx' H' => Ext nx H nx' H' ∧ ∃ cs B, v = .agg cs.toArray ∧ ExC H' cs (mkX ss ns d false 0).1 B ∧ B.Nodup ∧ ∀ x ∈ B, nx ≤ x ∧ x < nx' := by
  obtain ⟨la, lc, rfl, hlr⟩ := id hl
  obtain ⟨na, nc, rfl⟩ := hn.slice
  refine ACalls.by_trip (fn := Tryd.f13) (c := _) Tryd.func13 rfl (fun tm n hn0 htm => ?_)
  have e0 : tm 0 = .slice (some la) ss.length lc := htm 0
  have e1 : tm 1 = .slice na ns.length nc := htm 1
  have e2 : tm 2 = .int .i64 d := htm 2
  clear htm
  replace hn0 : n = 15 := hn0
  refine Trip.ok fun hok => ?_
  replace hok : ∀ id o, H id = some o → id < nx := hok
  have hol : OffV (nx + 1) (.slice (some la) ss.length lc) := fun a' l' c' h => by
    cases h
    obtain ⟨o, ho⟩ := getc_some (hlr 0 hs0)
    have := hok _ _ ho
    simp only at this
    omega
  have hof : ns ≠ [] → OffV (nx + 1) (.slice na ns.length nc) := fun hne a' l' c' h => by
    cases h
    have h0 : 0 < ns.length := List.length_pos_iff.2 hne
    obtain ⟨p, hp, hc⟩ := hn.get h0
    cases hp
    obtain ⟨o, ho⟩ := getc_some hc
    have := hok _ _ ho
    simp only at this
    omega
  refine Trip.seq ?_
  refine Trip.ops ?_
  refine OpsL.new (by subst_vars; decide) (aop_alloc (l := [.int .i64 0, .int .i64 0, .int .i64 0, .slice none 0 0]) (by exact rfl)) ?_
  obtain ⟨G, hGe⟩ : ∃ G, G = H.put nx (.cells [.int .i64 0, .int .i64 0, .int .i64 0, .slice none 0 0] 0 none false (some 28)) := ⟨_, rfl⟩
  have x0 : Ext nx H (nx + 1) G := by rw [hGe]; exact Ext.newPut
  have hGr : G nx = some (.cells [.int .i64 0, .int .i64 0, .int .i64 0, .slice none 0 0] 0 none false (some 28)) := by rw [hGe]; exact Heap.put_eq
  have okG : ∀ id o, G id = some o → id < nx + 1 := by rw [hGe]; exact ok_new hok
  rw [← hGe]
  clear hGe
  refine OpsL.nil ?_
  (change Trip _ _ _ _ _)
  repeat (first | (refine OpsL.q (by exact omv) ?_) | (refine Trip.seq ?_) | (refine Trip.ops ?_))
  refine OpsL.p (by subst_vars; decide) (aop_build (l := [(0, .slice (some la) ss.length lc), (1, .slice na ns.length nc)]) (by simp [evParts, ASt.ev, tmPut, plainC, plain1, *]) (v := .agg #[.slice (some la) ss.length lc, .slice na ns.length nc, .int .i64 0]) (by exact rfl)) ?_
  refine OpsL.new (by subst_vars; decide) (aop_box (by (first | (simp only [ASt.ev, tmPut, ↓reduceIte, Nat.reduceEqDiff, *]; rfl)))) ?_
  obtain ⟨G2, hG2⟩ : ∃ G2, G2 = G.put (nx + 1) (.cells (Value.agg #[.slice (some la) ss.length lc, .slice na ns.length nc, .int .i64 0]).cells.toList 0 none false (some 65)) := ⟨_, rfl⟩
  have x1 : Ext (nx + 1) G (nx + 1 + 1) G2 := by rw [hG2]; exact Ext.newPut
  have hm : MkrAt G2 (nx + 1) (.slice (some la) ss.length lc) (.slice na ns.length nc) 0 := by unfold MkrAt; rw [hG2, Heap.put_eq]; rfl
  have hGr2 : G2 nx = some (.cells [.int .i64 0, .int .i64 0, .int .i64 0, .slice none 0 0] 0 none false (some 28)) := by rw [x1.2 nx (by omega)]; exact hGr
  have hlG := (hl.ext x0 hok).ext x1 okG
  have hnG := (hn.ext x0 hok).ext x1 okG
  rw [← hG2]
  clear hG2
  repeat (first | (refine OpsL.q (by first | exact oasg | exact omv) ?_) | (refine Trip.seq ?_) | (refine Trip.ops ?_) | (refine OpsL.nil ?_; (change Trip _ _ _ _ _)))
  refine OpsL.c3 (hf := entersMakeX) (hc := (makeXC W0 hs0 hss d false (di := _) rfl hm hlG hnG hol hof (by omega))) (h := ?_)
  rintro v2 n2 H2 ⟨cs, B, rfl, hx, hB, hr, hm2, y2⟩
  have hr2 : H2 nx = some (.cells [.int .i64 0, .int .i64 0, .int .i64 0, .slice none 0 0] 0 none false (some 28)) := by rw [y2.same nx (by omega) (by omega)]; exact hGr2
  obtain ⟨X, hX⟩ : ∃ X, (mkX ss ns d false 0).1 = X := ⟨_, rfl⟩
  rw [hX] at hx ⊢
  obtain ⟨xk, xs, xe, xl⟩ := X
  obtain ⟨xa, xc, rfl⟩ := hx.cells
  refine OpsL.storeX ?_ (by (first | (simp only [ASt.ev, tmPut, ↓reduceIte, Nat.reduceEqDiff, *]; done))) (by (first | (simp only [ASt.ev, tmPut, ↓reduceIte, Nat.reduceEqDiff, *]; rfl))) hr2 rfl rfl rfl
  intro G9 hG9 hs9
  have q := y2.le
  have ht := hx.same (H' := G9) fun y hy => hs9 y (by have := hr y hy; omega)
  repeat (first | (refine Trip.ret ?_; (dsimp only)) | (refine OpsL.nil ?_; (change Trip _ _ _ _ _)))
  exact ⟨.inr rfl, _, res_cell (by simp [tmPut, *]) (readX hG9 rfl), ⟨by omega, fun k hk => by rw [hs9 k (by omega), y2.same k (by omega) (by omega), x1.2 k (by omega), x0.2 k hk]⟩, _, B, rfl, ht, hB, fun y hy => by have := hr y hy; omega⟩
end Go.Proofs.YtmijhkclfoadaaaDoor
namespace Go.Proofs.YtmijhkclfoadaaaDoor
set_option linter.unusedSimpArgs false
set_option linter.unusedVariables false
open Go.Am Go.RowKit
attribute [local irreducible] aop OpsL Trip blockExit OpsD OpsK OpsR
theorem entersRCheckX : Am.Enters Tryd.prog 16 := ⟨Tryd.f16, Tryd.func16, by kernel_rfl, by kernel_rfl⟩
set_option maxRecDepth 20000 in
set_option maxHeartbeats 8000000 in
theorem rCheckXC (W0 : World) {ss : List (ByteArray × Int)} (hss : ss.length ≤ 1000) {x : Ex} {nx : Nat} {H : Heap} {lv : Value} {cs : List Value} {B : List Nat} (hl : SymsAt H lv ss) (hx : ExC H cs x B) (hn : sizeX x ≤ 1000000) : ACalls Tryd.prog W0 16 [lv, .agg cs.toArray] nx H fun v nx' H' => v = .int .i64 (checkX ss x) ∧ Ext nx H nx' H' := by
  obtain ⟨k, s, e, l⟩ := x
  obtain ⟨a, c, rfl⟩ := hx.cells
  obtain ⟨la, lc, rfl, _⟩ := id hl
  refine ACalls.by_trip (fn := Tryd.f16) (c := _) Tryd.func16 rfl (fun tm n hn0 htm => ?_)
  have e0 : tm 0 = .slice (some la) ss.length lc := htm 0
  have e1 : tm 1 = .agg ([.int .i64 k, .int .i64 s, .int .i64 e, .slice a l.length c] : List Value).toArray := htm 1
  clear htm
  replace hn0 : n = 26 := hn0
  refine Trip.ok fun hok => ?_
  replace hok : ∀ id o, H id = some o → id < nx := hok
  refine Trip.seq ?_
  refine Trip.ops ?_
  refine OpsL.boxX hok ?_ (by (first | (simp only [ASt.ev, tmPut, ↓reduceIte, Nat.reduceEqDiff, *]; rfl))) rfl (by subst_vars; decide)
  intro G x0 okG hb
  have hG := hx.ext x0 hok
  have h0 := hb.c0
  have h1 := hb.c1
  have h2 := hb.c2
  have h3 := hb.c3
  clear e1
  have hlG := hl.ext x0 hok
  have h4 := hb.all
  generalize Ex.node k s e l = x at *
  clear h0 h1 h2 h3
  repeat (first | (refine OpsL.q (by first | exact oasg | exact aop_loadAgg (k := 4) (by (first | (simp only [ASt.ev, tmPut, ↓reduceIte, Nat.reduceEqDiff, *]; rfl))) (by exact rfl) rfl (by exact rfl) (by assumption)) ?_) | (refine Trip.seq ?_) | (refine Trip.ops ?_) | (refine Trip.block ?_) | (refine OpsL.nil ?_; (change Trip _ _ _ _ _)))
  refine OpsL.c1 (hf := entersRDeep) (hc := (rDeepC W0 x hG hn)) (h := ?_)
  rintro v1 n1 H1 ⟨rfl, y1⟩
  by_cases hd : (20 : Int) < (deepX x : Nat)
  · refine OpsL.gtrT ?_ (c := hd)
    have hr : checkX ss x = 3 := by unfold checkX; rw [if_pos (by omega)]
    clear hd
    repeat (first | (refine OpsL.q (by exact oasg) ?_) | (refine OpsL.nil ?_; (change Trip _ _ _ _ _)))
    refine Trip.ifT ?_
    repeat (first | (refine OpsL.q (by exact oasg) ?_) | (refine Trip.seq ?_) | (refine Trip.ops ?_) | (refine Trip.ret ?_; ((repeat (refine blockExit_ret ?_)); dsimp only)) | (refine OpsL.nil ?_; (change Trip _ _ _ _ _)))
    exact ⟨.inr rfl, _, res_tmp, by simp [tmPut, *], x0.trans y1⟩
  refine OpsL.gtrF ?_ (c := hd)
  have q1 : ¬ 20 < deepX x := by omega
  clear hd
  repeat (first | (refine OpsL.q (by exact oasg) ?_) | (refine OpsL.nil ?_; (change Trip _ _ _ _ _)))
  refine Trip.ifF ?_
  refine Trip.ok fun ok1 => ?_
  replace ok1 : ∀ id o, H1 id = some o → id < n1 := ok1
  have g4 := getc_ext y1 okG h4
  repeat (first | (refine OpsL.q (by exact aop_loadAgg (k := 4) (by (first | (simp only [ASt.ev, tmPut, ↓reduceIte, Nat.reduceEqDiff, *]; rfl))) (by exact rfl) rfl (by exact rfl) (by assumption)) ?_) | (refine Trip.seq ?_) | (refine Trip.ops ?_))
  refine OpsL.c1 (hf := entersRSize) (hc := (rSizeC W0 x (hG.ext y1 okG) hn)) (h := ?_)
  rintro v2 n2 H2 ⟨rfl, y2⟩
  have z2 := y1.trans y2
  clear g4 y2
  by_cases hd : (200 : Int) < (sizeX x : Nat)
  · refine OpsL.gtrT ?_ (c := hd)
    have hr : checkX ss x = 2 := by unfold checkX; rw [if_neg q1, if_pos (by omega)]
    clear hd
    repeat (first | (refine OpsL.q (by exact oasg) ?_) | (refine OpsL.nil ?_; (change Trip _ _ _ _ _)))
    refine Trip.ifT ?_
    repeat (first | (refine OpsL.q (by exact oasg) ?_) | (refine Trip.seq ?_) | (refine Trip.ops ?_) | (refine Trip.ret ?_; ((repeat (refine blockExit_ret ?_)); dsimp only)) | (refine OpsL.nil ?_; (change Trip _ _ _ _ _)))
    exact ⟨.inr rfl, _, res_tmp, by simp [tmPut, *], x0.trans z2⟩
  refine OpsL.gtrF ?_ (c := hd)
  have q2 : ¬ 200 < sizeX x := by omega
  clear hd
  repeat (first | (refine OpsL.q (by exact oasg) ?_) | (refine OpsL.nil ?_; (change Trip _ _ _ _ _)))
  refine Trip.ifF ?_
  have g4 := getc_ext z2 okG h4
  repeat (first | (refine OpsL.q (by exact aop_loadAgg (k := 4) (by (first | (simp only [ASt.ev, tmPut, ↓reduceIte, Nat.reduceEqDiff, *]; rfl))) (by exact rfl) rfl (by exact rfl) (by assumption)) ?_) | (refine Trip.seq ?_) | (refine Trip.ops ?_))
  refine OpsL.c1 (hf := entersRFormed) (hc := (rFormedC W0 x (hG.ext z2 okG) hn)) (h := ?_)
  rintro v3 n3 H3 ⟨rfl, y3⟩
  have z3 := z2.trans y3
  clear g4 y3
  cases hf : formX x
  · have hr : checkX ss x = 7 := by unfold checkX; rw [if_neg q1, if_neg q2, if_pos hf]
    clear hf
    repeat (first | (refine OpsL.q (by first | exact onot | exact oasg) ?_) | (refine OpsL.nil ?_; (change Trip _ _ _ _ _)))
    refine Trip.ifT ?_
    repeat (first | (refine OpsL.q (by exact oasg) ?_) | (refine Trip.seq ?_) | (refine Trip.ops ?_) | (refine Trip.ret ?_; ((repeat (refine blockExit_ret ?_)); dsimp only)) | (refine OpsL.nil ?_; (change Trip _ _ _ _ _)))
    exact ⟨.inr rfl, _, res_tmp, by simp [tmPut, *], x0.trans z3⟩
  have q3 : ¬ formX x = false := by rw [hf]; decide
  clear hf
  repeat (first | (refine OpsL.q (by first | exact onot | exact oasg) ?_) | (refine OpsL.nil ?_; (change Trip _ _ _ _ _)))
  refine Trip.ifF ?_
  have g4 := getc_ext z3 okG h4
  repeat (first | (refine OpsL.q (by first | exact omv | exact aop_loadAgg (k := 4) (by (first | (simp only [ASt.ev, tmPut, ↓reduceIte, Nat.reduceEqDiff, *]; rfl))) (by exact rfl) rfl (by exact rfl) (by assumption)) ?_) | (refine Trip.seq ?_) | (refine Trip.ops ?_))
  refine OpsL.c2 (hf := entersRNamed) (hc := (rNamedC W0 hss x (hlG.ext z3 okG) (hG.ext z3 okG) hn)) (h := ?_)
  rintro v4 n4 H4 ⟨rfl, y4⟩
  have z4 := z3.trans y4
  clear g4 y4
  cases hf : namedX ss x
  · have hr : checkX ss x = 6 := by unfold checkX; rw [if_neg q1, if_neg q2, if_neg q3, if_pos hf]
    clear hf
    repeat (first | (refine OpsL.q (by first | exact onot | exact oasg) ?_) | (refine OpsL.nil ?_; (change Trip _ _ _ _ _)))
    refine Trip.ifT ?_
    repeat (first | (refine OpsL.q (by exact oasg) ?_) | (refine Trip.seq ?_) | (refine Trip.ops ?_) | (refine Trip.ret ?_; ((repeat (refine blockExit_ret ?_)); dsimp only)) | (refine OpsL.nil ?_; (change Trip _ _ _ _ _)))
    exact ⟨.inr rfl, _, res_tmp, by simp [tmPut, *], x0.trans z4⟩
  have q4 : ¬ namedX ss x = false := by rw [hf]; decide
  repeat (first | (refine OpsL.q (by first | exact onot | exact oasg) ?_) | (refine OpsL.nil ?_; (change Trip _ _ _ _ _)))
  refine Trip.ifF ?_
  have g4 := getc_ext z4 okG h4
  repeat (first | (refine OpsL.q (by first | exact omv | exact aop_loadAgg (k := 4) (by (first | (simp only [ASt.ev, tmPut, ↓reduceIte, Nat.reduceEqDiff, *]; rfl))) (by exact rfl) rfl (by exact rfl) (by assumption)) ?_) | (refine Trip.seq ?_) | (refine Trip.ops ?_))
  refine OpsL.c3 (hf := entersRLoose) (hc := (rLooseC W0 hss x false (hlG.ext z4 okG) (hG.ext z4 okG) hn hf)) (h := ?_)
  rintro v5 n5 H5 ⟨rfl, y5⟩
  have z5 := z4.trans y5
  clear g4 y5 hf
  cases hf : looseX ss x false
  · have hr : checkX ss x = 0 := by unfold checkX; rw [if_neg q1, if_neg q2, if_neg q3, if_neg q4, if_neg (by rw [hf]; decide)]
    clear hf
    repeat (first | (refine OpsL.q (by exact oasg) ?_) | (refine OpsL.nil ?_; (change Trip _ _ _ _ _)))
    refine Trip.ifF ?_
    repeat (first | (refine OpsL.q (by exact oasg) ?_) | (refine Trip.seq ?_) | (refine Trip.ops ?_) | (refine Trip.skip ?_; ((repeat (refine blockExit_normal ?_)); change Trip _ _ _ _ _)) | (refine Trip.ret ?_; (dsimp only)) | (refine OpsL.nil ?_; (change Trip _ _ _ _ _)))
    exact ⟨.inr rfl, _, res_tmp, by simp [tmPut, *], x0.trans z5⟩
  · have hr : checkX ss x = 8 := by unfold checkX; rw [if_neg q1, if_neg q2, if_neg q3, if_neg q4, if_pos hf]
    clear hf
    repeat (first | (refine OpsL.q (by exact oasg) ?_) | (refine OpsL.nil ?_; (change Trip _ _ _ _ _)))
    refine Trip.ifT ?_
    repeat (first | (refine OpsL.q (by exact oasg) ?_) | (refine Trip.seq ?_) | (refine Trip.ops ?_) | (refine Trip.ret ?_; ((repeat (refine blockExit_ret ?_)); dsimp only)) | (refine OpsL.nil ?_; (change Trip _ _ _ _ _)))
    exact ⟨.inr rfl, _, res_tmp, by simp [tmPut, *], x0.trans z5⟩
end Go.Proofs.YtmijhkclfoadaaaDoor
namespace Go.Am
set_option linter.unusedSimpArgs false
set_option linter.unusedVariables false
open Go.RowKit
def subX : List Nat → Code → Code
  | 0 :: p, .seq a _ => subX p a
  | 1 :: p, .seq _ b => subX p b
  | 2 :: p, .block _ c => subX p c
  | 2 :: p, .loop c => subX p c
  | 3 :: p, .cond _ a _ => subX p a
  | 4 :: p, .cond _ _ b => subX p b
  | _, c => c
def bodyX (fn : Func) : Code := match fn.body with | some c => c | none => .skip
theorem ExC.field {H : Heap} {k s e k' s' e' : Int} {l : List Ex} {v : Value} {B : List Nat} (h : ExC H [.int .i64 k, .int .i64 s, .int .i64 e, v] (.node k s e l) B) : ExC H [.int .i64 k', .int .i64 s', .int .i64 e', v] (.node k' s' e' l) B := by
  cases h with
  | leaf k s e c => exact .leaf ..
  | node k s e l p c cs Bs hl hob h h2 => exact .node k' s' e' l p c cs Bs hl hob h h2
end Go.Am
namespace Go.Proofs.YtmijhkclfoadaaaDoor
set_option linter.unusedSimpArgs false
set_option linter.unusedVariables false
open Go.Am Go.RowKit
structure CellX (G : Heap) (nx X : Nat) (x : Ex) (cs : List Value) (B : List Nat) : Prop where
  cell : G X = some (.cells cs 0 none false (some 28))
  ex : ExC G cs x B
  nd : B.Nodup
  lt : ∀ b ∈ B, b < nx
  ne : ∀ b ∈ B, b ≠ X
theorem CellX.ext {G G' : Heap} {nx nx' X : Nat} {x : Ex} {cs : List Value} {B : List Nat} (h : CellX G nx X x cs B) (hX : X < nx) (he : Ext nx G nx' G') : CellX G' nx' X x cs B :=
  ⟨by rw [he.2 _ hX]; exact h.cell, h.ex.same fun b hb => he.2 b (h.lt b hb), h.nd, fun b hb => Nat.lt_of_lt_of_le (h.lt b hb) he.1, h.ne⟩
structure XSt (H1 : Heap) (nx1 : Nat) (e : Ex) (G : Heap) (nx A X : Nat) (x : Ex) : Prop where
  ext : Ext nx1 H1 nx G
  hA : nx1 ≤ A ∧ A < nx
  hX : nx1 ≤ X ∧ X < nx ∧ X ≠ A
  a : ∃ cs B, CellX G nx A e cs B ∧ ∀ b ∈ B, b ≠ X
  x : ∃ cs B, CellX G nx X x cs B ∧ ∀ b ∈ B, b ≠ A
theorem XSt.next {H1 G G' : Heap} {nx1 nx nx' A X : Nat} {e x : Ex} (h : XSt H1 nx1 e G nx A X x) (he : Ext nx G nx' G') : XSt H1 nx1 e G' nx' A X x := by
  obtain ⟨ext, hA, hX, ⟨cs, B, a1, a2⟩, ds, D, b1, b2⟩ := h
  have := he.1
  exact ⟨ext.trans he, ⟨hA.1, by omega⟩, ⟨hX.1, by omega, hX.2.2⟩, ⟨cs, B, a1.ext hA.2 he, a2⟩, ds, D, b1.ext hX.2.1 he, b2⟩
theorem XSt.set {H1 G G' : Heap} {nx1 nx A X : Nat} {e x x' : Ex} {cs : List Value} {B : List Nat} (h : XSt H1 nx1 e G nx A X x) (hs : ∀ i, i ≠ X → G' i = G i) (hc : G' X = some (.cells cs 0 none false (some 28))) (hx : ExC G cs x' B) (hnd : B.Nodup) (hb : ∀ b ∈ B, b < nx ∧ b ≠ X ∧ b ≠ A) : XSt H1 nx1 e G' nx A X x' := by
  obtain ⟨ext, hA, hX, ⟨ds, D, a1, a2⟩, -⟩ := h
  refine ⟨⟨ext.1, fun i hi => by rw [hs i (by omega)]; exact ext.2 i hi⟩, hA, hX, ⟨ds, D, ⟨by rw [hs _ (Ne.symm hX.2.2)]; exact a1.cell, a1.ex.same fun b hb => hs b (a2 b hb), a1.nd, a1.lt, a1.ne⟩, a2⟩, cs, B, ⟨hc, hx.same fun b h => hs b (hb b h).2.1, hnd, fun b h => (hb b h).1, fun b h => (hb b h).2.1⟩, fun b h => (hb b h).2.2⟩
attribute [local irreducible] aop OpsL Trip blockExit OpsD OpsK OpsR
set_option maxRecDepth 20000 in
set_option maxHeartbeats 8000000 in
theorem sw0 (W0 : World) {e x : Ex} {H1 H : Heap} {nx1 nx A X : Nat} {tm : Nat → Value} {n : Nat} {v : Int} {lv : Value} (hn0 : n = 127) (h : XSt H1 nx1 e H nx A X x) (t3 : tm 3 = .int .i64 v) (t11 : tm 11 = lv) (t12 : tm 12 = .pointer (some ⟨A, 0, none⟩)) (t13 : tm 13 = .pointer (some ⟨X, 0, none⟩)) {Q : AExit → ASt → Prop}
    (hQ : ∀ tm' nx' H' x', tm' 3 = .int .i64 v → tm' 11 = lv → tm' 12 = .pointer (some ⟨A, 0, none⟩) → tm' 13 = .pointer (some ⟨X, 0, none⟩) → XSt H1 nx1 e H' nx' A X x' → sizeX x' ≤ sizeX x + 0 → Q .normal ⟨tm', n, H', nx'⟩) : Trip Tryd.prog W0 (subX [1, 1, 1, 1, 1, 0, 1, 2, 1, 3] (bodyX Tryd.f3)) ⟨tm, n, H, nx⟩ Q := by
  obtain ⟨cs, B, hc, hcA⟩ := h.x
  obtain ⟨k, s, f, l⟩ := x
  obtain ⟨va, vc, hcs⟩ := hc.ex.cells
  subst hcs
  repeat (first | (refine OpsL.q (by exact omv) ?_) | (refine Trip.ops ?_))
  refine OpsL.new (by subst_vars; decide) (aop_buildSlice (l := [(0, .int .i64 (-1)), (1, .int .i64 0), (2, .int .i64 1), (3, .int .i64 2), (4, .int .i64 3), (5, .int .i64 4), (6, .int .i64 5), (7, .int .i64 6), (8, .int .i64 7), (9, .int .i64 8), (10, .int .i64 v)]) (r := (.slice (some ⟨nx, 0, none⟩) 11 11, .new (.cells (([-1, 0, 1, 2, 3, 4, 5, 6, 7, 8, v] : List Int).map (.int .i64 ·)) 1 none false (some 3)))) (by simp [evParts, ASt.ev, tmPut, plainC, plain1, *]) (by kernel_rfl)) ?_
  obtain ⟨G, hG⟩ : ∃ G, G = H.put nx (.cells (([-1, 0, 1, 2, 3, 4, 5, 6, 7, 8, v] : List Int).map (.int .i64 ·)) 1 none false (some 3)) := ⟨_, rfl⟩
  have x5 : Ext nx H (nx + 1) G := by rw [hG]; exact Ext.newPut
  have hx5 : G nx = some (.cells (([-1, 0, 1, 2, 3, 4, 5, 6, 7, 8, v] : List Int).map (.int .i64 ·)) 1 none false (some 3)) := by rw [hG]; exact Heap.put_eq
  rw [← hG]
  clear hG
  have p0 := Int.emod_nonneg v (show (11 : Int) ≠ 0 by omega)
  have p1 := Int.emod_lt_of_pos v (show (0 : Int) < 11 by omega)
  obtain ⟨j, hj⟩ : ∃ j : Nat, v % 11 = j := ⟨(v % 11).toNat, by omega⟩
  have hjl : j < ([-1, 0, 1, 2, 3, 4, 5, 6, 7, 8, v] : List Int).length := by show j < 11; omega
  have hc5 : cellAt G ⟨nx, 0 + (j : Int).toNat * 1, none⟩ (.int .i64 ([-1, 0, 1, 2, 3, 4, 5, 6, 7, 8, v] : List Int)[j]) := by
    have := cell_of (k := j) (v := .int .i64 ([-1, 0, 1, 2, 3, 4, 5, 6, 7, 8, v] : List Int)[j]) hx5 (by rw [List.getElem?_map, List.getElem?_eq_getElem hjl]; rfl)
    simpa using this
  generalize ([-1, 0, 1, 2, 3, 4, 5, 6, 7, 8, v] : List Int)[j] = z at *
  have h5 := h.next x5
  have c5 := hc.ext h.hX.2.1 x5
  repeat (first | (refine OpsL.q (by exact omv) ?_))
  refine OpsL.c2 (hf := entersWithin5) (hc := (within5C W0 _ _ (by omega) (by omega))) (h := ?_)
  rintro u n6 H6 ⟨rfl, h2', h3'⟩
  subst h2'; subst h3'
  rw [hj]
  repeat (first | (refine OpsL.q (by first | exact oixa | exact ofa | exact old) ?_))
  refine OpsL.storeAt 0 (cs' := [.int .i64 z, .int .i64 s, .int .i64 f, .slice va l.length vc]) (by (first | (simp only [ASt.ev, tmPut, ↓reduceIte, Nat.reduceEqDiff, *]; rfl))) (by (first | (simp only [ASt.ev, tmPut, ↓reduceIte, Nat.reduceEqDiff, *]; rfl))) (by exact rfl) rfl rfl c5.cell rfl (by simp) rfl ?_
  repeat (first | (refine OpsL.nil ?_; (dsimp only)))
  exact hQ _ _ _ (.node z s f l) (by simp [tmPut, *]) (by simp [tmPut, *]) (by simp [tmPut, *]) (by simp [tmPut, *]) (h5.set (fun i hi => Heap.put_ne hi) Heap.put_eq c5.ex.field c5.nd fun b hb => ⟨c5.lt b hb, c5.ne b hb, hcA b hb⟩) (by simp [sizeX])
set_option maxRecDepth 20000 in
set_option maxHeartbeats 8000000 in
theorem sw1 (W0 : World) {e x : Ex} {H1 H : Heap} {nx1 nx A X : Nat} {tm : Nat → Value} {n : Nat} {v : Int} {lv : Value} (hn0 : n = 127) (h : XSt H1 nx1 e H nx A X x) (t3 : tm 3 = .int .i64 v) (t11 : tm 11 = lv) (t12 : tm 12 = .pointer (some ⟨A, 0, none⟩)) (t13 : tm 13 = .pointer (some ⟨X, 0, none⟩)) {Q : AExit → ASt → Prop}
    (hQ : ∀ tm' nx' H' x', tm' 3 = .int .i64 v → tm' 11 = lv → tm' 12 = .pointer (some ⟨A, 0, none⟩) → tm' 13 = .pointer (some ⟨X, 0, none⟩) → XSt H1 nx1 e H' nx' A X x' → sizeX x' ≤ sizeX x + 0 → Q .normal ⟨tm', n, H', nx'⟩) : Trip Tryd.prog W0 (subX [1, 1, 1, 1, 1, 0, 1, 2, 1, 4, 1, 3] (bodyX Tryd.f3)) ⟨tm, n, H, nx⟩ Q := by
  obtain ⟨cs, B, hc, hcA⟩ := h.x
  obtain ⟨k, s, f, l⟩ := x
  obtain ⟨va, vc, hcs⟩ := hc.ex.cells
  subst hcs
  repeat (first | (refine OpsL.q (by exact omv) ?_) | (refine Trip.ops ?_))
  refine OpsL.new (by subst_vars; decide) (aop_buildSlice (l := [(0, .int .i64 (-1)), (1, .int .i64 0), (2, .int .i64 1), (3, .int .i64 2), (4, .int .i64 20), (5, .int .i64 v)]) (r := (.slice (some ⟨nx, 0, none⟩) 6 6, .new (.cells (([-1, 0, 1, 2, 20, v] : List Int).map (.int .i64 ·)) 1 none false (some 3)))) (by simp [evParts, ASt.ev, tmPut, plainC, plain1, *]) (by kernel_rfl)) ?_
  obtain ⟨G, hG⟩ : ∃ G, G = H.put nx (.cells (([-1, 0, 1, 2, 20, v] : List Int).map (.int .i64 ·)) 1 none false (some 3)) := ⟨_, rfl⟩
  have x5 : Ext nx H (nx + 1) G := by rw [hG]; exact Ext.newPut
  have hx5 : G nx = some (.cells (([-1, 0, 1, 2, 20, v] : List Int).map (.int .i64 ·)) 1 none false (some 3)) := by rw [hG]; exact Heap.put_eq
  rw [← hG]
  clear hG
  have p0 := Int.emod_nonneg v (show (6 : Int) ≠ 0 by omega)
  have p1 := Int.emod_lt_of_pos v (show (0 : Int) < 6 by omega)
  obtain ⟨j, hj⟩ : ∃ j : Nat, v % 6 = j := ⟨(v % 6).toNat, by omega⟩
  have hjl : j < ([-1, 0, 1, 2, 20, v] : List Int).length := by show j < 6; omega
  have hc5 : cellAt G ⟨nx, 0 + (j : Int).toNat * 1, none⟩ (.int .i64 ([-1, 0, 1, 2, 20, v] : List Int)[j]) := by
    have := cell_of (k := j) (v := .int .i64 ([-1, 0, 1, 2, 20, v] : List Int)[j]) hx5 (by rw [List.getElem?_map, List.getElem?_eq_getElem hjl]; rfl)
    simpa using this
  generalize ([-1, 0, 1, 2, 20, v] : List Int)[j] = z at *
  have h5 := h.next x5
  have c5 := hc.ext h.hX.2.1 x5
  repeat (first | (refine OpsL.q (by exact omv) ?_))
  refine OpsL.c2 (hf := entersWithin5) (hc := (within5C W0 _ _ (by omega) (by omega))) (h := ?_)
  rintro u n6 H6 ⟨rfl, h2', h3'⟩
  subst h2'; subst h3'
  rw [hj]
  repeat (first | (refine OpsL.q (by first | exact oixa | exact ofa | exact old) ?_))
  refine OpsL.storeAt 1 (cs' := [.int .i64 k, .int .i64 z, .int .i64 f, .slice va l.length vc]) (by (first | (simp only [ASt.ev, tmPut, ↓reduceIte, Nat.reduceEqDiff, *]; rfl))) (by (first | (simp only [ASt.ev, tmPut, ↓reduceIte, Nat.reduceEqDiff, *]; rfl))) (by exact rfl) rfl rfl c5.cell rfl (by simp) rfl ?_
  repeat (first | (refine OpsL.nil ?_; (dsimp only)))
  exact hQ _ _ _ (.node k z f l) (by simp [tmPut, *]) (by simp [tmPut, *]) (by simp [tmPut, *]) (by simp [tmPut, *]) (h5.set (fun i hi => Heap.put_ne hi) Heap.put_eq c5.ex.field c5.nd fun b hb => ⟨c5.lt b hb, c5.ne b hb, hcA b hb⟩) (by simp [sizeX])
set_option maxRecDepth 20000 in
set_option maxHeartbeats 8000000 in
theorem sw2 (W0 : World) {e x : Ex} {H1 H : Heap} {nx1 nx A X : Nat} {tm : Nat → Value} {n : Nat} {v : Int} {lv : Value} (hn0 : n = 127) (h : XSt H1 nx1 e H nx A X x) (t3 : tm 3 = .int .i64 v) (t11 : tm 11 = lv) (t12 : tm 12 = .pointer (some ⟨A, 0, none⟩)) (t13 : tm 13 = .pointer (some ⟨X, 0, none⟩)) {Q : AExit → ASt → Prop}
    (hQ : ∀ tm' nx' H' x', tm' 3 = .int .i64 v → tm' 11 = lv → tm' 12 = .pointer (some ⟨A, 0, none⟩) → tm' 13 = .pointer (some ⟨X, 0, none⟩) → XSt H1 nx1 e H' nx' A X x' → sizeX x' ≤ sizeX x + 0 → Q .normal ⟨tm', n, H', nx'⟩) : Trip Tryd.prog W0 (subX [1, 1, 1, 1, 1, 0, 1, 2, 1, 4, 1, 4, 1, 3] (bodyX Tryd.f3)) ⟨tm, n, H, nx⟩ Q := by
  obtain ⟨cs, B, hc, hcA⟩ := h.x
  obtain ⟨k, s, f, l⟩ := x
  obtain ⟨va, vc, hcs⟩ := hc.ex.cells
  subst hcs
  repeat (first | (refine OpsL.q (by exact omv) ?_) | (refine Trip.ops ?_))
  refine OpsL.new (by subst_vars; decide) (aop_buildSlice (l := [(0, .int .i64 (-1)), (1, .int .i64 0), (2, .int .i64 1), (3, .int .i64 2), (4, .int .i64 20), (5, .int .i64 v)]) (r := (.slice (some ⟨nx, 0, none⟩) 6 6, .new (.cells (([-1, 0, 1, 2, 20, v] : List Int).map (.int .i64 ·)) 1 none false (some 3)))) (by simp [evParts, ASt.ev, tmPut, plainC, plain1, *]) (by kernel_rfl)) ?_
  obtain ⟨G, hG⟩ : ∃ G, G = H.put nx (.cells (([-1, 0, 1, 2, 20, v] : List Int).map (.int .i64 ·)) 1 none false (some 3)) := ⟨_, rfl⟩
  have x5 : Ext nx H (nx + 1) G := by rw [hG]; exact Ext.newPut
  have hx5 : G nx = some (.cells (([-1, 0, 1, 2, 20, v] : List Int).map (.int .i64 ·)) 1 none false (some 3)) := by rw [hG]; exact Heap.put_eq
  rw [← hG]
  clear hG
  have p0 := Int.emod_nonneg v (show (6 : Int) ≠ 0 by omega)
  have p1 := Int.emod_lt_of_pos v (show (0 : Int) < 6 by omega)
  obtain ⟨j, hj⟩ : ∃ j : Nat, v % 6 = j := ⟨(v % 6).toNat, by omega⟩
  have hjl : j < ([-1, 0, 1, 2, 20, v] : List Int).length := by show j < 6; omega
  have hc5 : cellAt G ⟨nx, 0 + (j : Int).toNat * 1, none⟩ (.int .i64 ([-1, 0, 1, 2, 20, v] : List Int)[j]) := by
    have := cell_of (k := j) (v := .int .i64 ([-1, 0, 1, 2, 20, v] : List Int)[j]) hx5 (by rw [List.getElem?_map, List.getElem?_eq_getElem hjl]; rfl)
    simpa using this
  generalize ([-1, 0, 1, 2, 20, v] : List Int)[j] = z at *
  have h5 := h.next x5
  have c5 := hc.ext h.hX.2.1 x5
  repeat (first | (refine OpsL.q (by exact omv) ?_))
  refine OpsL.c2 (hf := entersWithin5) (hc := (within5C W0 _ _ (by omega) (by omega))) (h := ?_)
  rintro u n6 H6 ⟨rfl, h2', h3'⟩
  subst h2'; subst h3'
  rw [hj]
  repeat (first | (refine OpsL.q (by first | exact oixa | exact ofa | exact old) ?_))
  refine OpsL.storeAt 2 (cs' := [.int .i64 k, .int .i64 s, .int .i64 z, .slice va l.length vc]) (by (first | (simp only [ASt.ev, tmPut, ↓reduceIte, Nat.reduceEqDiff, *]; rfl))) (by (first | (simp only [ASt.ev, tmPut, ↓reduceIte, Nat.reduceEqDiff, *]; rfl))) (by exact rfl) rfl rfl c5.cell rfl (by simp) rfl ?_
  repeat (first | (refine OpsL.nil ?_; (dsimp only)))
  exact hQ _ _ _ (.node k s z l) (by simp [tmPut, *]) (by simp [tmPut, *]) (by simp [tmPut, *]) (by simp [tmPut, *]) (h5.set (fun i hi => Heap.put_ne hi) Heap.put_eq c5.ex.field c5.nd fun b hb => ⟨c5.lt b hb, c5.ne b hb, hcA b hb⟩) (by simp [sizeX])
end Go.Proofs.YtmijhkclfoadaaaDoor
