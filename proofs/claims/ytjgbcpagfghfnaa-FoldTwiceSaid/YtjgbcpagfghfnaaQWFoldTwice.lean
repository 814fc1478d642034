/-
  The law FoldTwice of chapter 13 holds for all numbers: a machine each of whose states is there twice is as small as it was.
  Conditions: none beyond the row's own.
-/
import Derived.Test.YtjgbcpagfghfnaaRows
import Derived.Test.YtjgbcpagfghfnaaQWM16
import Derived.Test.YtjgbcpagfghfnaaQWM48
import Derived.Test.YtjgbcpagfghfnaaQWM55
set_option linter.unusedVariables false
set_option linter.unusedSimpArgs false
namespace Go.Proofs.Ytjgbcpagfghfnaa.foldTwice
open Go.Am Go.RowKit Go.ChangeShapes Go.WideShapes Go.ChangeAt
attribute [local irreducible] aop OpsL Trip blockExit OpsD OpsK OpsR OpsQ
set_option maxRecDepth 20000 in
set_option maxHeartbeats 16000000 in
theorem law (W0 : World) {nx : Nat} {H : Heap} {size bits : Int} {nv : Value} {ns : List Int} (hn : IntsAt H nv ns) (hs : -9223372036854775808 ≤ size ∧ size ≤ 9223372036854775807) (hok0 : ∀ id o, H id = some o → id < nx) :
    ACalls Try.prog W0 4 [.int .i64 size, nv, .int .i64 bits] nx H fun v _ _ => v = .bool true := by
  refine ACalls.by_trip (fn := Try.f4) (c := _) Try.func4 rfl (fun tm n hn0 htm => ?_)
  have e0 : tm 0 = .int .i64 size := htm 0
  have e1 : tm 1 = nv := htm 1
  have e2 : tm 2 = .int .i64 bits := htm 2
  clear htm
  replace hn0 : n = 217 := hn0
  repeat (first | (refine OpsL.q (by exact oasg) ?_) | (refine Trip.seq ?_) | (refine Trip.ops ?_) | (refine OpsL.nil ?_; (change Trip _ _ _ _ _)))
  refine OpsL.c0 (hf := entersKnown13) (hc := (knownC W0)) (h := ?_)
  rintro v0 nx0 H0 ⟨rfl, hx0⟩
  dsimp only
  replace hn := hn.ext hx0 hok0
  clear hok0 hx0
  repeat (first | (refine OpsL.q (by exact onot) ?_) | (refine OpsL.nil ?_; (change Trip _ _ _ _ _)))
  refine Trip.ifF ?_
  refine Trip.ok fun hok0 => ?_
  replace hok0 : ∀ id o, H0 id = some o → id < nx0 := hok0
  repeat (first | (refine OpsL.q (by exact omv) ?_) | (refine Trip.seq ?_) | (refine Trip.ops ?_) | (refine Trip.skip ?_; (change Trip _ _ _ _ _)))
  refine OpsL.c2 (hf := entersMake) (hc := (makeC W0 hn hok0 hs)) (h := ?_)
  rintro vm nx1 H1 ⟨V, σ, rfl, rfl, rfl, hold, hm⟩
  have hq := mkP_ok size
  have hgood : modF (makeF size ns) = true := makeQ_ok hq
  have hn30 : (makeF size ns).of.length ≤ 30 := by
    have := hq.n8
    rw [show (makeF size ns).of.length = (mkP size).n from makeQ_len]
    omega
  generalize makeF size ns = m at *
  have hmod := modF_iff.1 hgood
  have hn1 := hmod.n.1
  clear hq hs hgood hold hok0 hn
  refine OpsL.newC .self (aop_alloc (l := moV noMo nilV) (by exact rfl)) (by subst_vars; decide) ?_
  intro σ1 ha x1
  replace hm := hm.keep x1 (by simp)
  refine OpsL.setAllC (vs := moV m V) ha (by exact rfl) rfl rfl hm.one (by (first | (simp only [ASt.ev, tmPut, ↓reduceIte, Nat.reduceEqDiff, *]; done))) (by (first | (simp only [ASt.ev, tmPut, ↓reduceIte, Nat.reduceEqDiff, *]; done))) ?_
  intro σ2 ha2 x2
  replace hm := (hm.keep x2 (by simp)).in
  obtain ⟨A, hA⟩ : ∃ A, σ.nx = A := ⟨_, rfl⟩
  rw [hA] at ha2 ⊢
  have hbox : MoBox σ2.H A m V := MoBox.of ha2.2.2
  clear ha ha2 x1 x2 hA
  refine OpsL.nil ?_
  (change Trip _ _ _ _ _)
  refine Trip.ok fun hok => ?_
  replace hok : ∀ id o, σ2.H id = some o → id < σ2.nx := hok
  obtain ⟨oa, oc, ho⟩ := hm.of.slice
  have c2 := hbox.c2
  rw [ho] at c2
  refine Trip.seq ?_
  refine Trip.ops ?_
  (first | (refine OpsL.q (by exact ofa) ?_))
  (first | (refine OpsL.q (by exact old) ?_))
  (first | (refine OpsL.q (by exact olen) ?_))
  (first | (refine OpsL.q (by exact oasg) ?_))
  refine OpsL.nil ?_
  (change Trip _ _ _ _ _)
  clear c2 ho
  have FA : ∀ {N : Nat} {H' : Heap}, Ext σ2.nx σ2.H N H' → MoBox H' A m V ∧ MoIn H' m V := fun h => ⟨hbox.ext h hok, hm.ext h hok⟩
  refine Trip.seq ?_
  refine twNew (bits := bits) (A := A) W0 hmod hn0 hn30 hok hbox hm (by simp [tmPut, *]) (by simp [tmPut, *]) (by simp [tmPut, *]) ?_
  clear e0 e1 e2
  intro tm τ B V2 t2 t7 t8 t9 hV2 hS
  dsimp only
  refine Trip.seq ?_
  refine Trip.ops ?_
  (first | (refine OpsL.q (by exact oasg) ?_))
  refine OpsL.nil ?_
  (change Trip _ _ _ _ _)
  refine Trip.seq (Trip.seq ?_)
  refine Trip.ops ?_
  (first | (refine OpsL.q (by exact oasg) ?_))
  refine OpsL.nil ?_
  (change Trip _ _ _ _ _)
  refine twC (bits := bits) (A := A) (B := B) (σ0 := ⟨σ2.nx, fun _ => .old, σ2.H⟩) (VM := V) W0 hmod hn0 hn30 FA (by simp [tmPut, *]) (by simp [tmPut, *]) (by simp [tmPut, *]) (by simp [tmPut, *]) (by simp [tmPut, *]) (by simp [tmPut, *]) hV2 hS ?_
  clear t2 t7 t8 t9 hS hV2 hok hbox hm
  intro tm τ V2 I W R t7 t9 hV2 htw hS
  have hTw := htw.twice
  have ho := hS.old.ext
  have hX : MoIn τ.H ⟨m.plains, m.closings, m.of ++ m.of, m.entry, m.final ++ m.final, I, W, R⟩ V2 := by
    refine ⟨hS.of.ints, ?_, hS.fi.bools, OwnLC.at (fun _ _ _ hr => hr.ints) hS.inn, OwnLC.at (fun _ _ _ hr => hr.ints) hS.low, OwnLC.at (fun _ _ _ hr => OwnLC.at (fun _ _ _ hr => hr.ints) hr) hS.ret⟩
    rw [hV2]
    exact (FA ho).2.entry
  have hXb : MoBox τ.H B ⟨m.plains, m.closings, m.of ++ m.of, m.entry, m.final ++ m.final, I, W, R⟩ V2 := MoBox.of hS.b.2.2
  have hmx := twice_ok hmod hn30 hTw
  have hcov := twice_cover hmod hTw
  have hsm := cover_small hmod hmx hcov
  clear htw hTw hS hV2 hcov
  generalize (⟨m.plains, m.closings, m.of ++ m.of, m.entry, m.final ++ m.final, I, W, R⟩ : Mo) = x at *
  dsimp only
  refine Trip.ok fun hok => ?_
  replace hok : ∀ id o, τ.H id = some o → id < τ.nx := hok
  have FX : ∀ {N : Nat} {H' : Heap}, Ext τ.nx τ.H N H' → MoBox H' B x V2 ∧ MoIn H' x V2 := fun h => ⟨hXb.ext h hok, hX.ext h hok⟩
  have FM : ∀ {N : Nat} {H' : Heap}, Ext τ.nx τ.H N H' → MoBox H' A m V ∧ MoIn H' m V := fun h => FA (ho.trans h)
  clear hok hX hXb FA ho
  refine Trip.seq ?_
  refine Trip.ops ?_
  refine OpsL.loadM (FM Ext.refl).1 ?_ (by (first | (simp only [ASt.ev, tmPut, ↓reduceIte, Nat.reduceEqDiff, *]; done))) (by subst_vars; decide)
  refine OpsL.c1 (hf := entersFSmall) (hc := (fSmallC W0 (FM Ext.refl).2 hmod.lens hmod)) (h := ?_)
  rintro v1 N1 H1 ⟨VS, τ1, rfl, rfl, rfl, hx1, hM1⟩
  (first | (refine OpsL.q (by exact omv) ?_))
  (first | (refine OpsL.q (by exact aop_extract (by (first | (simp only [ASt.ev, tmPut, ↓reduceIte, Nat.reduceEqDiff, *]; rfl))) (by exact rfl)) ?_))
  (first | (refine OpsL.q (by exact aop_extract (by (first | (simp only [ASt.ev, tmPut, ↓reduceIte, Nat.reduceEqDiff, *]; rfl))) (by exact rfl)) ?_))
  refine OpsL.newC .self (aop_alloc (l := moV noMo nilV) (by exact rfl)) (by subst_vars; decide) ?_
  intro τ2 hA x2
  replace hx1 := hx1.keep x2 (by simp)
  replace hM1 := hM1.keep x2 (by simp)
  refine OpsL.setAllC (vs := moV (smallF m) VS) hA (by exact rfl) rfl rfl (MoIn.one hM1.in) (by (first | (simp only [ASt.ev, tmPut, ↓reduceIte, Nat.reduceEqDiff, *]; done))) (by (first | (simp only [ASt.ev, tmPut, ↓reduceIte, Nat.reduceEqDiff, *]; rfl))) ?_
  intro τ3 hA3 x3
  replace hx1 := (hx1.keep x3 (by simp)).ext
  replace hM1 := (hM1.keep x3 (by simp)).in
  obtain ⟨C, hC⟩ : ∃ C, τ1.nx = C := ⟨_, rfl⟩
  rw [hC] at hA3 ⊢
  have hb1 : MoBox τ3.H C (smallF m) VS := MoBox.of hA3.2.2
  obtain ⟨sa, sc, hso⟩ := hM1.of.slice
  have c2 := hb1.c2
  rw [hso] at c2
  clear x2 x3 hA hA3 hC hso hM1 hb1
  (first | (refine OpsL.q (by exact oasg) ?_))
  refine OpsL.nil ?_
  (change Trip _ _ _ _ _)
  refine Trip.ok fun hok => ?_
  replace hok : ∀ id o, τ3.H id = some o → id < τ3.nx := hok
  refine Trip.seq ?_
  refine Trip.ops ?_
  refine OpsL.loadM (FX hx1).1 ?_ (by (first | (simp only [ASt.ev, tmPut, ↓reduceIte, Nat.reduceEqDiff, *]; done))) (by subst_vars; decide)
  refine OpsL.c1 (hf := entersFSmall) (hc := (fSmallC W0 (FX hx1).2 hmx.lens hmx)) (h := ?_)
  rintro v1 N1 H1 ⟨VT, τ4, rfl, rfl, rfl, hx4, hM4⟩
  (first | (refine OpsL.q (by exact omv) ?_))
  (first | (refine OpsL.q (by exact aop_extract (by (first | (simp only [ASt.ev, tmPut, ↓reduceIte, Nat.reduceEqDiff, *]; rfl))) (by exact rfl)) ?_))
  (first | (refine OpsL.q (by exact aop_extract (by (first | (simp only [ASt.ev, tmPut, ↓reduceIte, Nat.reduceEqDiff, *]; rfl))) (by exact rfl)) ?_))
  refine OpsL.newC .self (aop_alloc (l := moV noMo nilV) (by exact rfl)) (by subst_vars; decide) ?_
  intro τ5 hA x5
  replace hx4 := hx4.keep x5 (by simp)
  replace hM4 := hM4.keep x5 (by simp)
  refine OpsL.setAllC (vs := moV (smallF x) VT) hA (by exact rfl) rfl rfl (MoIn.one hM4.in) (by (first | (simp only [ASt.ev, tmPut, ↓reduceIte, Nat.reduceEqDiff, *]; done))) (by (first | (simp only [ASt.ev, tmPut, ↓reduceIte, Nat.reduceEqDiff, *]; rfl))) ?_
  intro τ6 hA6 x6
  replace hx4 := (hx4.keep x6 (by simp)).ext
  replace hM4 := (hM4.keep x6 (by simp)).in
  obtain ⟨D, hD⟩ : ∃ D, τ4.nx = D := ⟨_, rfl⟩
  rw [hD] at hA6 ⊢
  have hb4 : MoBox τ6.H D (smallF x) VT := MoBox.of hA6.2.2
  obtain ⟨ta, tc, hto⟩ := hM4.of.slice
  have c4 := hb4.c2
  rw [hto] at c4
  replace c2 := cell_ext hx4 hok c2
  clear x5 x6 hA hA6 hD hto hM4 hb4 FX FM hx4 hx1 hok
  (first | (refine OpsL.q (by exact oasg) ?_))
  refine OpsL.nil ?_
  (change Trip _ _ _ _ _)
  rw [hsm] at c4
  generalize (smallF m).of.length = q at *
  repeat (first | (refine OpsL.q (by exact omv) ?_) | (refine Trip.seq ?_) | (refine Trip.ops ?_))
  refine OpsL.eqlT ?_ (c := rfl)
  repeat (first | (refine OpsL.q (by exact omv) ?_) | (refine OpsL.ung ?_))
  refine OpsL.eqlT ?_ (c := rfl)
  repeat (first | (refine OpsL.q (by first | exact opkT | exact omv | exact ofa | exact old | exact olen) ?_) | (refine OpsL.ung ?_))
  refine OpsL.eqlT ?_ (c := rfl)
  repeat (first | (refine OpsL.q (by first | exact opkT | exact oasg) ?_) | (refine Trip.ret ?_; (dsimp only)) | (refine OpsL.nil ?_; (change Trip _ _ _ _ _)))
  exact ⟨.inr rfl, _, res_tmp, by simp [tmPut]⟩
theorem core (W0 : World) (nx : Nat) (H : Heap) (a0 : Int) (w0 : (Lit.int .i64 a0).wf = true) (x1 : List Int) (w1 : ∀ x ∈ x1, (Lit.int .i64 x).wf = true) (a2 : Int) (w2 : (Lit.int .i64 a2).wf = true) (us : List Value)
    (hat : All2 (Arg.at H) [.plain (.int .i64 a0), .ints .i64 x1, .plain (.int .i64 a2)] us) (hok : ∀ id o, H id = some o → id < nx) : ACalls Try.prog W0 4 us nx H fun v _ _ => v = .bool true := by
  obtain ⟨u0, us, rfl, h0, hat⟩ := hat.cons
  obtain ⟨u1, us, rfl, h1, hat⟩ := hat.cons
  obtain ⟨u2, us, rfl, h2, hat⟩ := hat.cons
  obtain rfl := hat.nil
  obtain rfl : u0 = _ := h0
  obtain rfl : u2 = _ := h2
  exact law W0 h1.1 (wf64 w0) hok
theorem own : ownKnob Try.prog.godebug = none := by kernel_rfl
theorem laidOut : laidOutB Try.prog = true := by kernel_rfl
theorem cells_ints : Try.prog.cellsOf 3 = 1 := by kernel_rfl
set_option maxRecDepth 100000 in
theorem lifted (os : Os) (started : os.Started) (H : Type) (enc : TypeId × Value → H) :
    ReturnsInHanded {} Try.checked os 4 .any (Rows.foldTwiceSpec.pre6 enc Try.prog Try.f4 Rows.foldTwiceRow.domain false) (Rows.foldTwiceSpec.post enc Try.prog Try.f4 false true false false) := by
  refine returnsInHanded_of_change (C := Try.checked) own started (by kernel_rfl) Try.func4
    (ChangeSpec.witness6 (enc := enc) (C := Try.checked) false ⟨#[], #[.int .i64 0, .slice none 0 0, .int .i64 0], []⟩ 8 (by kernel_rfl) (by kernel_rfl) (by kernel_rfl) (by kernel_rfl)) ?_
  intro W base args ds gs before hval0 hW _ _
  have hval : ∀ (j : Nat) t v, Try.f4.params[j]? = some t → args[j]? = some v → Value.okWide Try.prog W .any base t v := hval0
  have hW' := hW
  obtain ⟨p, q, hA0, hV, rfl, _, _⟩ := hW
  have hA : DataW.TrodAll enc Try.prog W 0 (fun _ => true) true Try.f4.params.toList args.toList ds p := hA0
  rw [Try.params4] at hA hval
  obtain ⟨v0, vs0, d0, ds0, p0, q0, hargs, rfl, rfl, h0, r0⟩ := trodAll_cons hA
  obtain ⟨v1, vs1, d1, ds1, p1, q1, rfl, rfl, rfl, h1, r1⟩ := trodAll_cons r0
  obtain ⟨v2, vs2, d2, ds2, p2, q2, rfl, rfl, rfl, h2, r2⟩ := trodAll_cons r1
  obtain ⟨rfl, rfl, rfl⟩ := trodAll_nil r2
  obtain rfl : args = #[v0, v1, v2] := by cases args; simp_all
  obtain ⟨rfl, rfl⟩ := trodVars_none hV
  obtain ⟨a0, rfl, rfl, rfl, w0⟩ := open_int Try.underlying3 (hval 0 3 v0 rfl rfl) h0
  obtain ⟨x1, c1, w1⟩ := came_ints Try.underlying22 Try.underlying3 cells_ints (hval 1 22 v1 rfl rfl) h1
  obtain ⟨a2, rfl, rfl, rfl, w2⟩ := open_int Try.underlying3 (hval 2 3 v2 rfl rfl) h2
  clear hA0 hval0
  refine (law_calls (ars := [.plain (.int .i64 a0), .ints .i64 x1, .plain (.int .i64 a2)]) (vs := [_, _, _]) ⟨⟨rfl, rfl⟩, c1, ⟨rfl, rfl⟩, trivial⟩ (fun nx H us hat hok => core W nx H a0 w0 x1 w1 a2 w2 us hat hok)).mono fun e W' ⟨he, hg⟩ => ?_
  subst he
  exact ⟨_, rfl, law_post laidOut (by kernel_rfl) rfl Try.underlying4 rfl hW' rfl hg⟩
theorem over : Rows.foldTwiceRow.holds Try.pinned (OpenSpec.ofChange Rows.foldTwiceSpec) :=
  OpenClaim.holds_of_wide 4 Try.f4 rfl rfl rfl rfl rfl rfl rfl ⟨rfl, rfl, rfl, rfl, rfl⟩ rfl rfl rfl rfl rfl (by kernel_rfl) Try.func4 (by kernel_rfl)
    (of_decide_eq_true (by kernel_rfl)) (by unfold Func.isWrapper; first | (rw [if_pos (by decide +kernel)]; kernel_rfl) | (rw [if_neg (by decide +kernel)]; exact ⟨rfl, rfl⟩))
    (fun os started H enc _ => lifted os started H enc)
theorem proved : Rows.FoldTwiceSaid := over
end Go.Proofs.Ytjgbcpagfghfnaa.foldTwice
