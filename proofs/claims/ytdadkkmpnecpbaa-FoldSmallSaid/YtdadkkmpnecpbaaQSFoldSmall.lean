/-
  The law FoldSmall of chapter 13 holds for all numbers: the small machine takes the same words; small again it is itself; it has no more states.
  Conditions: none beyond the row's own.
-/
import Derived.Test.YtdadkkmpnecpbaaRows
import Derived.Test.YtdadkkmpnecpbaaQSM17
import Derived.Test.YtdadkkmpnecpbaaQSM49
import Derived.Test.YtdadkkmpnecpbaaQSM51
import Derived.Test.YtdadkkmpnecpbaaQSM54
namespace Go.Am
set_option linter.unusedSimpArgs false
set_option linter.unusedVariables false
set_option linter.unnecessarySimpa false
open Go.RowKit
theorem aop_neqBF13 {P : Program} {H : Heap} {nx : Nat} {pos : String} {type : TypeId} {after : Array Edge} {ev : Operand → Option Value} {dst : Option Tmp} {guard : Option (Nat × Bool)} {t u : TypeId} {x y : Operand} {a b : Bool} (hx : ev x = some (.bool a)) (hy : ev y = some (.bool b)) (hu : P.underlying t = some .bool) (h : a = b) :
    aop P H nx ev ⟨dst, .binOp .neq t x y u, type, pos, after, guard⟩ = some (.bool false, .none) := by
  subst h
  have : aEq P H 60 t (.bool a) (.bool a) = some true := by simp [aEq, hu]
  simp [aop, hx, hy, aBin, eqOk, this]
/-- The front of a row of one's own, whatever else changes. -/
theorem own_front {α : Type} {enc : α → List Value} {sz : Nat} {P : Program} {H : Heap} {ob : Option (Nat × Nat)} {t el : TypeId} {v : Value} {xs : List α} {k : Nat} (hk1 : ∀ x, (enc x).length = sz) (h : OwnOf enc sz el H ob v xs) (hu : P.underlying t = some (.slice el)) (hs : szOf P el = some sz) (hk : k ≤ xs.length) :
    ∃ r, ∀ H2, (∀ b t, ob = some (b, t) → H2 b = H b) → aSlice P H2 t v none (some (.int .i64 k)) none = some r ∧ RowsAt enc sz H2 r (xs.take k) := by
  cases ob with
  | none =>
    obtain ⟨rfl, _, h1⟩ := h
    have hx : xs = [] := List.eq_nil_of_length_eq_zero h1
    subst hx
    have hk0 : k = 0 := by simpa using hk
    subst hk0
    exact ⟨_, fun H2 _ => ⟨aSlice_nil hu hs (.inl ⟨rfl, rfl⟩) (.inr ⟨.i64, rfl⟩), .inl ⟨0, rfl, rfl⟩⟩⟩
  | some bt =>
    obtain ⟨b, tg⟩ := bt
    obtain ⟨rfl, hcl, rest, ho⟩ := h
    refine ⟨.slice (some ⟨b, 0, some tg⟩) k k, fun H2 h2 => ⟨?_, ?_⟩⟩
    · have := aSlice_tagged (P := P) (H := H2) (t := t) hu hs (a := ⟨b, 0, some tg⟩) (len := xs.length) (cap := xs.length) (l := 0) (h := k) (tg := tg) (lo := none) (hi := some (.int .i64 k)) (show H2 b = _ by rw [h2 b tg rfl]; exact ho) rfl rfl rfl (.inl ⟨rfl, rfl⟩) (.inr ⟨.i64, rfl⟩) (Nat.zero_le _) hk
      simpa using this
    · refine .inr ⟨⟨b, 0, some tg⟩, k, by rw [List.length_take]; congr 1; omega, fun i hi => ?_⟩
      rw [List.length_take] at hi
      have hfl := flat_len hk1 xs
      have hle : (i + 1) * sz ≤ xs.length * sz := Nat.mul_le_mul_right _ (by omega)
      rw [Nat.add_mul, Nat.one_mul] at hle
      unfold getc
      simp only [h2 b tg rfl, ho, Nat.zero_add]
      rw [if_pos ⟨trivial, by rw [List.length_append, hfl]; omega⟩, List.drop_append_of_le_length (by rw [hfl]; omega), List.take_append_of_le_length (by rw [List.length_drop, hfl]; omega), flat_at hk1 xs i (by omega), List.getElem_take]
end Go.Am
namespace Go.Proofs.Ytdadkkmpnecpbaa.foldSmall
set_option linter.unusedSimpArgs false
set_option linter.unusedVariables false
set_option linter.unnecessarySimpa false
open Go.Am Go.RowKit Go.ChangeShapes Go.WideShapes Go.ChangeAt
attribute [local irreducible] aop OpsL Trip blockExit OpsD OpsK OpsR OpsQ
set_option maxRecDepth 20000 in
set_option maxHeartbeats 16000000 in
theorem law (W0 : World) {nx : Nat} {H : Heap} {size : Int} {nv wv : Value} {ns ws : List Int} (hn : IntsAt H nv ns) (hws : IntsAt H wv ws) (hs : -9223372036854775808 ≤ size ∧ size ≤ 9223372036854775807) (hok0 : ∀ id o, H id = some o → id < nx) :
    ACalls Try.prog W0 4 [.int .i64 size, nv, wv] nx H fun v _ _ => v = .bool true := by
  refine ACalls.by_trip (fn := Try.f4) (c := _) Try.func4 rfl (fun tm n hn0 htm => ?_)
  have e0 : tm 0 = .int .i64 size := htm 0
  have e1 : tm 1 = nv := htm 1
  have e2 : tm 2 = wv := htm 2
  clear htm
  replace hn0 : n = 81 := hn0
  repeat (first | (refine OpsL.q (by exact oasg) ?_) | (refine Trip.seq ?_) | (refine Trip.ops ?_) | (refine OpsL.nil ?_; (change Trip _ _ _ _ _)))
  refine OpsL.c0 (hf := entersKnown13) (hc := (knownC W0)) (h := ?_)
  rintro v0 nx0 H0 ⟨rfl, hx0⟩
  dsimp only
  replace hn := hn.ext hx0 hok0
  replace hws := hws.ext hx0 hok0
  clear hok0 hx0
  repeat (first | (refine OpsL.q (by exact onot) ?_) | (refine OpsL.nil ?_; (change Trip _ _ _ _ _)))
  refine Trip.ifF ?_
  refine Trip.ok fun hok0 => ?_
  replace hok0 : ∀ id o, H0 id = some o → id < nx0 := hok0
  repeat (first | (refine OpsL.q (by exact omv) ?_) | (refine Trip.seq ?_) | (refine Trip.ops ?_) | (refine Trip.skip ?_; (change Trip _ _ _ _ _)))
  refine OpsL.c2 (hf := entersMake) (hc := (makeC W0 hn hok0 hs)) (h := ?_)
  rintro vm nx1 H1 ⟨V, σ, rfl, rfl, rfl, hold, hm⟩
  have hq := mkP_ok size
  have hgood : modF (makeF size ns) = true := makeQ_ok hq
  generalize makeF size ns = m at *
  have hmod := modF_iff.1 hgood
  have hn60 := hmod.n.2
  have hk2 := hmod.k.2
  have hwI : IntsC .old σ wv ws := by
    have := IntsC.of hws hok0
    rcases this with h1 | ⟨a, k, h1, h2⟩
    · exact .inl h1
    · refine .inr ⟨a, k, h1, fun i hi => ?_⟩
      obtain ⟨⟨q1, q2⟩, q3⟩ := h2 i hi
      exact ⟨⟨Nat.lt_of_lt_of_le q1 hold.1, (hold.2 _ q1).1⟩, cell_same (hold.2 _ q1).2 q3⟩
  obtain ⟨wa, wc, rfl⟩ := hws.slice
  clear hq hs hgood hold hws hok0 hn
  refine OpsL.newC .self (aop_alloc (l := moV noMo nilV) (by exact rfl)) (by subst_vars; decide) ?_
  intro σ1 ha x1
  replace hm := hm.keep x1 (by simp)
  replace hwI := hwI.keep x1 (by simp)
  refine OpsL.setAllC (vs := moV m V) ha (by exact rfl) rfl rfl hm.one (by (first | (simp only [ASt.ev, tmPut, ↓reduceIte, Nat.reduceEqDiff, *]; done))) (by (first | (simp only [ASt.ev, tmPut, ↓reduceIte, Nat.reduceEqDiff, *]; done))) ?_
  intro σ2 ha2 x2
  replace hm := (hm.keep x2 (by simp)).in
  replace hwI := (hwI.keep x2 (by simp)).at
  obtain ⟨A, hA⟩ : ∃ A, σ.nx = A := ⟨_, rfl⟩
  rw [hA] at ha2 ⊢
  obtain ⟨oa, oc, ho⟩ := hm.of.slice
  obtain ⟨ea, ec, he⟩ := hm.entry.slice
  have c2 : cellAt σ2.H ⟨A, 2, none⟩ V.o := ha2.cell rfl
  have c3 : cellAt σ2.H ⟨A, 3, none⟩ V.e := ha2.cell rfl
  rw [ho] at c2
  rw [he] at c3
  have cA : getc σ2.H ⟨A, 0, none⟩ 8 = some (moV m V) := getc_all (m := 8) ha2.2.2 rfl
  clear ha ha2 x1 x2 hA ho he
  refine OpsL.nil ?_
  (change Trip _ _ _ _ _)
  refine Trip.ok fun hok => ?_
  replace hok : ∀ id o, σ2.H id = some o → id < σ2.nx := hok
  have FA : ∀ {N : Nat} {H' : Heap}, Ext σ2.nx σ2.H N H' → getc H' ⟨A, 0, none⟩ 8 = some (moV m V) ∧ MoIn H' m V ∧ IntsAt H' (.slice wa ws.length wc) ws ∧ cellAt H' ⟨A, 2, none⟩ (.slice oa m.of.length oc) ∧ cellAt H' ⟨A, 3, none⟩ (.slice ea m.entry.length ec) := fun h => ⟨getc_ext h hok cA, hm.ext h hok, hwI.ext h hok, cell_ext h hok c2, cell_ext h hok c3⟩
  clear hok cA hm hwI c2 c3
  have hoks := small_ok hmod
  have hlen := small_len hmod
  have htk := takes_small hmod
  have hagain := small_again hmod
  repeat (first | (refine Trip.seq ?_) | (refine Trip.ops ?_))
  refine OpsL.p (by subst_vars; decide) (aop_loadAgg (k := 8) (by (first | (simp only [ASt.ev, tmPut, ↓reduceIte, Nat.reduceEqDiff, *]; done))) (by exact rfl) rfl (by exact rfl) (FA Ext.refl).1) ?_
  refine OpsL.c1 (hf := entersFSmall) (hc := (fSmallC W0 (FA Ext.refl).2.1 hmod.lens hmod)) (h := ?_)
  rintro v1 N1 H1 ⟨VS, τ, rfl, rfl, rfl, ho, hM⟩
  generalize smallF m = m2 at *
  repeat (first | (refine OpsL.q (by first | exact omv | exact aop_extract (by (first | (simp only [ASt.ev, tmPut, ↓reduceIte, Nat.reduceEqDiff, *]; rfl))) (by exact rfl)) ?_))
  refine OpsL.newC .self (aop_alloc (l := moV noMo nilV) (by exact rfl)) (by subst_vars; decide) ?_
  intro τ1 hA x
  obtain ⟨B, hb⟩ : ∃ b, τ.nx = b := ⟨_, rfl⟩
  rw [hb] at hA ⊢
  clear hb
  replace ho := ho.keep x (by simp)
  replace hM := hM.keep x (by simp)
  clear x
  refine OpsL.setAllC (vs := moV m2 VS) hA (by exact rfl) rfl rfl (MoIn.one hM.in) (by (first | (simp only [ASt.ev, tmPut, ↓reduceIte, Nat.reduceEqDiff, *]; done))) (by (first | (simp only [ASt.ev, tmPut, ↓reduceIte, Nat.reduceEqDiff, *]; rfl))) ?_
  intro τ2 hA2 x
  replace ho := (ho.keep x (by simp)).ext
  have hS := (hM.keep x (by simp)).in
  obtain ⟨sa, sc, hso⟩ := hS.of.slice
  obtain ⟨ta, tc, hse⟩ := hS.entry.slice
  have c2 : cellAt τ2.H ⟨B, 2, none⟩ VS.o := hA2.cell rfl
  have c3 : cellAt τ2.H ⟨B, 3, none⟩ VS.e := hA2.cell rfl
  rw [hso] at c2
  rw [hse] at c3
  have cB : getc τ2.H ⟨B, 0, none⟩ 8 = some (moV m2 VS) := getc_all (m := 8) hA2.2.2 rfl
  clear x hA hA2 hM hso hse
  (first | (refine OpsL.q (by exact oasg) ?_))
  refine OpsL.nil ?_
  (change Trip _ _ _ _ _)
  refine Trip.ok fun hok => ?_
  replace hok : ∀ id o, τ2.H id = some o → id < τ2.nx := hok
  have FB : ∀ {N : Nat} {H' : Heap}, Ext τ2.nx τ2.H N H' → getc H' ⟨B, 0, none⟩ 8 = some (moV m2 VS) ∧ MoIn H' m2 VS ∧ cellAt H' ⟨B, 2, none⟩ (.slice sa m2.of.length sc) ∧ cellAt H' ⟨B, 3, none⟩ (.slice ta m2.entry.length tc) := fun h => ⟨getc_ext h hok cB, hS.ext h hok, cell_ext h hok c2, cell_ext h hok c3⟩
  clear hok cB hS c2 c3
  replace FA : ∀ {N : Nat} {H' : Heap}, Ext τ2.nx τ2.H N H' → getc H' ⟨A, 0, none⟩ 8 = some (moV m V) ∧ MoIn H' m V ∧ IntsAt H' (.slice wa ws.length wc) ws ∧ cellAt H' ⟨A, 2, none⟩ (.slice oa m.of.length oc) ∧ cellAt H' ⟨A, 3, none⟩ (.slice ea m.entry.length ec) := fun h => FA (ho.trans h)
  clear ho
  obtain ⟨hl1, hl2⟩ := hlen
  replace hl2 : m2.entry.length ≤ m.entry.length ∧ m.entry.length ≤ m2.entry.length := by omega
  repeat (first | (refine OpsL.q (by exact omv) ?_) | (refine Trip.seq ?_) | (refine Trip.ops ?_))
  refine OpsL.neqF ?_ (c := rfl)
  repeat (first | (refine OpsL.q (by exact omv) ?_) | (refine OpsL.ung ?_))
  refine OpsL.p (by subst_vars; decide) (aop_loadAgg (k := 8) (by (first | (simp only [ASt.ev, tmPut, ↓reduceIte, Nat.reduceEqDiff, *]; done))) (by exact rfl) rfl (by exact rfl) (FB Ext.refl).1) ?_
  repeat (first | (refine OpsL.ung ?_))
  refine OpsL.c1 (hf := entersRCheck) (hc := (rcheckC W0 (FB Ext.refl).2.1 hoks.lens)) (h := ?_)
  rintro v2 N2 H2 ⟨rfl, z2⟩
  rw [modF_iff.2 hoks, if_pos rfl]
  have w1 := (FA z2).2.2.2.1
  have w2 := (FA z2).2.2.2.2
  have w3 := (FB z2).2.2.1
  have w4 := (FB z2).2.2.2
  repeat (first | (refine OpsL.ung ?_))
  refine OpsL.neqF ?_ (c := rfl)
  repeat (first | (refine OpsL.q (by first | exact opkF | exact omv | exact ofa | exact old | exact olen) ?_) | (refine OpsL.ung ?_))
  refine OpsL.gtrF ?_
  repeat (first | (refine OpsL.q (by first | exact opkF | exact omv | exact ofa | exact old | exact olen) ?_) | (refine OpsL.ung ?_))
  refine OpsL.neqF ?_
  repeat (first | (refine OpsL.q (by exact opkF) ?_) | (refine OpsL.nil ?_; (change Trip _ _ _ _ _)))
  refine Trip.ifF ?_
  clear w1 w2 w3 w4
  repeat (first | (refine Trip.seq ?_) | (refine Trip.ops ?_) | (refine Trip.skip ?_; (change Trip _ _ _ _ _)))
  refine OpsL.p (by subst_vars; decide) (aop_loadAgg (k := 8) (by (first | (simp only [ASt.ev, tmPut, ↓reduceIte, Nat.reduceEqDiff, *]; done))) (by exact rfl) rfl (by exact rfl) (FA z2).1) ?_
  repeat (first | (refine OpsL.q (by exact omv) ?_))
  refine OpsL.c3 (hf := entersLWord) (hc := (lwordC W0 (FA z2).2.1 hmod (FA z2).2.2.1 (most := 24) (by omega))) (h := ?_)
  rintro wv nx3 H3 ⟨w, ob, hwl, how, hob, z3⟩
  have hsl : ∃ a c, wv = .slice a w.length c := by
    cases ob with
    | none => obtain ⟨rfl, _, h1⟩ := how; exact ⟨none, 0, by rw [h1]⟩
    | some bt => obtain ⟨b, t⟩ := bt; obtain ⟨rfl, _⟩ := how; exact ⟨_, _, rfl⟩
  obtain ⟨wa2, wc2, rfl⟩ := hsl
  have hob2 : ∀ {nx' : Nat} {H' : Heap}, Ext nx3 H3 nx' H' → ∀ b t, ob = some (b, t) → H' b = H3 b := fun hx b t e => hx.2 _ (hob b t e).2
  have z23 := z2.trans z3
  clear hob
  repeat (first | (refine OpsL.q (by exact oasg) ?_) | (refine Trip.seq ?_) | (refine Trip.ops ?_) | (refine Trip.block ?_) | (refine OpsL.nil ?_; (change Trip _ _ _ _ _)))
  refine Trip.inv (fun (i : Nat) s => ∃ (tm : Nat → Value) (nx : Nat) (H : Heap), s = ⟨tm, n, H, nx⟩ ∧ tm 7 = .pointer (some ⟨A, 0, none⟩) ∧ tm 10 = .slice wa2 w.length wc2 ∧ tm 8 = .pointer (some ⟨B, 0, none⟩) ∧ tm 11 = .int .i64 i ∧ i ≤ w.length + 1 ∧ Ext nx3 H3 nx H) (fun i => w.length + 1 - i) 0 ?_ ?_
  · exact ⟨_, nx3, H3, rfl, by simp [tmPut, *], by simp [tmPut, *], by simp [tmPut, *], by simp [tmPut, *], by omega, Ext.refl⟩
  clear e0 e1 e2
  rintro i s ⟨tm, nx, H, rfl, t7, t10, t8, t11, hi, hx⟩
  repeat (first | (refine OpsL.q (by first | exact omv | exact olen | exact oleq) ?_) | (refine Trip.seq ?_) | (refine Trip.ops ?_) | (refine Trip.block ?_) | (refine Trip.itA (fun _ => ?_) (fun _ => ?_)) | (refine Trip.skip ?_; (change Trip _ _ _ _ _)) | (refine OpsL.nil ?_; (change Trip _ _ _ _ _)))
  · have hle : i ≤ w.length := by omega
    obtain ⟨r, hr⟩ := own_front (P := Try.prog) (enc := encPr) (sz := 2) (t := 23) (k := i) (fun _ => rfl) how (by exact rfl) (by exact rfl) hle
    have hwl2 : (w.take i).length ≤ 50000 := by rw [List.length_take]; omega
    have htki := htk (w.take i)
    refine Trip.mono (Q := fun e st => e = .normal ∧ ∃ (tm' : Nat → Value) (nx : Nat) (H : Heap), st = ⟨tm', n, H, nx⟩ ∧ tm' 7 = .pointer (some ⟨A, 0, none⟩) ∧ tm' 10 = .slice wa2 w.length wc2 ∧ tm' 8 = .pointer (some ⟨B, 0, none⟩) ∧ tm' 11 = .int .i64 i ∧ tm' 68 = .bool false ∧ Ext nx3 H3 nx H) ?_ ?_
    · refine OpsQ.drawn [4, 9] (K := fun _ nn HH => Ext nx3 H3 nn HH) mixed13 (by kernel_rfl) (by kernel_rfl) [0, 1, 2, 3, 5, 6, 7, 8, 4, 9, 10] (by kernel_rfl) (fun _ _ => hx) ?_
      refine OpsQ.sp 4 (v := .agg (moV m V).toArray) rfl (by kernel_rfl) (by subst_vars; decide) hx (fun H2 nx2 hK => aop_loadAgg (k := 8) (by (first | (simp only [ASt.ev, tmPut, ↓reduceIte, Nat.reduceEqDiff, *]; done))) (by exact rfl) rfl (by exact rfl) (FA (z23.trans hK)).1) ?_
      refine OpsQ.one rfl rfl rfl (by kernel_rfl) ?_
      repeat (first | (refine OpsL.q (by exact omv) ?_) | (refine OpsL.nil ?_; (skip)))
      refine OpsQ.one rfl rfl rfl (by kernel_rfl) ?_
      repeat (first | (refine OpsL.q (by exact omv) ?_) | (refine OpsL.nil ?_; (skip)))
      refine OpsQ.sp 4 (v := r) rfl (by kernel_rfl) (by subst_vars; decide) hx (fun H2 nx2 hK => aop_slice (by (first | (simp only [ASt.ev, tmPut, ↓reduceIte, Nat.reduceEqDiff, *]; done))) rfl (by (first | (simp only [ASt.ev, tmPut, ↓reduceIte, Nat.reduceEqDiff, *]; rfl))) rfl (hr H2 (hob2 hK)).1) ?_
      refine OpsQ.sp 9 (v := .agg (moV m2 VS).toArray) rfl (by kernel_rfl) (by subst_vars; decide) hx (fun H2 nx2 hK => aop_loadAgg (k := 8) (by (first | (simp only [ASt.ev, tmPut, ↓reduceIte, Nat.reduceEqDiff, *]; done))) (by exact rfl) rfl (by exact rfl) (FB (z23.trans hK)).1) ?_
      refine OpsQ.one rfl rfl rfl (by kernel_rfl) ?_
      repeat (first | (refine OpsL.q (by exact omv) ?_) | (refine OpsL.nil ?_; (skip)))
      refine OpsQ.one rfl rfl rfl (by kernel_rfl) ?_
      repeat (first | (refine OpsL.q (by exact omv) ?_) | (refine OpsL.nil ?_; (skip)))
      refine OpsQ.sp 9 (v := r) rfl (by kernel_rfl) (by subst_vars; decide) hx (fun H2 nx2 hK => aop_slice (by (first | (simp only [ASt.ev, tmPut, ↓reduceIte, Nat.reduceEqDiff, *]; done))) rfl (by (first | (simp only [ASt.ev, tmPut, ↓reduceIte, Nat.reduceEqDiff, *]; rfl))) rfl (hr H2 (hob2 hK)).1) ?_
      refine OpsQ.act (by kernel_rfl) (ActStep.walk rfl rfl ?_)
      refine OpsL.c2 (hf := entersFTakes) (hc := (fTakesC W0 (FA (z23.trans hx)).2.1 hmod.lens hmod (hr H (hob2 hx)).2 hwl2)) (h := ?_)
      rintro v1 nx1 H1 ⟨rfl, hx1⟩
      replace hx1 := hx.trans hx1
      refine OpsL.nil ⟨fun _ _ => hx1, ?_⟩
      refine OpsQ.act (by kernel_rfl) (ActStep.walk rfl rfl ?_)
      refine OpsL.c2 (hf := entersFTakes) (hc := (fTakesC W0 (FB (z23.trans hx1)).2.1 hoks.lens hoks (hr H1 (hob2 hx1)).2 hwl2)) (h := ?_)
      rintro v2 nx2 H2 ⟨rfl, hx2⟩
      replace hx2 := hx1.trans hx2
      rw [htki]
      refine OpsL.nil ⟨fun _ _ => hx2, ?_⟩
      refine OpsQ.one rfl rfl rfl (by kernel_rfl) ?_
      refine OpsL.p (by subst_vars; decide) (aop_neqBF13 (a := takesF m (w.take i)) (b := takesF m (w.take i)) (by (first | (simp only [ASt.ev, tmPut, ↓reduceIte, Nat.reduceEqDiff, *]; done))) (by (first | (simp only [ASt.ev, tmPut, ↓reduceIte, Nat.reduceEqDiff, *]; done))) (by exact rfl) rfl) ?_
      refine OpsL.nil ?_
      refine OpsQ.nil ?_
      exact ⟨rfl, _, nx2, H2, rfl, by simp [tmPut, *], by simp [tmPut, *], by simp [tmPut, *], by simp [tmPut, *], by simp [tmPut, *], hx2⟩
    clear t7 t10 t8 t11 hx
    rintro e st ⟨rfl, tm, nx, H, rfl, t7, t10, t8, t11, t68, hx⟩
    (change Trip _ _ _ _ _)
    refine Trip.ifF ?_
    repeat (first | (refine OpsL.q (by first | exact omv | exact oadd | exact oasg) ?_) | (refine Trip.ops ?_) | (refine Trip.skip ?_; ((repeat (refine blockExit_normal ?_)); change Trip _ _ _ _ _)) | (refine OpsL.nil ?_; (dsimp only)))
    exact ⟨i + 1, ⟨_, nx, H, rfl, by simp [tmPut, *], by simp [tmPut, *], by simp [tmPut, *], by simp [tmPut, *], by omega, hx⟩, by omega⟩
  · have zz := z23.trans hx
    repeat (first | (refine Trip.seq ?_) | (refine Trip.ops ?_) | (refine Trip.exit ?_; ((repeat (refine blockExit_eq ?_)); change Trip _ _ _ _ _)))
    refine OpsL.p (by subst_vars; decide) (aop_loadAgg (k := 8) (by (first | (simp only [ASt.ev, tmPut, ↓reduceIte, Nat.reduceEqDiff, *]; done))) (by exact rfl) rfl (by exact rfl) (FB zz).1) ?_
    refine OpsL.c1 (hf := entersFSmall) (hc := (fSmallC W0 (FB zz).2.1 hoks.lens hoks)) (h := ?_)
    rintro v1 N1 H1 ⟨VT, τ, rfl, rfl, rfl, ho, hM⟩
    rw [hagain] at hM ⊢
    repeat (first | (refine OpsL.q (by first | exact omv | exact aop_extract (by (first | (simp only [ASt.ev, tmPut, ↓reduceIte, Nat.reduceEqDiff, *]; rfl))) (by exact rfl)) ?_))
    refine OpsL.newC .self (aop_alloc (l := moV noMo nilV) (by exact rfl)) (by subst_vars; decide) ?_
    intro τ3 hA x
    obtain ⟨T, hb⟩ : ∃ b, τ.nx = b := ⟨_, rfl⟩
    rw [hb] at hA ⊢
    clear hb
    replace ho := ho.keep x (by simp)
    replace hM := hM.keep x (by simp)
    clear x
    refine OpsL.setAllC (vs := moV m2 VT) hA (by exact rfl) rfl rfl (MoIn.one hM.in) (by (first | (simp only [ASt.ev, tmPut, ↓reduceIte, Nat.reduceEqDiff, *]; done))) (by (first | (simp only [ASt.ev, tmPut, ↓reduceIte, Nat.reduceEqDiff, *]; rfl))) ?_
    intro τ4 hA4 x
    replace ho := (ho.keep x (by simp)).ext
    have hT := (hM.keep x (by simp)).in
    have cT : getc τ4.H ⟨T, 0, none⟩ 8 = some (moV m2 VT) := getc_all (m := 8) hA4.2.2 rfl
    replace zz := zz.trans ho
    clear x hA hA4 hM ho
    repeat (first | (refine OpsL.q (by first | exact oasg | exact omv) ?_) | (refine Trip.seq ?_) | (refine Trip.ops ?_) | (refine OpsL.nil ?_; (change Trip _ _ _ _ _)))
    refine OpsL.eqlT ?_ (c := rfl)
    repeat (first | (refine OpsL.q (by exact omv) ?_) | (refine OpsL.ung ?_))
    refine OpsL.p (by subst_vars; decide) (aop_loadAgg (k := 8) (by (first | (simp only [ASt.ev, tmPut, ↓reduceIte, Nat.reduceEqDiff, *]; done))) (by exact rfl) rfl (by exact rfl) cT) ?_
    repeat (first | (refine OpsL.ung ?_))
    refine OpsL.p (by subst_vars; decide) (aop_loadAgg (k := 8) (by (first | (simp only [ASt.ev, tmPut, ↓reduceIte, Nat.reduceEqDiff, *]; done))) (by exact rfl) rfl (by exact rfl) (FB zz).1) ?_
    repeat (first | (refine OpsL.ung ?_))
    refine OpsL.c2 (hf := entersRefSame) (hc := (refSameC W0 hT (FB zz).2.1 hoks.lens)) (h := ?_)
    rintro v4 N8 H8 ⟨d, rfl, hd, z9⟩
    have hdt := hd.2 rfl
    subst hdt
    repeat (first | (refine OpsL.q (by first | exact opkT | exact oasg) ?_) | (refine Trip.ret ?_; (skip)) | (refine OpsL.nil ?_; (change Trip _ _ _ _ _)))
    exact ⟨.inr rfl, _, res_tmp, by simp [tmPut]⟩
theorem core (W0 : World) (nx : Nat) (H : Heap) (a0 : Int) (w0 : (Lit.int .i64 a0).wf = true) (x1 : List Int) (w1 : ∀ x ∈ x1, (Lit.int .i64 x).wf = true) (x2 : List Int) (w2 : ∀ x ∈ x2, (Lit.int .i64 x).wf = true) (us : List Value)
    (hat : All2 (Arg.at H) [.plain (.int .i64 a0), .ints .i64 x1, .ints .i64 x2] us) (hok : ∀ id o, H id = some o → id < nx) : ACalls Try.prog W0 4 us nx H fun v _ _ => v = .bool true := by
  obtain ⟨u0, us, rfl, h0, hat⟩ := hat.cons
  obtain ⟨u1, us, rfl, h1, hat⟩ := hat.cons
  obtain ⟨u2, us, rfl, h2, hat⟩ := hat.cons
  obtain rfl := hat.nil
  obtain rfl : u0 = _ := h0
  exact law W0 h1.1 h2.1 (wf64 w0) hok
theorem own : ownKnob Try.prog.godebug = none := by kernel_rfl
theorem laidOut : laidOutB Try.prog = true := by kernel_rfl
theorem cells_ints : Try.prog.cellsOf 3 = 1 := by kernel_rfl
set_option maxRecDepth 100000 in
theorem lifted (os : Os) (started : os.Started) (H : Type) (enc : TypeId × Value → H) :
    ReturnsInHanded {} Try.checked os 4 .any (Rows.foldSmallSpec.pre6 enc Try.prog Try.f4 Rows.foldSmallRow.domain false) (Rows.foldSmallSpec.post enc Try.prog Try.f4 false true false false) := by
  refine returnsInHanded_of_change (C := Try.checked) own started (by kernel_rfl) Try.func4
    (ChangeSpec.witness6 (enc := enc) (C := Try.checked) false ⟨#[], #[.int .i64 0, .slice none 0 0, .slice none 0 0], []⟩ 8 (by kernel_rfl) (by kernel_rfl) (by kernel_rfl) (by kernel_rfl)) ?_
  intro W base args ds gs before hval0 hW _ _
  have hval : ∀ (j : Nat) t v, Try.f4.params[j]? = some t → args[j]? = some v → Value.okWide Try.prog W .any base t v := hval0
  have hW' := hW
  obtain ⟨p, q, hA0, hV, rfl, _, _⟩ := hW
  have hA : DataW.TrodAll enc Try.prog W 0 (fun _ => true) true Try.f4.params.toList args.toList ds p := hA0
  rw [Try.params4] at hA hval
  obtain ⟨v0, vs0, d0, ds0, p0, q0, hargs, rfl, rfl, h0, r0⟩ := trodAll_cons hA
  obtain ⟨v1, vs1, d1, ds1, p1, q1, rfl, rfl, rfl, h1, r1⟩ := trodAll_cons r0
  obtain ⟨v2, vs2, d2, ds2, p2, q2, rfl, rfl, rfl, h2, r2⟩ := trodAll_cons r1
  obtain ⟨rfl, rfl, rfl⟩ := trodAll_nil r2
  obtain rfl : args = #[v0, v1, v2] := by cases args; simp_all
  obtain ⟨rfl, rfl⟩ := trodVars_none hV
  obtain ⟨a0, rfl, rfl, rfl, w0⟩ := open_int Try.underlying3 (hval 0 3 v0 rfl rfl) h0
  obtain ⟨x1, c1, w1⟩ := came_ints Try.underlying22 Try.underlying3 cells_ints (hval 1 22 v1 rfl rfl) h1
  obtain ⟨x2, c2, w2⟩ := came_ints Try.underlying22 Try.underlying3 cells_ints (hval 2 22 v2 rfl rfl) h2
  clear hA0 hval0
  refine (law_calls (ars := [.plain (.int .i64 a0), .ints .i64 x1, .ints .i64 x2]) (vs := [_, _, _]) ⟨⟨rfl, rfl⟩, c1, c2, trivial⟩ (fun nx H us hat hok => core W nx H a0 w0 x1 w1 x2 w2 us hat hok)).mono fun e W' ⟨he, hg⟩ => ?_
  subst he
  exact ⟨_, rfl, law_post laidOut (by kernel_rfl) rfl Try.underlying4 rfl hW' rfl hg⟩
theorem over : Rows.foldSmallRow.holds Try.pinned (OpenSpec.ofChange Rows.foldSmallSpec) :=
  OpenClaim.holds_of_wide 4 Try.f4 rfl rfl rfl rfl rfl rfl rfl ⟨rfl, rfl, rfl, rfl, rfl⟩ rfl rfl rfl rfl rfl (by kernel_rfl) Try.func4 (by kernel_rfl)
    (of_decide_eq_true (by kernel_rfl)) (by unfold Func.isWrapper; first | (rw [if_pos (by decide +kernel)]; kernel_rfl) | (rw [if_neg (by decide +kernel)]; exact ⟨rfl, rfl⟩))
    (fun os started H enc _ => lifted os started H enc)
theorem proved : Rows.FoldSmallSaid := over
end Go.Proofs.Ytdadkkmpnecpbaa.foldSmall
