/-
  The law FoldApart of chapter 13 holds for all numbers: states of one class take the same words.
  Conditions: none beyond the row's own.
-/
import Derived.Test.YtdadkkmpnecpbaaRows
import Derived.Test.YtdadkkmpnecpbaaQAM17
import Derived.Test.YtdadkkmpnecpbaaQAM49
import Derived.Test.YtdadkkmpnecpbaaQAM50
namespace Go.Proofs.Ytdadkkmpnecpbaa.foldApart
set_option linter.unusedSimpArgs false
set_option linter.unusedVariables false
open Go.Am Go.RowKit Go.ChangeShapes Go.WideShapes Go.ChangeAt
attribute [local irreducible] aop OpsL Trip blockExit OpsD OpsK OpsR OpsQ
theorem keepN {S : List Co} {σ τ : CH} {m : Mo} {V : MoV} (hx : Chg S σ τ) (hS : ∀ c ∈ S, c = .next ∨ c = .table ∨ c = .tab 0 ∨ c = .tab 1) (h : MkO σ m V) : MkO τ m V := by
  have hn : ∀ c : Co, c ≠ .next → c ≠ .table → c ≠ .tab 0 → c ≠ .tab 1 → c ∉ S := fun c h1 h2 h3 h4 hc => by rcases hS c hc with e | e | e | e; exact h1 e; exact h2 e; exact h3 e; exact h4 e
  exact ⟨h.of.keep hx (hn _ (by simp) (by simp) (by simp) (by simp)), h.en.keep hx (hn _ (by simp) (by simp) (by simp) (by simp)), h.fi.keep hx (hn _ (by simp) (by simp) (by simp) (by simp)), Row2.keepL hx (hn _ (by simp) (by simp) (by simp) (by simp)) (fun _ _ => hn _ (by simp) (by simp) (by simp) (by simp)) h.inn, Row2.keepL hx (hn _ (by simp) (by simp) (by simp) (by simp)) (fun _ _ => hn _ (by simp) (by simp) (by simp) (by simp)) h.low, Row3.keepL hx (hn _ (by simp) (by simp) (by simp) (by simp)) (fun _ _ => hn _ (by simp) (by simp) (by simp) (by simp)) (fun _ _ _ => hn _ (by simp) (by simp) (by simp) (by simp)) h.ret⟩
theorem newInts {el : TypeId} {nx nx' : Nat} {H' : Heap} {v : Value} {l : List Int} (h : NewP el nx nx' H' v (l.map (.int .i64 ·))) : ∃ b, nx ≤ b ∧ b < nx' ∧ v = .slice (some ⟨b, 0, none⟩) l.length l.length ∧ H' b = some (.cells (l.map (.int .i64 ·)) 1 none false (some el)) := by
  obtain ⟨b, h1, h2, h3, h4⟩ := h
  rw [List.length_map] at h3
  exact ⟨b, h1, h2, h3, h4⟩
theorem intCellI {H : Heap} {b : Nat} {el : TypeId} {l : List Int} {i : Int} (h : H b = some (.cells (l.map (.int .i64 ·)) 1 none false (some el))) (h0 : 0 ≤ i) (hi : i < l.length) : cellAt H ⟨b, 0 + i.toNat * 1, none⟩ (.int .i64 (l.getD i.toNat 0)) := by
  rw [Nat.zero_add, Nat.mul_one]
  exact cell_of h (by rw [List.getElem?_map, List.getElem?_eq_getElem (by omega), List.getD_eq_getElem?_getD, List.getElem?_eq_getElem (by omega)]; rfl)
set_option maxRecDepth 20000 in
set_option maxHeartbeats 16000000 in
theorem law (W0 : World) {nx : Nat} {H : Heap} {size p q : Int} {nv wv : Value} {ns ws : List Int} (hn : IntsAt H nv ns) (hws : IntsAt H wv ws) (hs : -9223372036854775808 ≤ size ∧ size ≤ 9223372036854775807) (hok0 : ∀ id o, H id = some o → id < nx) :
    ACalls Try.prog W0 6 [.int .i64 size, nv, .int .i64 p, .int .i64 q, wv] nx H fun v _ _ => v = .bool true := by
  refine ACalls.by_trip (fn := Try.f6) (c := _) Try.func6 rfl (fun tm n hn0 htm => ?_)
  have e0 : tm 0 = .int .i64 size := htm 0
  have e1 : tm 1 = nv := htm 1
  have e2 : tm 2 = .int .i64 p := htm 2
  have e3 : tm 3 = .int .i64 q := htm 3
  have e4 : tm 4 = wv := htm 4
  clear htm
  replace hn0 : n = 93 := hn0
  repeat (first | (refine OpsL.q (by exact oasg) ?_) | (refine Trip.seq ?_) | (refine Trip.ops ?_) | (refine OpsL.nil ?_; (change Trip _ _ _ _ _)))
  refine OpsL.c0 (hf := entersKnown13) (hc := (knownC W0)) (h := ?_)
  rintro v0 nx0 H0 ⟨rfl, hx0⟩
  dsimp only
  replace hn := hn.ext hx0 hok0
  replace hws := hws.ext hx0 hok0
  clear hok0 hx0
  repeat (first | (refine OpsL.q (by exact onot) ?_) | (refine OpsL.nil ?_; (change Trip _ _ _ _ _)))
  refine Trip.ifF ?_
  refine Trip.ok fun hok0 => ?_
  replace hok0 : ∀ id o, H0 id = some o → id < nx0 := hok0
  repeat (first | (refine OpsL.q (by exact omv) ?_) | (refine Trip.seq ?_) | (refine Trip.ops ?_) | (refine Trip.skip ?_; (change Trip _ _ _ _ _)))
  refine OpsL.c2 (hf := entersMake) (hc := (makeC W0 hn hok0 hs)) (h := ?_)
  rintro vm nx1 H1 ⟨V, σ, rfl, rfl, rfl, hold, hm⟩
  have hq := mkP_ok size
  have hgood : modF (makeF size ns) = true := makeQ_ok hq
  have hlen : MoLen (makeF size ns) := makeQ_MoLen hq
  generalize makeF size ns = m at *
  have hmod := modF_iff.1 hgood
  have hn60 := hmod.n.2
  have hn1 := hmod.n.1
  have hk1 := hmod.k.1
  have hk2 := hmod.k.2
  clear hq hs
  have hwI : IntsC .old σ wv ws := by
    have := IntsC.of hws hok0
    rcases this with h1 | ⟨a, k, h1, h2⟩
    · exact .inl h1
    · refine .inr ⟨a, k, h1, fun i hi => ?_⟩
      obtain ⟨⟨q1, q2⟩, q3⟩ := h2 i hi
      exact ⟨⟨Nat.lt_of_lt_of_le q1 hold.1, (hold.2 _ q1).1⟩, cell_same (hold.2 _ q1).2 q3⟩
  obtain ⟨wa, wc, rfl⟩ := hws.slice
  clear hold hws hok0 hn
  refine OpsL.newC .self (aop_alloc (l := moV noMo nilV) (by exact rfl)) (by subst_vars; decide) ?_
  intro σ1 ha x1
  replace hm := hm.keep x1 (by simp)
  replace hwI := hwI.keep x1 (by simp)
  refine OpsL.setAllC (vs := moV m V) ha (by exact rfl) rfl rfl hm.one (by (first | (simp only [ASt.ev, tmPut, ↓reduceIte, Nat.reduceEqDiff, *]; done))) (by (first | (simp only [ASt.ev, tmPut, ↓reduceIte, Nat.reduceEqDiff, *]; done))) ?_
  intro σ2 ha2 x2
  replace hm := hm.keep x2 (by simp)
  replace hwI := hwI.keep x2 (by simp)
  obtain ⟨A, hA⟩ : ∃ A, σ.nx = A := ⟨_, rfl⟩
  rw [hA] at ha2 ⊢
  clear ha x1 x2 hA
  have hbA : ∀ {τ : CH}, ObC .self τ A (.cells (moV m V) 0 none false (some 29)) → MoBox τ.H A m V := fun h => MoBox.of h.2.2
  repeat (first | (refine Trip.seq ?_) | (refine Trip.ops ?_) | (refine OpsL.nil ?_; (change Trip _ _ _ _ _)))
  refine OpsL.p (by subst_vars; decide) (aop_loadAgg (k := 8) (by (first | (simp only [ASt.ev, tmPut, ↓reduceIte, Nat.reduceEqDiff, *]; done))) (by exact rfl) rfl (by exact rfl) (hbA ha2).all) ?_
  refine OpsL.c1 (hf := entersFClasses) (hc := (fClassesC W0 hm.in hlen hmod)) (h := ?_)
  rintro v1 nx1 H1 ⟨hv, hx⟩
  obtain ⟨cb, q1, q2, rfl, q3⟩ := newInts hv
  obtain ⟨τ, rfl, rfl, x3, hc3⟩ := Chg.ofExtC .tmp hx
  have hc : ObC .tmp τ cb (.cells ((classesF m).map (.int .i64 ·)) 1 none false (some 3)) := ⟨q2, hc3 _ q1, q3⟩
  replace hm := hm.keep x3 (by simp)
  replace hwI := hwI.keep x3 (by simp)
  have ha := ha2.keep x3 (by simp)
  clear hv hx q1 q2 q3 hc3 x3 ha2
  have hcl := classesF_len hmod
  obtain ⟨bo, hvo, hbo⟩ := hm.of.block
  obtain ⟨be, hve, hbe⟩ := hm.en.block
  have g2 : cellAt τ.H ⟨A, 2, none⟩ V.o := ha.cell rfl
  rw [hvo] at g2
  repeat (first | (refine OpsL.q (by first | exact oasg | exact omv | exact olen | exact ofa | exact old) ?_) | (refine Trip.seq ?_) | (refine Trip.ops ?_) | (refine OpsL.nil ?_; (change Trip _ _ _ _ _)))
  refine OpsL.neqF ?_
  repeat (first | (refine OpsL.nil ?_; (change Trip _ _ _ _ _)))
  refine Trip.ifF ?_
  repeat (first | (refine OpsL.q (by first | exact omv | exact olen) ?_) | (refine Trip.seq ?_) | (refine Trip.ops ?_) | (refine Trip.skip ?_; (change Trip _ _ _ _ _)))
  refine OpsL.c2 (hf := entersWithinN) (hc := (withinC W0 p (classesF m).length (by omega) (by omega))) (h := ?_)
  rintro v1 nx1 H1 ⟨rfl, hn1', hh1⟩
  rw [hn1', hh1]
  clear hn1' hh1
  repeat (first | (refine OpsL.q (by first | exact omv | exact olen) ?_))
  refine OpsL.c2 (hf := entersWithinN) (hc := (withinC W0 q (classesF m).length (by omega) (by omega))) (h := ?_)
  rintro v1 nx1 H1 ⟨rfl, hn1', hh1⟩
  rw [hn1', hh1]
  clear hn1' hh1
  obtain ⟨x, hx⟩ : ∃ x, p % ((classesF m).length : Int) = x := ⟨_, rfl⟩
  obtain ⟨y, hy⟩ : ∃ y, q % ((classesF m).length : Int) = y := ⟨_, rfl⟩
  have hxb : 0 ≤ x ∧ x < (classesF m).length := by rw [← hx]; exact ⟨Int.emod_nonneg _ (by omega), Int.emod_lt_of_pos _ (by omega)⟩
  have hyb : 0 ≤ y ∧ y < (classesF m).length := by rw [← hy]; exact ⟨Int.emod_nonneg _ (by omega), Int.emod_lt_of_pos _ (by omega)⟩
  rw [hx, hy]
  clear hx hy
  repeat (first | (refine OpsL.q (by exact oasg) ?_) | (refine Trip.seq ?_) | (refine OpsL.nil ?_; (change Trip _ _ _ _ _)))
  -- one of no class, of two classes, or of a module that is called: nothing is told
  have cx := intCellI hc.2.2 hxb.1 hxb.2
  have cy := intCellI hc.2.2 hyb.1 hyb.2
  have co := intCellI (i := x) hbo.2.2 hxb.1 (by omega)
  have hclm : (classesF m).length ≤ m.of.length ∧ m.of.length ≤ (classesF m).length := by omega
  refine Trip.mono (Q := fun e st => e = .normal ∧ ∃ (tm' : Nat → Value) (dd : Bool), st = ⟨tm', n, τ.H, τ.nx⟩ ∧ tm' 4 = .slice wa ws.length wc ∧ tm' 11 = .pointer (some ⟨A, 0, none⟩) ∧ tm' 12 = .slice (some ⟨cb, 0, none⟩) (classesF m).length (classesF m).length ∧ tm' 13 = .int .i64 x ∧ tm' 14 = .int .i64 y ∧ tm' 62 = .bool dd ∧ (dd = false → 0 ≤ (classesF m).getD x.toNat 0 ∧ (classesF m).getD x.toNat 0 = (classesF m).getD y.toNat 0 ∧ m.of.getD x.toNat 0 = 0)) ?_ ?_
  · refine OpsR.drawnW [] (K := fun _ _ => True) mixed13 (by kernel_rfl) (by kernel_rfl) [0, 1, 2, 3, 4, 5, 6, 7, 8, 9, 10, 11, 12, 13, 14, 15, 16, 17, 18, 19, 20, 21, 22, 23] (by kernel_rfl) trivial ?_
    refine OpsR.one rfl rfl rfl (by kernel_rfl) ?_
    repeat (first | (refine OpsL.q (by exact omv) ?_) | (refine OpsL.nil ?_; (dsimp only)))
    refine OpsR.one rfl rfl rfl (by kernel_rfl) ?_
    repeat (first | (refine OpsL.q (by exact omv) ?_) | (refine OpsL.nil ?_; (skip)))
    refine OpsR.one rfl rfl rfl (by kernel_rfl) ?_
    repeat (first | (refine OpsL.q (by exact oixa) ?_) | (refine OpsL.nil ?_; (dsimp only)))
    refine OpsR.one rfl rfl rfl (by kernel_rfl) ?_
    repeat (first | (refine OpsL.q (by exact old) ?_) | (refine OpsL.nil ?_; (skip)))
    refine OpsR.one rfl rfl rfl (by kernel_rfl) ?_
    by_cases h0 : (classesF m).getD x.toNat 0 < 0
    · refine OpsL.lssT ?_ (c := h0)
      refine OpsL.nil ?_
      refine OpsR.one rfl rfl rfl (by kernel_rfl) ?_
      repeat (first | (refine OpsL.q (by exact omv) ?_) | (refine OpsL.nil ?_; (skip)))
      refine OpsR.one rfl rfl rfl (by kernel_rfl) ?_
      repeat (first | (refine OpsL.nil ?_; (skip)) | (refine OpsL.skp ?_))
      refine OpsR.one rfl rfl rfl (by kernel_rfl) ?_
      repeat (first | (refine OpsL.nil ?_; (skip)) | (refine OpsL.skp ?_))
      refine OpsR.one rfl rfl rfl (by kernel_rfl) ?_
      repeat (first | (refine OpsL.nil ?_; (skip)) | (refine OpsL.skp ?_))
      refine OpsR.one rfl rfl rfl (by kernel_rfl) ?_
      repeat (first | (refine OpsL.nil ?_; (skip)) | (refine OpsL.skp ?_))
      refine OpsR.one rfl rfl rfl (by kernel_rfl) ?_
      repeat (first | (refine OpsL.nil ?_; (skip)) | (refine OpsL.skp ?_))
      refine OpsR.one rfl rfl rfl (by kernel_rfl) ?_
      repeat (first | (refine OpsL.nil ?_; (skip)) | (refine OpsL.skp ?_))
      refine OpsR.one rfl rfl rfl (by kernel_rfl) ?_
      repeat (first | (refine OpsL.nil ?_; (skip)) | (refine OpsL.skp ?_))
      refine OpsR.one rfl rfl rfl (by kernel_rfl) ?_
      repeat (first | (refine OpsL.nil ?_; (skip)) | (refine OpsL.skp ?_))
      refine OpsR.one rfl rfl rfl (by kernel_rfl) ?_
      repeat (first | (refine OpsL.nil ?_; (skip)) | (refine OpsL.skp ?_))
      refine OpsR.one rfl rfl rfl (by kernel_rfl) ?_
      repeat (first | (refine OpsL.q (by exact opkT) ?_) | (refine OpsL.nil ?_; (skip)))
      refine OpsR.one rfl rfl rfl (by kernel_rfl) ?_
      repeat (first | (refine OpsL.q (by exact omv) ?_) | (refine OpsL.nil ?_; (skip)))
      refine OpsR.one rfl rfl rfl (by kernel_rfl) ?_
      repeat (first | (refine OpsL.nil ?_; (skip)) | (refine OpsL.skp ?_))
      refine OpsR.one rfl rfl rfl (by kernel_rfl) ?_
      repeat (first | (refine OpsL.nil ?_; (skip)) | (refine OpsL.skp ?_))
      refine OpsR.one rfl rfl rfl (by kernel_rfl) ?_
      repeat (first | (refine OpsL.nil ?_; (skip)) | (refine OpsL.skp ?_))
      refine OpsR.one rfl rfl rfl (by kernel_rfl) ?_
      repeat (first | (refine OpsL.nil ?_; (skip)) | (refine OpsL.skp ?_))
      refine OpsR.one rfl rfl rfl (by kernel_rfl) ?_
      repeat (first | (refine OpsL.nil ?_; (skip)) | (refine OpsL.skp ?_))
      refine OpsR.one rfl rfl rfl (by kernel_rfl) ?_
      repeat (first | (refine OpsL.nil ?_; (skip)) | (refine OpsL.skp ?_))
      refine OpsR.one rfl rfl rfl (by kernel_rfl) ?_
      repeat (first | (refine OpsL.q (by exact opkT) ?_) | (refine OpsL.nil ?_; (skip)))
      refine OpsR.nil ?_
      exact ⟨rfl, _, true, rfl, by simp [tmPut, *], by simp [tmPut, *], by simp [tmPut, *], by simp [tmPut, *], by simp [tmPut, *], by simp [tmPut, *], fun q => by cases q⟩
    refine OpsL.lssF ?_ (c := h0)
    refine OpsL.nil ?_
    refine OpsR.one rfl rfl rfl (by kernel_rfl) ?_
    repeat (first | (refine OpsL.q (by exact omv) ?_) | (refine OpsL.nil ?_; (skip)))
    refine OpsR.one rfl rfl rfl (by kernel_rfl) ?_
    repeat (first | (refine OpsL.q (by exact omv) ?_) | (refine OpsL.nil ?_; (skip)) | (refine OpsL.ung ?_))
    refine OpsR.one rfl rfl rfl (by kernel_rfl) ?_
    repeat (first | (refine OpsL.q (by exact omv) ?_) | (refine OpsL.nil ?_; (skip)) | (refine OpsL.ung ?_))
    refine OpsR.one rfl rfl rfl (by kernel_rfl) ?_
    repeat (first | (refine OpsL.q (by exact oixa) ?_) | (refine OpsL.nil ?_; (dsimp only)) | (refine OpsL.ung ?_))
    refine OpsR.one rfl rfl rfl (by kernel_rfl) ?_
    repeat (first | (refine OpsL.q (by exact old) ?_) | (refine OpsL.nil ?_; (skip)) | (refine OpsL.ung ?_))
    refine OpsR.one rfl rfl rfl (by kernel_rfl) ?_
    repeat (first | (refine OpsL.q (by exact omv) ?_) | (refine OpsL.nil ?_; (skip)) | (refine OpsL.ung ?_))
    refine OpsR.one rfl rfl rfl (by kernel_rfl) ?_
    repeat (first | (refine OpsL.q (by exact omv) ?_) | (refine OpsL.nil ?_; (skip)) | (refine OpsL.ung ?_))
    refine OpsR.one rfl rfl rfl (by kernel_rfl) ?_
    repeat (first | (refine OpsL.q (by exact oixa) ?_) | (refine OpsL.nil ?_; (dsimp only)) | (refine OpsL.ung ?_))
    refine OpsR.one rfl rfl rfl (by kernel_rfl) ?_
    repeat (first | (refine OpsL.q (by exact old) ?_) | (refine OpsL.nil ?_; (skip)) | (refine OpsL.ung ?_))
    refine OpsR.one rfl rfl rfl (by kernel_rfl) ?_
    refine OpsL.ung ?_
    by_cases h1 : (classesF m).getD x.toNat 0 = (classesF m).getD y.toNat 0
    · refine OpsL.neqF ?_ (c := h1)
      refine OpsL.nil ?_
      refine OpsR.one rfl rfl rfl (by kernel_rfl) ?_
      repeat (first | (refine OpsL.q (by exact opkF) ?_) | (refine OpsL.nil ?_; (skip)))
      refine OpsR.one rfl rfl rfl (by kernel_rfl) ?_
      repeat (first | (refine OpsL.q (by exact omv) ?_) | (refine OpsL.nil ?_; (skip)))
      refine OpsR.one rfl rfl rfl (by kernel_rfl) ?_
      repeat (first | (refine OpsL.q (by exact ofa) ?_) | (refine OpsL.nil ?_; (dsimp only)) | (refine OpsL.ung ?_))
      refine OpsR.one rfl rfl rfl (by kernel_rfl) ?_
      repeat (first | (refine OpsL.q (by exact old) ?_) | (refine OpsL.nil ?_; (skip)) | (refine OpsL.ung ?_))
      refine OpsR.one rfl rfl rfl (by kernel_rfl) ?_
      repeat (first | (refine OpsL.q (by exact omv) ?_) | (refine OpsL.nil ?_; (skip)) | (refine OpsL.ung ?_))
      refine OpsR.one rfl rfl rfl (by kernel_rfl) ?_
      repeat (first | (refine OpsL.q (by exact oixa) ?_) | (refine OpsL.nil ?_; (dsimp only)) | (refine OpsL.ung ?_))
      refine OpsR.one rfl rfl rfl (by kernel_rfl) ?_
      repeat (first | (refine OpsL.q (by exact old) ?_) | (refine OpsL.nil ?_; (skip)) | (refine OpsL.ung ?_))
      refine OpsR.one rfl rfl rfl (by kernel_rfl) ?_
      refine OpsL.ung ?_
      by_cases h2 : m.of.getD x.toNat 0 = 0
      · refine OpsL.neqF ?_ (c := h2)
        refine OpsL.nil ?_
        refine OpsR.one rfl rfl rfl (by kernel_rfl) ?_
        repeat (first | (refine OpsL.q (by exact opkF) ?_) | (refine OpsL.nil ?_; (skip)))
        refine OpsR.nil ?_
        exact ⟨rfl, _, false, rfl, by simp [tmPut, *], by simp [tmPut, *], by simp [tmPut, *], by simp [tmPut, *], by simp [tmPut, *], by simp [tmPut, *], fun _ => ⟨by omega, h1, h2⟩⟩
      · refine OpsL.neqT ?_ (c := h2)
        refine OpsL.nil ?_
        refine OpsR.one rfl rfl rfl (by kernel_rfl) ?_
        repeat (first | (refine OpsL.q (by exact opkF) ?_) | (refine OpsL.nil ?_; (skip)))
        refine OpsR.nil ?_
        exact ⟨rfl, _, true, rfl, by simp [tmPut, *], by simp [tmPut, *], by simp [tmPut, *], by simp [tmPut, *], by simp [tmPut, *], by simp [tmPut, *], fun q => by cases q⟩
    · refine OpsL.neqT ?_ (c := h1)
      refine OpsL.nil ?_
      refine OpsR.one rfl rfl rfl (by kernel_rfl) ?_
      repeat (first | (refine OpsL.q (by exact opkF) ?_) | (refine OpsL.nil ?_; (skip)))
      refine OpsR.one rfl rfl rfl (by kernel_rfl) ?_
      repeat (first | (refine OpsL.q (by exact omv) ?_) | (refine OpsL.nil ?_; (skip)))
      refine OpsR.one rfl rfl rfl (by kernel_rfl) ?_
      repeat (first | (refine OpsL.nil ?_; (skip)) | (refine OpsL.skp ?_))
      refine OpsR.one rfl rfl rfl (by kernel_rfl) ?_
      repeat (first | (refine OpsL.nil ?_; (skip)) | (refine OpsL.skp ?_))
      refine OpsR.one rfl rfl rfl (by kernel_rfl) ?_
      repeat (first | (refine OpsL.nil ?_; (skip)) | (refine OpsL.skp ?_))
      refine OpsR.one rfl rfl rfl (by kernel_rfl) ?_
      repeat (first | (refine OpsL.nil ?_; (skip)) | (refine OpsL.skp ?_))
      refine OpsR.one rfl rfl rfl (by kernel_rfl) ?_
      repeat (first | (refine OpsL.nil ?_; (skip)) | (refine OpsL.skp ?_))
      refine OpsR.one rfl rfl rfl (by kernel_rfl) ?_
      repeat (first | (refine OpsL.nil ?_; (skip)) | (refine OpsL.skp ?_))
      refine OpsR.one rfl rfl rfl (by kernel_rfl) ?_
      repeat (first | (refine OpsL.q (by exact opkT) ?_) | (refine OpsL.nil ?_; (skip)))
      refine OpsR.nil ?_
      exact ⟨rfl, _, true, rfl, by simp [tmPut, *], by simp [tmPut, *], by simp [tmPut, *], by simp [tmPut, *], by simp [tmPut, *], by simp [tmPut, *], fun q => by cases q⟩
  clear cx cy co e0 e1 e2 e3 e4
  rintro e st ⟨rfl, tm, dd, rfl, t4, t11, t12, t13, t14, t62, hd⟩
  (change Trip _ _ _ _ _)
  cases dd
  rotate_left
  · refine Trip.ifT ?_
    repeat (first | (refine OpsL.q (by exact oasg) ?_) | (refine Trip.seq ?_) | (refine Trip.ops ?_) | (refine Trip.ret ?_; (dsimp only)) | (refine OpsL.nil ?_; (change Trip _ _ _ _ _)))
    exact ⟨.inr rfl, _, res_tmp, by simp [tmPut]⟩
  refine Trip.ifF ?_
  obtain ⟨d1, d2, d3⟩ := hd rfl
  clear hd t62
  repeat (first | (refine Trip.seq ?_) | (refine Trip.skip ?_; (change Trip _ _ _ _ _)))
  refine Trip.mono (Q := fun e st => e = .normal ∧ ∃ (tm' : Nat → Value) (τ : CH) (X Y : Nat), st = ⟨tm', n, τ.H, τ.nx⟩ ∧ tm' 4 = .slice wa ws.length wc ∧ tm' 11 = .pointer (some ⟨A, 0, none⟩) ∧ tm' 13 = .int .i64 x ∧ tm' 14 = .int .i64 y ∧ tm' 15 = .pointer (some ⟨X, 0, none⟩) ∧ tm' 16 = .pointer (some ⟨Y, 0, none⟩) ∧ MkO τ m V ∧ IntsC .old τ (.slice wa ws.length wc) ws ∧ ObC .self τ A (.cells (moV m V) 0 none false (some 29)) ∧ ObC .next τ X (.cells (moV m V) 0 none false (some 29)) ∧ ObC .table τ Y (.cells (moV m V) 0 none false (some 29))) ?_ ?_
  · refine OpsQ.drawn [2, 3, 4, 5] (K := fun _ _ H => getc H ⟨A, 0, none⟩ 8 = some (moV m V)) mixed13 (by kernel_rfl) (by kernel_rfl) [0, 1, 2, 3, 4, 5] (by kernel_rfl) (fun _ _ => (hbA ha).all) ?_
    refine OpsQ.sp 4 (v := .agg (moV m V).toArray) rfl (by kernel_rfl) (by subst_vars; decide) (hbA ha).all (fun H2 nx2 hK => aop_loadAgg (k := 8) (by (first | (simp only [ASt.ev, tmPut, ↓reduceIte, Nat.reduceEqDiff, *]; done))) (by exact rfl) rfl (by exact rfl) hK) ?_
    refine OpsQ.sp 5 (v := .agg (moV m V).toArray) rfl (by kernel_rfl) (by subst_vars; decide) (hbA ha).all (fun H2 nx2 hK => aop_loadAgg (k := 8) (by (first | (simp only [ASt.ev, tmPut, ↓reduceIte, Nat.reduceEqDiff, *]; done))) (by exact rfl) rfl (by exact rfl) hK) ?_
    refine OpsQ.go2 2 3 [3, 4, 5] [2, 4, 5] (by kernel_rfl) (ActStep.walk rfl rfl ?_) (ActStep.walk rfl rfl ?_)
    · refine OpsL.newC .next (aop_alloc (l := moV noMo nilV) (by exact rfl)) (by subst_vars; decide) ?_
      intro σ1 h1 x1
      obtain ⟨Xb, hq1⟩ : ∃ b, τ.nx = b := ⟨_, rfl⟩
      rw [hq1] at h1 ⊢
      have hm_1 := keepN x1 (by simp) hm
      have hw_1 := hwI.keep x1 (by simp)
      have ha_1 := ha.keep x1 (by simp)
      refine OpsL.nil ⟨fun _ _ => (hbA ha_1).all, ?_⟩
      refine OpsQ.go1 3 [4, 5] (by kernel_rfl) (ActStep.walk rfl rfl ?_)
      refine OpsL.newC .table (aop_alloc (l := moV noMo nilV) (by exact rfl)) (by subst_vars; decide) ?_
      intro σ2 h2 x2
      obtain ⟨Yb, hq2⟩ : ∃ b, σ1.nx = b := ⟨_, rfl⟩
      rw [hq2] at h2 ⊢
      have hm_2 := keepN x2 (by simp) hm_1
      have hw_2 := hw_1.keep x2 (by simp)
      have ha_2 := ha_1.keep x2 (by simp)
      have hX_2 := h1.keep x2 (by simp)
      refine OpsL.nil ⟨fun _ _ => (hbA ha_2).all, ?_⟩
      refine OpsQ.go1 4 [5] (by kernel_rfl) (ActStep.walk rfl rfl ?_)
      refine OpsL.setAllC (vs := moV m V) hX_2 (by exact rfl) rfl rfl hm_2.one (by (first | (simp only [ASt.ev, tmPut, ↓reduceIte, Nat.reduceEqDiff, *]; done))) (by (first | (simp only [ASt.ev, tmPut, ↓reduceIte, Nat.reduceEqDiff, *]; done))) ?_
      intro σ3 h3 x3
      have hm_3 := keepN x3 (by simp) hm_2
      have hw_3 := hw_2.keep x3 (by simp)
      have ha_3 := ha_2.keep x3 (by simp)
      have hY_3 := h2.keep x3 (by simp)
      refine OpsL.nil ⟨fun _ _ => (hbA ha_3).all, ?_⟩
      refine OpsQ.go1 5 [] (by kernel_rfl) (ActStep.walk rfl rfl ?_)
      refine OpsL.setAllC (vs := moV m V) hY_3 (by exact rfl) rfl rfl hm_3.one (by (first | (simp only [ASt.ev, tmPut, ↓reduceIte, Nat.reduceEqDiff, *]; done))) (by (first | (simp only [ASt.ev, tmPut, ↓reduceIte, Nat.reduceEqDiff, *]; done))) ?_
      intro σ4 h4 x4
      have hm_4 := keepN x4 (by simp) hm_3
      have hw_4 := hw_3.keep x4 (by simp)
      have ha_4 := ha_3.keep x4 (by simp)
      have hX_4 := h3.keep x4 (by simp)
      refine OpsL.nil ⟨fun _ _ => (hbA ha_4).all, ?_⟩
      exact OpsQ.nil ⟨rfl, _, σ4, Xb, Yb, rfl, by simp [tmPut, *], by simp [tmPut, *], by simp [tmPut, *], by simp [tmPut, *], by simp [tmPut, *], by simp [tmPut, *], hm_4, hw_4, ha_4, hX_4, h4⟩
    · refine OpsL.newC .table (aop_alloc (l := moV noMo nilV) (by exact rfl)) (by subst_vars; decide) ?_
      intro σ5 h5 x5
      obtain ⟨Yb, hq5⟩ : ∃ b, τ.nx = b := ⟨_, rfl⟩
      rw [hq5] at h5 ⊢
      have hm_5 := keepN x5 (by simp) hm
      have hw_5 := hwI.keep x5 (by simp)
      have ha_5 := ha.keep x5 (by simp)
      refine OpsL.nil ⟨fun _ _ => (hbA ha_5).all, ?_⟩
      refine OpsQ.go1 2 [4, 5] (by kernel_rfl) (ActStep.walk rfl rfl ?_)
      refine OpsL.newC .next (aop_alloc (l := moV noMo nilV) (by exact rfl)) (by subst_vars; decide) ?_
      intro σ6 h6 x6
      obtain ⟨Xb, hq6⟩ : ∃ b, σ5.nx = b := ⟨_, rfl⟩
      rw [hq6] at h6 ⊢
      have hm_6 := keepN x6 (by simp) hm_5
      have hw_6 := hw_5.keep x6 (by simp)
      have ha_6 := ha_5.keep x6 (by simp)
      have hY_6 := h5.keep x6 (by simp)
      refine OpsL.nil ⟨fun _ _ => (hbA ha_6).all, ?_⟩
      refine OpsQ.go1 4 [5] (by kernel_rfl) (ActStep.walk rfl rfl ?_)
      refine OpsL.setAllC (vs := moV m V) h6 (by exact rfl) rfl rfl hm_6.one (by (first | (simp only [ASt.ev, tmPut, ↓reduceIte, Nat.reduceEqDiff, *]; done))) (by (first | (simp only [ASt.ev, tmPut, ↓reduceIte, Nat.reduceEqDiff, *]; done))) ?_
      intro σ7 h7 x7
      have hm_7 := keepN x7 (by simp) hm_6
      have hw_7 := hw_6.keep x7 (by simp)
      have ha_7 := ha_6.keep x7 (by simp)
      have hY_7 := hY_6.keep x7 (by simp)
      refine OpsL.nil ⟨fun _ _ => (hbA ha_7).all, ?_⟩
      refine OpsQ.go1 5 [] (by kernel_rfl) (ActStep.walk rfl rfl ?_)
      refine OpsL.setAllC (vs := moV m V) hY_7 (by exact rfl) rfl rfl hm_7.one (by (first | (simp only [ASt.ev, tmPut, ↓reduceIte, Nat.reduceEqDiff, *]; done))) (by (first | (simp only [ASt.ev, tmPut, ↓reduceIte, Nat.reduceEqDiff, *]; done))) ?_
      intro σ8 h8 x8
      have hm_8 := keepN x8 (by simp) hm_7
      have hw_8 := hw_7.keep x8 (by simp)
      have ha_8 := ha_7.keep x8 (by simp)
      have hX_8 := h7.keep x8 (by simp)
      refine OpsL.nil ⟨fun _ _ => (hbA ha_8).all, ?_⟩
      exact OpsQ.nil ⟨rfl, _, σ8, Xb, Yb, rfl, by simp [tmPut, *], by simp [tmPut, *], by simp [tmPut, *], by simp [tmPut, *], by simp [tmPut, *], by simp [tmPut, *], hm_8, hw_8, ha_8, hX_8, h8⟩
  clear t4 t11 t12 t13 t14 hm hwI ha hc
  rintro e st ⟨rfl, tm, τ, X, Y, rfl, t4, t11, t13, t14, t15, t16, hm, hwI, ha, hX, hY⟩
  (change Trip _ _ _ _ _)
  repeat (first | (refine Trip.seq ?_))
  refine Trip.mono (Q := fun e st => e = .normal ∧ ∃ (tm' : Nat → Value) (τ : CH) (vx vy : Value), st = ⟨tm', n, τ.H, τ.nx⟩ ∧ tm' 4 = .slice wa ws.length wc ∧ tm' 11 = .pointer (some ⟨A, 0, none⟩) ∧ tm' 13 = .int .i64 x ∧ tm' 14 = .int .i64 y ∧ tm' 15 = .pointer (some ⟨X, 0, none⟩) ∧ tm' 16 = .pointer (some ⟨Y, 0, none⟩) ∧ MkO τ m V ∧ IntsC .old τ (.slice wa ws.length wc) ws ∧ ObC .self τ A (.cells (moV m V) 0 none false (some 29)) ∧ ObC .next τ X (.cells (moV m { V with e := vx }) 0 none false (some 29)) ∧ ObC .table τ Y (.cells (moV m { V with e := vy }) 0 none false (some 29)) ∧ OwnC encN 3 (.tab 0) τ vx m.entry ∧ OwnC encN 3 (.tab 1) τ vy m.entry) ?_ ?_
  · have g3 : cellAt τ.H ⟨A, 3, none⟩ V.e := ha.cell rfl
    refine OpsQ.drawn [0, 3, 4, 7, 9, 11] (K := fun _ _ H => cellAt H ⟨A, 3, none⟩ V.e) mixed13 (by kernel_rfl) (by kernel_rfl) [1, 2, 5, 6, 0, 3, 8, 4, 7, 9, 10, 11] (by kernel_rfl) (fun _ _ => g3) ?_
    refine OpsQ.one rfl rfl rfl (by kernel_rfl) ?_
    repeat (first | (refine OpsL.q (by exact ofa) ?_) | (refine OpsL.nil ?_; (dsimp only)))
    refine OpsQ.sp 3 (v := V.e) rfl (by kernel_rfl) (by subst_vars; decide) g3 (fun H2 nx2 hK => aop_load (by (first | (simp only [ASt.ev, tmPut, ↓reduceIte, Nat.reduceEqDiff, *]; rfl))) (by exact rfl) rfl hK) ?_
    refine OpsQ.one rfl rfl rfl (by kernel_rfl) ?_
    repeat (first | (refine OpsL.q (by exact ofa) ?_) | (refine OpsL.nil ?_; (dsimp only)))
    refine OpsQ.sp 7 (v := V.e) rfl (by kernel_rfl) (by subst_vars; decide) g3 (fun H2 nx2 hK => aop_load (by (first | (simp only [ASt.ev, tmPut, ↓reduceIte, Nat.reduceEqDiff, *]; rfl))) (by exact rfl) rfl hK) ?_
    clear g3
    refine OpsQ.go2 0 4 [3, 8, 4, 7, 9, 10, 11] [0, 3, 8, 7, 9, 10, 11] (by kernel_rfl) (ActStep.walk rfl rfl ?_) (ActStep.walk rfl rfl ?_)
    · refine OpsL.newC (.tab 0) (aop_buildSlice (l := []) (r := (.slice (some ⟨τ.nx, 0, none⟩) 0 0, .new (.cells [] 1 none false (some 3)))) rfl (by exact rfl)) (by subst_vars; decide) ?_
      intro σ9 h9' x9
      have h9 : OwnOrC encN (fun i => .int .i64 i) 3 (.tab 0) σ9 (.slice (some ⟨τ.nx, 0, none⟩) 0 0) [] := .inr ⟨_, rfl, h9'⟩
      have hm_9 := keepN x9 (by simp) hm
      have hw_9 := hwI.keep x9 (by simp)
      have ha_9 := ha.keep x9 (by simp)
      have hX_9 := hX.keep x9 (by simp)
      have hY_9 := hY.keep x9 (by simp)
      refine OpsL.nil ⟨fun _ _ => ha_9.cell rfl, ?_⟩
      refine OpsQ.go2 3 4 [8, 4, 7, 9, 10, 11] [3, 8, 7, 9, 10, 11] (by kernel_rfl) (ActStep.walk rfl rfl ?_) (ActStep.walk rfl rfl ?_)
      · refine OpsL.appW (bytes := 8) (z := [.int .i64 0]) (fun _ => rfl) encN_len encN_one h9 (ints_rowsN hm_9.in.entry) (by omega) (by exact rfl) (by exact rfl) (by exact rfl) (by exact rfl) (by exact rfl) rfl (by simp only [List.length_nil]; omega) (by omega) (by (first | (simp only [ASt.ev, tmPut, ↓reduceIte, Nat.reduceEqDiff, *]; done))) (by (first | (simp only [ASt.ev, tmPut, ↓reduceIte, Nat.reduceEqDiff, *]; done))) (by subst_vars; decide) ?_
        intro vx σ10 h10 x10
        rw [List.nil_append] at h10
        have hm_10 := keepN x10 (by simp) hm_9
        have hw_10 := hw_9.keep x10 (by simp)
        have ha_10 := ha_9.keep x10 (by simp)
        have hX_10 := hX_9.keep x10 (by simp)
        have hY_10 := hY_9.keep x10 (by simp)
        refine OpsL.nil ⟨fun _ _ => ha_10.cell rfl, ?_⟩
        refine OpsQ.one rfl rfl rfl (by kernel_rfl) ?_
        repeat (first | (refine OpsL.q (by exact ofa) ?_) | (refine OpsL.nil ?_; (dsimp only)))
        refine OpsQ.go1 4 [7, 9, 10, 11] (by kernel_rfl) (ActStep.walk rfl rfl ?_)
        refine OpsL.newC (.tab 1) (aop_buildSlice (l := []) (r := (.slice (some ⟨σ10.nx, 0, none⟩) 0 0, .new (.cells [] 1 none false (some 3)))) rfl (by exact rfl)) (by subst_vars; decide) ?_
        intro σ11 h11' x11
        have h11 : OwnOrC encN (fun i => .int .i64 i) 3 (.tab 1) σ11 (.slice (some ⟨σ10.nx, 0, none⟩) 0 0) [] := .inr ⟨_, rfl, h11'⟩
        have hm_11 := keepN x11 (by simp) hm_10
        have hw_11 := hw_10.keep x11 (by simp)
        have ha_11 := ha_10.keep x11 (by simp)
        have hX_11 := hX_10.keep x11 (by simp)
        have hY_11 := hY_10.keep x11 (by simp)
        have hrx_11 := h10.keep x11 (by simp)
        refine OpsL.nil ⟨fun _ _ => ha_11.cell rfl, ?_⟩
        refine OpsQ.go1 7 [9, 10, 11] (by kernel_rfl) (ActStep.walk rfl rfl ?_)
        refine OpsL.appW (bytes := 8) (z := [.int .i64 0]) (fun _ => rfl) encN_len encN_one h11 (ints_rowsN hm_11.in.entry) (by omega) (by exact rfl) (by exact rfl) (by exact rfl) (by exact rfl) (by exact rfl) rfl (by simp only [List.length_nil]; omega) (by omega) (by (first | (simp only [ASt.ev, tmPut, ↓reduceIte, Nat.reduceEqDiff, *]; done))) (by (first | (simp only [ASt.ev, tmPut, ↓reduceIte, Nat.reduceEqDiff, *]; done))) (by subst_vars; decide) ?_
        intro vy σ12 h12 x12
        rw [List.nil_append] at h12
        have hm_12 := keepN x12 (by simp) hm_11
        have hw_12 := hw_11.keep x12 (by simp)
        have ha_12 := ha_11.keep x12 (by simp)
        have hX_12 := hX_11.keep x12 (by simp)
        have hY_12 := hY_11.keep x12 (by simp)
        have hrx_12 := hrx_11.keep x12 (by simp)
        refine OpsL.nil ⟨fun _ _ => ha_12.cell rfl, ?_⟩
        refine OpsQ.go1 9 [10, 11] (by kernel_rfl) (ActStep.walk rfl rfl ?_)
        have w13 : ∃ a c, vx = .slice a m.entry.length c := OwnC.slice encN_len hrx_12
        refine OpsL.setC (k := 3) (cs' := moV m { V with e := vx }) hX_12 (by show 3 < 8; omega) (by exact rfl) (by exact rfl) (by obtain ⟨_, _, e⟩ := w13; rw [e]; rfl) (by obtain ⟨_, _, e⟩ := w13; rw [e]; rfl) (by (first | (simp only [ASt.ev, tmPut, ↓reduceIte, Nat.reduceEqDiff, *]; rfl))) (by (first | (simp only [ASt.ev, tmPut, ↓reduceIte, Nat.reduceEqDiff, *]; done))) rfl ?_
        intro σ13 h13 x13 _
        have hm_13 := keepN x13 (by simp) hm_12
        have hw_13 := hw_12.keep x13 (by simp)
        have ha_13 := ha_12.keep x13 (by simp)
        have hY_13 := hY_12.keep x13 (by simp)
        have hrx_13 := hrx_12.keep x13 (by simp)
        have hry_13 := h12.keep x13 (by simp)
        refine OpsL.nil ⟨fun _ _ => ha_13.cell rfl, ?_⟩
        refine OpsQ.one rfl rfl rfl (by kernel_rfl) ?_
        repeat (first | (refine OpsL.q (by exact ofa) ?_) | (refine OpsL.nil ?_; (dsimp only)))
        refine OpsQ.go1 11 [] (by kernel_rfl) (ActStep.walk rfl rfl ?_)
        have w14 : ∃ a c, vy = .slice a m.entry.length c := OwnC.slice encN_len hry_13
        refine OpsL.setC (k := 3) (cs' := moV m { V with e := vy }) hY_13 (by show 3 < 8; omega) (by exact rfl) (by exact rfl) (by obtain ⟨_, _, e⟩ := w14; rw [e]; rfl) (by obtain ⟨_, _, e⟩ := w14; rw [e]; rfl) (by (first | (simp only [ASt.ev, tmPut, ↓reduceIte, Nat.reduceEqDiff, *]; rfl))) (by (first | (simp only [ASt.ev, tmPut, ↓reduceIte, Nat.reduceEqDiff, *]; done))) rfl ?_
        intro σ14 h14 x14 _
        have hm_14 := keepN x14 (by simp) hm_13
        have hw_14 := hw_13.keep x14 (by simp)
        have ha_14 := ha_13.keep x14 (by simp)
        have hX_14 := h13.keep x14 (by simp)
        have hrx_14 := hrx_13.keep x14 (by simp)
        have hry_14 := hry_13.keep x14 (by simp)
        refine OpsL.nil ⟨fun _ _ => ha_14.cell rfl, ?_⟩
        exact OpsQ.nil ⟨rfl, _, σ14, vx, vy, rfl, by simp [tmPut, *], by simp [tmPut, *], by simp [tmPut, *], by simp [tmPut, *], by simp [tmPut, *], by simp [tmPut, *], hm_14, hw_14, ha_14, hX_14, h14, hrx_14, hry_14⟩
      · refine OpsL.newC (.tab 1) (aop_buildSlice (l := []) (r := (.slice (some ⟨σ9.nx, 0, none⟩) 0 0, .new (.cells [] 1 none false (some 3)))) rfl (by exact rfl)) (by subst_vars; decide) ?_
        intro σ15 h15' x15
        have h15 : OwnOrC encN (fun i => .int .i64 i) 3 (.tab 1) σ15 (.slice (some ⟨σ9.nx, 0, none⟩) 0 0) [] := .inr ⟨_, rfl, h15'⟩
        have hm_15 := keepN x15 (by simp) hm_9
        have hw_15 := hw_9.keep x15 (by simp)
        have ha_15 := ha_9.keep x15 (by simp)
        have hX_15 := hX_9.keep x15 (by simp)
        have hY_15 := hY_9.keep x15 (by simp)
        have hrx_15 := h9.keep x15 (by simp)
        refine OpsL.nil ⟨fun _ _ => ha_15.cell rfl, ?_⟩
        refine OpsQ.go1 3 [8, 7, 9, 10, 11] (by kernel_rfl) (ActStep.walk rfl rfl ?_)
        refine OpsL.appW (bytes := 8) (z := [.int .i64 0]) (fun _ => rfl) encN_len encN_one hrx_15 (ints_rowsN hm_15.in.entry) (by omega) (by exact rfl) (by exact rfl) (by exact rfl) (by exact rfl) (by exact rfl) rfl (by simp only [List.length_nil]; omega) (by omega) (by (first | (simp only [ASt.ev, tmPut, ↓reduceIte, Nat.reduceEqDiff, *]; done))) (by (first | (simp only [ASt.ev, tmPut, ↓reduceIte, Nat.reduceEqDiff, *]; done))) (by subst_vars; decide) ?_
        intro vx σ16 h16 x16
        rw [List.nil_append] at h16
        have hm_16 := keepN x16 (by simp) hm_15
        have hw_16 := hw_15.keep x16 (by simp)
        have ha_16 := ha_15.keep x16 (by simp)
        have hX_16 := hX_15.keep x16 (by simp)
        have hY_16 := hY_15.keep x16 (by simp)
        have hry_16 := h15.keep x16 (by simp)
        refine OpsL.nil ⟨fun _ _ => ha_16.cell rfl, ?_⟩
        refine OpsQ.one rfl rfl rfl (by kernel_rfl) ?_
        repeat (first | (refine OpsL.q (by exact ofa) ?_) | (refine OpsL.nil ?_; (dsimp only)))
        refine OpsQ.go1 7 [9, 10, 11] (by kernel_rfl) (ActStep.walk rfl rfl ?_)
        refine OpsL.appW (bytes := 8) (z := [.int .i64 0]) (fun _ => rfl) encN_len encN_one hry_16 (ints_rowsN hm_16.in.entry) (by omega) (by exact rfl) (by exact rfl) (by exact rfl) (by exact rfl) (by exact rfl) rfl (by simp only [List.length_nil]; omega) (by omega) (by (first | (simp only [ASt.ev, tmPut, ↓reduceIte, Nat.reduceEqDiff, *]; done))) (by (first | (simp only [ASt.ev, tmPut, ↓reduceIte, Nat.reduceEqDiff, *]; done))) (by subst_vars; decide) ?_
        intro vy σ17 h17 x17
        rw [List.nil_append] at h17
        have hm_17 := keepN x17 (by simp) hm_16
        have hw_17 := hw_16.keep x17 (by simp)
        have ha_17 := ha_16.keep x17 (by simp)
        have hX_17 := hX_16.keep x17 (by simp)
        have hY_17 := hY_16.keep x17 (by simp)
        have hrx_17 := h16.keep x17 (by simp)
        refine OpsL.nil ⟨fun _ _ => ha_17.cell rfl, ?_⟩
        refine OpsQ.go1 9 [10, 11] (by kernel_rfl) (ActStep.walk rfl rfl ?_)
        have w18 : ∃ a c, vx = .slice a m.entry.length c := OwnC.slice encN_len hrx_17
        refine OpsL.setC (k := 3) (cs' := moV m { V with e := vx }) hX_17 (by show 3 < 8; omega) (by exact rfl) (by exact rfl) (by obtain ⟨_, _, e⟩ := w18; rw [e]; rfl) (by obtain ⟨_, _, e⟩ := w18; rw [e]; rfl) (by (first | (simp only [ASt.ev, tmPut, ↓reduceIte, Nat.reduceEqDiff, *]; rfl))) (by (first | (simp only [ASt.ev, tmPut, ↓reduceIte, Nat.reduceEqDiff, *]; done))) rfl ?_
        intro σ18 h18 x18 _
        have hm_18 := keepN x18 (by simp) hm_17
        have hw_18 := hw_17.keep x18 (by simp)
        have ha_18 := ha_17.keep x18 (by simp)
        have hY_18 := hY_17.keep x18 (by simp)
        have hrx_18 := hrx_17.keep x18 (by simp)
        have hry_18 := h17.keep x18 (by simp)
        refine OpsL.nil ⟨fun _ _ => ha_18.cell rfl, ?_⟩
        refine OpsQ.one rfl rfl rfl (by kernel_rfl) ?_
        repeat (first | (refine OpsL.q (by exact ofa) ?_) | (refine OpsL.nil ?_; (dsimp only)))
        refine OpsQ.go1 11 [] (by kernel_rfl) (ActStep.walk rfl rfl ?_)
        have w19 : ∃ a c, vy = .slice a m.entry.length c := OwnC.slice encN_len hry_18
        refine OpsL.setC (k := 3) (cs' := moV m { V with e := vy }) hY_18 (by show 3 < 8; omega) (by exact rfl) (by exact rfl) (by obtain ⟨_, _, e⟩ := w19; rw [e]; rfl) (by obtain ⟨_, _, e⟩ := w19; rw [e]; rfl) (by (first | (simp only [ASt.ev, tmPut, ↓reduceIte, Nat.reduceEqDiff, *]; rfl))) (by (first | (simp only [ASt.ev, tmPut, ↓reduceIte, Nat.reduceEqDiff, *]; done))) rfl ?_
        intro σ19 h19 x19 _
        have hm_19 := keepN x19 (by simp) hm_18
        have hw_19 := hw_18.keep x19 (by simp)
        have ha_19 := ha_18.keep x19 (by simp)
        have hX_19 := h18.keep x19 (by simp)
        have hrx_19 := hrx_18.keep x19 (by simp)
        have hry_19 := hry_18.keep x19 (by simp)
        refine OpsL.nil ⟨fun _ _ => ha_19.cell rfl, ?_⟩
        exact OpsQ.nil ⟨rfl, _, σ19, vx, vy, rfl, by simp [tmPut, *], by simp [tmPut, *], by simp [tmPut, *], by simp [tmPut, *], by simp [tmPut, *], by simp [tmPut, *], hm_19, hw_19, ha_19, hX_19, h19, hrx_19, hry_19⟩
    · refine OpsL.newC (.tab 1) (aop_buildSlice (l := []) (r := (.slice (some ⟨τ.nx, 0, none⟩) 0 0, .new (.cells [] 1 none false (some 3)))) rfl (by exact rfl)) (by subst_vars; decide) ?_
      intro σ20 h20' x20
      have h20 : OwnOrC encN (fun i => .int .i64 i) 3 (.tab 1) σ20 (.slice (some ⟨τ.nx, 0, none⟩) 0 0) [] := .inr ⟨_, rfl, h20'⟩
      have hm_20 := keepN x20 (by simp) hm
      have hw_20 := hwI.keep x20 (by simp)
      have ha_20 := ha.keep x20 (by simp)
      have hX_20 := hX.keep x20 (by simp)
      have hY_20 := hY.keep x20 (by simp)
      refine OpsL.nil ⟨fun _ _ => ha_20.cell rfl, ?_⟩
      refine OpsQ.go1 0 [3, 8, 7, 9, 10, 11] (by kernel_rfl) (ActStep.walk rfl rfl ?_)
      refine OpsL.newC (.tab 0) (aop_buildSlice (l := []) (r := (.slice (some ⟨σ20.nx, 0, none⟩) 0 0, .new (.cells [] 1 none false (some 3)))) rfl (by exact rfl)) (by subst_vars; decide) ?_
      intro σ21 h21' x21
      have h21 : OwnOrC encN (fun i => .int .i64 i) 3 (.tab 0) σ21 (.slice (some ⟨σ20.nx, 0, none⟩) 0 0) [] := .inr ⟨_, rfl, h21'⟩
      have hm_21 := keepN x21 (by simp) hm_20
      have hw_21 := hw_20.keep x21 (by simp)
      have ha_21 := ha_20.keep x21 (by simp)
      have hX_21 := hX_20.keep x21 (by simp)
      have hY_21 := hY_20.keep x21 (by simp)
      have hry_21 := h20.keep x21 (by simp)
      refine OpsL.nil ⟨fun _ _ => ha_21.cell rfl, ?_⟩
      refine OpsQ.go1 3 [8, 7, 9, 10, 11] (by kernel_rfl) (ActStep.walk rfl rfl ?_)
      refine OpsL.appW (bytes := 8) (z := [.int .i64 0]) (fun _ => rfl) encN_len encN_one h21 (ints_rowsN hm_21.in.entry) (by omega) (by exact rfl) (by exact rfl) (by exact rfl) (by exact rfl) (by exact rfl) rfl (by simp only [List.length_nil]; omega) (by omega) (by (first | (simp only [ASt.ev, tmPut, ↓reduceIte, Nat.reduceEqDiff, *]; done))) (by (first | (simp only [ASt.ev, tmPut, ↓reduceIte, Nat.reduceEqDiff, *]; done))) (by subst_vars; decide) ?_
      intro vx σ22 h22 x22
      rw [List.nil_append] at h22
      have hm_22 := keepN x22 (by simp) hm_21
      have hw_22 := hw_21.keep x22 (by simp)
      have ha_22 := ha_21.keep x22 (by simp)
      have hX_22 := hX_21.keep x22 (by simp)
      have hY_22 := hY_21.keep x22 (by simp)
      have hry_22 := hry_21.keep x22 (by simp)
      refine OpsL.nil ⟨fun _ _ => ha_22.cell rfl, ?_⟩
      refine OpsQ.one rfl rfl rfl (by kernel_rfl) ?_
      repeat (first | (refine OpsL.q (by exact ofa) ?_) | (refine OpsL.nil ?_; (dsimp only)))
      refine OpsQ.go1 7 [9, 10, 11] (by kernel_rfl) (ActStep.walk rfl rfl ?_)
      refine OpsL.appW (bytes := 8) (z := [.int .i64 0]) (fun _ => rfl) encN_len encN_one hry_22 (ints_rowsN hm_22.in.entry) (by omega) (by exact rfl) (by exact rfl) (by exact rfl) (by exact rfl) (by exact rfl) rfl (by simp only [List.length_nil]; omega) (by omega) (by (first | (simp only [ASt.ev, tmPut, ↓reduceIte, Nat.reduceEqDiff, *]; done))) (by (first | (simp only [ASt.ev, tmPut, ↓reduceIte, Nat.reduceEqDiff, *]; done))) (by subst_vars; decide) ?_
      intro vy σ23 h23 x23
      rw [List.nil_append] at h23
      have hm_23 := keepN x23 (by simp) hm_22
      have hw_23 := hw_22.keep x23 (by simp)
      have ha_23 := ha_22.keep x23 (by simp)
      have hX_23 := hX_22.keep x23 (by simp)
      have hY_23 := hY_22.keep x23 (by simp)
      have hrx_23 := h22.keep x23 (by simp)
      refine OpsL.nil ⟨fun _ _ => ha_23.cell rfl, ?_⟩
      refine OpsQ.go1 9 [10, 11] (by kernel_rfl) (ActStep.walk rfl rfl ?_)
      have w24 : ∃ a c, vx = .slice a m.entry.length c := OwnC.slice encN_len hrx_23
      refine OpsL.setC (k := 3) (cs' := moV m { V with e := vx }) hX_23 (by show 3 < 8; omega) (by exact rfl) (by exact rfl) (by obtain ⟨_, _, e⟩ := w24; rw [e]; rfl) (by obtain ⟨_, _, e⟩ := w24; rw [e]; rfl) (by (first | (simp only [ASt.ev, tmPut, ↓reduceIte, Nat.reduceEqDiff, *]; rfl))) (by (first | (simp only [ASt.ev, tmPut, ↓reduceIte, Nat.reduceEqDiff, *]; done))) rfl ?_
      intro σ24 h24 x24 _
      have hm_24 := keepN x24 (by simp) hm_23
      have hw_24 := hw_23.keep x24 (by simp)
      have ha_24 := ha_23.keep x24 (by simp)
      have hY_24 := hY_23.keep x24 (by simp)
      have hry_24 := h23.keep x24 (by simp)
      have hrx_24 := hrx_23.keep x24 (by simp)
      refine OpsL.nil ⟨fun _ _ => ha_24.cell rfl, ?_⟩
      refine OpsQ.one rfl rfl rfl (by kernel_rfl) ?_
      repeat (first | (refine OpsL.q (by exact ofa) ?_) | (refine OpsL.nil ?_; (dsimp only)))
      refine OpsQ.go1 11 [] (by kernel_rfl) (ActStep.walk rfl rfl ?_)
      have w25 : ∃ a c, vy = .slice a m.entry.length c := OwnC.slice encN_len hry_24
      refine OpsL.setC (k := 3) (cs' := moV m { V with e := vy }) hY_24 (by show 3 < 8; omega) (by exact rfl) (by exact rfl) (by obtain ⟨_, _, e⟩ := w25; rw [e]; rfl) (by obtain ⟨_, _, e⟩ := w25; rw [e]; rfl) (by (first | (simp only [ASt.ev, tmPut, ↓reduceIte, Nat.reduceEqDiff, *]; rfl))) (by (first | (simp only [ASt.ev, tmPut, ↓reduceIte, Nat.reduceEqDiff, *]; done))) rfl ?_
      intro σ25 h25 x25 _
      have hm_25 := keepN x25 (by simp) hm_24
      have hw_25 := hw_24.keep x25 (by simp)
      have ha_25 := ha_24.keep x25 (by simp)
      have hX_25 := h24.keep x25 (by simp)
      have hry_25 := hry_24.keep x25 (by simp)
      have hrx_25 := hrx_24.keep x25 (by simp)
      refine OpsL.nil ⟨fun _ _ => ha_25.cell rfl, ?_⟩
      exact OpsQ.nil ⟨rfl, _, σ25, vx, vy, rfl, by simp [tmPut, *], by simp [tmPut, *], by simp [tmPut, *], by simp [tmPut, *], by simp [tmPut, *], by simp [tmPut, *], hm_25, hw_25, ha_25, hX_25, h25, hrx_25, hry_25⟩
  clear t4 t11 t13 t14 t15 t16 hm hwI ha hX hY
  rintro e st ⟨rfl, tm, τ, vx, vy, rfl, t4, t11, t13, t14, t15, t16, hm, hwI, ha, hX, hY, hrx, hry⟩
  (change Trip _ _ _ _ _)
  obtain ⟨bx, tx, rx, rfl, hox⟩ := OwnC.opn (f := fun i => .int .i64 i) (fun _ => rfl) hrx (fun e => by rw [e] at hk1; exact absurd hk1 (by simp))
  obtain ⟨by', ty, ry, rfl, hoy⟩ := OwnC.opn (f := fun i => .int .i64 i) (fun _ => rfl) hry (fun e => by rw [e] at hk1; exact absurd hk1 (by simp))
  clear hrx hry
  repeat (first | (refine Trip.seq ?_))
  have hset : ∀ (z : Int) (r : List Value), (m.entry.map (fun i => Value.int .i64 i) ++ r).set 0 (.int .i64 z) = (m.entry.set 0 z).map (fun i => Value.int .i64 i) ++ r := fun z r => by rw [List.set_append_left _ _ (by rw [List.length_map]; omega), List.map_set]
  have hlc : ∀ (r : List Value), 0 < (m.entry.map (fun i => Value.int .i64 i) ++ r).length := fun r => by rw [List.length_append, List.length_map]; omega
  refine Trip.mono (Q := fun e st => e = .normal ∧ ∃ (tm' : Nat → Value) (τ : CH), st = ⟨tm', n, τ.H, τ.nx⟩ ∧ tm' 4 = .slice wa ws.length wc ∧ tm' 11 = .pointer (some ⟨A, 0, none⟩) ∧ tm' 13 = .int .i64 x ∧ tm' 14 = .int .i64 y ∧ tm' 15 = .pointer (some ⟨X, 0, none⟩) ∧ tm' 16 = .pointer (some ⟨Y, 0, none⟩) ∧ MkO τ m V ∧ IntsC .old τ (.slice wa ws.length wc) ws ∧ ObC .self τ A (.cells (moV m V) 0 none false (some 29)) ∧ ObC .next τ X (.cells (moV m { V with e := .slice (some ⟨bx, 0, some tx⟩) m.entry.length m.entry.length }) 0 none false (some 29)) ∧ ObC .table τ Y (.cells (moV m { V with e := .slice (some ⟨by', 0, some ty⟩) m.entry.length m.entry.length }) 0 none false (some 29)) ∧ ObC (.tab 0) τ bx (.cells ((m.entry.set 0 x).map (fun i => .int .i64 i) ++ rx) 1 (some tx) false (some 3)) ∧ ObC (.tab 1) τ by' (.cells ((m.entry.set 0 y).map (fun i => .int .i64 i) ++ ry) 1 (some ty) false (some 3))) ?_ ?_
  · have g3 : cellAt τ.H ⟨X, 3, none⟩ (.slice (some ⟨bx, 0, some tx⟩) m.entry.length m.entry.length) := hX.cell rfl
    have g4 : cellAt τ.H ⟨Y, 3, none⟩ (.slice (some ⟨by', 0, some ty⟩) m.entry.length m.entry.length) := hY.cell rfl
    refine OpsQ.drawn [7, 9] (K := fun _ _ H => cellAt H ⟨Y, 3, none⟩ (.slice (some ⟨by', 0, some ty⟩) m.entry.length m.entry.length)) mixed13 (by kernel_rfl) (by kernel_rfl) [0, 1, 2, 3, 4, 5, 6, 7, 8, 9] (by kernel_rfl) (fun _ _ => g4) ?_
    refine OpsQ.one rfl rfl rfl (by kernel_rfl) ?_
    repeat (first | (refine OpsL.q (by exact ofa) ?_) | (refine OpsL.nil ?_; (dsimp only)))
    refine OpsQ.one rfl rfl rfl (by kernel_rfl) ?_
    repeat (first | (refine OpsL.q (by exact old) ?_) | (refine OpsL.nil ?_; (skip)))
    refine OpsQ.one rfl rfl rfl (by kernel_rfl) ?_
    repeat (first | (refine OpsL.q (by exact ofa) ?_) | (refine OpsL.nil ?_; (dsimp only)))
    refine OpsQ.sp 9 (v := (.slice (some ⟨by', 0, some ty⟩) m.entry.length m.entry.length)) rfl (by kernel_rfl) (by subst_vars; decide) g4 (fun H2 nx2 hK => aop_load (by (first | (simp only [ASt.ev, tmPut, ↓reduceIte, Nat.reduceEqDiff, *]; rfl))) (by exact rfl) rfl hK) ?_
    refine OpsQ.one rfl rfl rfl (by kernel_rfl) ?_
    repeat (first | (refine OpsL.q (by exact omv) ?_) | (refine OpsL.nil ?_; (skip)))
    refine OpsQ.one rfl rfl rfl (by kernel_rfl) ?_
    repeat (first | (refine OpsL.q (by exact omv) ?_) | (refine OpsL.nil ?_; (skip)))
    refine OpsQ.one rfl rfl rfl (by kernel_rfl) ?_
    repeat (first | (refine OpsL.q (by exact oixa) ?_) | (refine OpsL.nil ?_; (dsimp only)))
    refine OpsQ.act (by kernel_rfl) (ActStep.walk rfl rfl ?_)
    refine OpsL.setC (k := 0) (v := .int .i64 x) hox (hlc rx) (hset x rx) rfl (by exact rfl) rfl (by (first | (simp only [ASt.ev, tmPut, ↓reduceIte, Nat.reduceEqDiff, *]; rfl))) (by (first | (simp only [ASt.ev, tmPut, ↓reduceIte, Nat.reduceEqDiff, *]; done))) rfl ?_
    intro σ1 hox1 x1 _
    have g5 : cellAt σ1.H ⟨Y, 3, none⟩ (.slice (some ⟨by', 0, some ty⟩) m.entry.length m.entry.length) := (hY.keep x1 (by simp)).cell rfl
    refine OpsL.nil ⟨fun _ _ => g5, ?_⟩
    refine OpsQ.one rfl rfl rfl (by kernel_rfl) ?_
    repeat (first | (refine OpsL.q (by exact oixa) ?_) | (refine OpsL.nil ?_; (dsimp only)))
    refine OpsQ.act (by kernel_rfl) (ActStep.walk rfl rfl ?_)
    refine OpsL.setC (k := 0) (v := .int .i64 y) (hoy.keep x1 (by simp)) (hlc ry) (hset y ry) rfl (by exact rfl) rfl (by (first | (simp only [ASt.ev, tmPut, ↓reduceIte, Nat.reduceEqDiff, *]; rfl))) (by (first | (simp only [ASt.ev, tmPut, ↓reduceIte, Nat.reduceEqDiff, *]; done))) rfl ?_
    intro σ2 hoy1 x2 _
    refine OpsL.nil ⟨fun k hk => absurd hk (by simp), ?_⟩
    exact OpsQ.nil ⟨rfl, _, σ2, rfl, by simp [tmPut, *], by simp [tmPut, *], by simp [tmPut, *], by simp [tmPut, *], by simp [tmPut, *], by simp [tmPut, *], keepN x2 (by simp) (keepN x1 (by simp) hm), (hwI.keep x1 (by simp)).keep x2 (by simp), (ha.keep x1 (by simp)).keep x2 (by simp), (hX.keep x1 (by simp)).keep x2 (by simp), (hY.keep x1 (by simp)).keep x2 (by simp), hox1.keep x2 (by simp), hoy1⟩
  clear t4 t11 t13 t14 t15 t16 hm hwI ha hX hY hox hoy hset hlc
  rintro e st ⟨rfl, tm, τ, rfl, t4, t11, t13, t14, t15, t16, hm, hwI, ha, hX, hY, hox, hoy⟩
  (change Trip _ _ _ _ _)
  have g0 := (hbA ha).all
  repeat (first | (refine Trip.seq ?_) | (refine Trip.ops ?_))
  refine OpsL.p (by subst_vars; decide) (aop_loadAgg (k := 8) (by (first | (simp only [ASt.ev, tmPut, ↓reduceIte, Nat.reduceEqDiff, *]; done))) (by exact rfl) rfl (by exact rfl) g0) ?_
  repeat (first | (refine OpsL.q (by exact omv) ?_))
  refine OpsL.c3 (hf := entersLWord) (hc := (lwordC W0 hm.in hmod hwI.at (most := 20) (by omega))) (h := ?_)
  rintro wv nx1 H1 ⟨w, ob, hwl, how, hob, hx⟩
  obtain ⟨σ, rfl, rfl, x3, hc3⟩ := Chg.ofExtC .ret hx
  replace hm := hm.keep x3 (by simp)
  replace ha := ha.keep x3 (by simp)
  replace hX := hX.keep x3 (by simp)
  replace hY := hY.keep x3 (by simp)
  replace hox := hox.keep x3 (by simp)
  replace hoy := hoy.keep x3 (by simp)
  clear hx hc3 x3 hwI g0 t4 t11 t13 t14
  (first | (refine OpsL.q (by exact oasg) ?_))
  refine OpsL.nil ?_
  (change Trip _ _ _ _ _)
  refine Trip.ok fun hok => ?_
  replace hok : ∀ id o, σ.H id = some o → id < σ.nx := hok
  have hle := hxb.2
  have hle2 := hyb.2
  have hz2 : m.of.getD y.toNat 0 = 0 := by
    have r1 := (classesF_pos hmod (p := x.toNat) (by omega)).1 d1
    have r2 := (classesF_pos hmod (p := y.toNat) (by omega)).1 (by omega)
    rw [← (classesF_cong hmod r1 r2 d2).of]; exact d3
  have hmx : ∀ {b t : Nat} {c : Co} {z : Int} {r : List Value}, ObC c σ b (.cells ((m.entry.set 0 z).map (fun i => .int .i64 i) ++ r) 1 (some t) false (some 3)) → MoIn σ.H (reEntry m z) { V with e := .slice (some ⟨b, 0, some t⟩) m.entry.length m.entry.length } := fun {b t c z r} h => by
    have h1 : IntsAt σ.H (.slice (some ⟨b, 0, some t⟩) m.entry.length m.entry.length) (m.entry.set 0 z) := by
      have := (OwnC.cls (enc := encN) (f := fun i => .int .i64 i) (fun _ => rfl) h).ints
      rw [List.length_set] at this
      exact this
    have hi := hm.in
    exact ⟨hi.of, h1, hi.final, hi.inn, hi.low, hi.ret⟩
  have hx1 := hmx hox
  have hy1 := hmx hoy
  have hX1 : getc σ.H ⟨X, 0, none⟩ 8 = some (moV (reEntry m x) { V with e := .slice (some ⟨bx, 0, some tx⟩) m.entry.length m.entry.length }) := getc_all (m := 8) hX.2.2 rfl
  have hY1 : getc σ.H ⟨Y, 0, none⟩ 8 = some (moV (reEntry m y) { V with e := .slice (some ⟨by', 0, some ty⟩) m.entry.length m.entry.length }) := getc_all (m := 8) hY.2.2 rfl
  have okx := reEntry_ok hmod hxb.1 (by omega) d3
  have oky := reEntry_ok hmod hyb.1 (by omega) hz2
  have heq := takes_apart hmod ⟨hxb.1, by omega⟩ ⟨hyb.1, by omega⟩ d1 d2 d3 w
  have hrw : RowsAt encPr 2 σ.H wv w := by
    have := OwnOf.at (sz := 2) (fun _ => rfl) how
    exact this
  clear hm ha hX hY hox hoy hmx how hob
  generalize reEntry m x = mx at *
  generalize reEntry m y = my at *
  obtain ⟨Wx, hWx⟩ : ∃ Wx : MoV, { V with e := .slice (some ⟨bx, 0, some tx⟩) m.entry.length m.entry.length } = Wx := ⟨_, rfl⟩
  obtain ⟨Wy, hWy⟩ : ∃ Wy : MoV, { V with e := .slice (some ⟨by', 0, some ty⟩) m.entry.length m.entry.length } = Wy := ⟨_, rfl⟩
  rw [hWx] at hx1 hX1
  rw [hWy] at hy1 hY1
  clear hWx hWy
  repeat (first | (refine Trip.seq ?_))
  refine Trip.mono (Q := fun e st => e = .normal ∧ ∃ (tm' : Nat → Value) (nx' : Nat) (H' : Heap), st = ⟨tm', n, H', nx'⟩ ∧ tm' 10 = .bool true) ?_ ?_
  · refine OpsQ.drawn [2, 5] (K := fun _ nn HH => Ext σ.nx σ.H nn HH) mixed13 (by kernel_rfl) (by kernel_rfl) [0, 1, 3, 4, 2, 5, 6, 7] (by kernel_rfl) (fun _ _ => Ext.refl) ?_
    refine OpsQ.sp 2 (v := .agg (moV mx Wx).toArray) rfl (by kernel_rfl) (by subst_vars; decide) Ext.refl (fun H2 nx2 hK => aop_loadAgg (k := 8) (by (first | (simp only [ASt.ev, tmPut, ↓reduceIte, Nat.reduceEqDiff, *]; done))) (by exact rfl) rfl (by exact rfl) (getc_ext hK hok hX1)) ?_
    refine OpsQ.one rfl rfl rfl (by kernel_rfl) ?_
    repeat (first | (refine OpsL.q (by exact omv) ?_) | (refine OpsL.nil ?_; (skip)))
    refine OpsQ.sp 5 (v := .agg (moV my Wy).toArray) rfl (by kernel_rfl) (by subst_vars; decide) Ext.refl (fun H2 nx2 hK => aop_loadAgg (k := 8) (by (first | (simp only [ASt.ev, tmPut, ↓reduceIte, Nat.reduceEqDiff, *]; done))) (by exact rfl) rfl (by exact rfl) (getc_ext hK hok hY1)) ?_
    refine OpsQ.one rfl rfl rfl (by kernel_rfl) ?_
    repeat (first | (refine OpsL.q (by exact omv) ?_) | (refine OpsL.nil ?_; (skip)))
    refine OpsQ.act (by kernel_rfl) (ActStep.walk rfl rfl ?_)
    refine OpsL.c2 (hf := entersFTakes) (hc := (fTakesC W0 hx1 okx.lens okx hrw (by omega))) (h := ?_)
    rintro v1 nx1 H1 ⟨rfl, z1⟩
    refine OpsL.nil ⟨fun _ _ => z1, ?_⟩
    refine OpsQ.act (by kernel_rfl) (ActStep.walk rfl rfl ?_)
    refine OpsL.c2 (hf := entersFTakes) (hc := (fTakesC W0 (hy1.ext z1 hok) oky.lens oky (hrw.ext z1 hok) (by omega))) (h := ?_)
    rintro v2 nx2 H2 ⟨rfl, z2⟩
    refine OpsL.nil ⟨fun _ _ => z1.trans z2, ?_⟩
    rw [heq]
    refine OpsQ.one rfl rfl rfl (by kernel_rfl) ?_
    refine OpsL.p (by subst_vars; decide) (aop_eqlB (a := takesF my w) (b := takesF my w) (by (first | (simp only [ASt.ev, tmPut, ↓reduceIte, Nat.reduceEqDiff, *]; done))) (by (first | (simp only [ASt.ev, tmPut, ↓reduceIte, Nat.reduceEqDiff, *]; done))) (by exact rfl)) ?_
    refine OpsL.nil ?_
    rw [beq_self_eq_true]
    refine OpsQ.one rfl rfl rfl (by kernel_rfl) ?_
    repeat (first | (refine OpsL.q (by exact oasg) ?_) | (refine OpsL.nil ?_; (skip)))
    exact OpsQ.nil ⟨rfl, _, nx2, H2, rfl, by simp [tmPut]⟩
  rintro e st ⟨rfl, tm, nx', H', rfl, t10⟩
  (change Trip _ _ _ _ _)
  repeat (first | (refine Trip.ret ?_; (skip)))
  exact ⟨.inr rfl, _, res_tmp, by simp [tmPut, *]⟩
theorem core (W0 : World) (nx : Nat) (H : Heap) (a0 : Int) (w0 : (Lit.int .i64 a0).wf = true) (x1 : List Int) (w1 : ∀ x ∈ x1, (Lit.int .i64 x).wf = true) (a2 : Int) (w2 : (Lit.int .i64 a2).wf = true) (a3 : Int) (w3 : (Lit.int .i64 a3).wf = true) (x4 : List Int) (w4 : ∀ x ∈ x4, (Lit.int .i64 x).wf = true) (us : List Value)
    (hat : All2 (Arg.at H) [.plain (.int .i64 a0), .ints .i64 x1, .plain (.int .i64 a2), .plain (.int .i64 a3), .ints .i64 x4] us) (hok : ∀ id o, H id = some o → id < nx) : ACalls Try.prog W0 6 us nx H fun v _ _ => v = .bool true := by
  obtain ⟨u0, us, rfl, h0, hat⟩ := hat.cons
  obtain ⟨u1, us, rfl, h1, hat⟩ := hat.cons
  obtain ⟨u2, us, rfl, h2, hat⟩ := hat.cons
  obtain ⟨u3, us, rfl, h3, hat⟩ := hat.cons
  obtain ⟨u4, us, rfl, h4, hat⟩ := hat.cons
  obtain rfl := hat.nil
  obtain rfl : u0 = _ := h0
  obtain rfl : u2 = _ := h2
  obtain rfl : u3 = _ := h3
  exact law W0 h1.1 h4.1 (wf64 w0) hok
theorem own : ownKnob Try.prog.godebug = none := by kernel_rfl
theorem laidOut : laidOutB Try.prog = true := by kernel_rfl
theorem cells_ints : Try.prog.cellsOf 3 = 1 := by kernel_rfl
set_option maxRecDepth 100000 in
theorem lifted (os : Os) (started : os.Started) (H : Type) (enc : TypeId × Value → H) :
    ReturnsInHanded {} Try.checked os 6 .any (Rows.foldApartSpec.pre6 enc Try.prog Try.f6 Rows.foldApartRow.domain false) (Rows.foldApartSpec.post enc Try.prog Try.f6 false true false false) := by
  refine returnsInHanded_of_change (C := Try.checked) own started (by kernel_rfl) Try.func6
    (ChangeSpec.witness6 (enc := enc) (C := Try.checked) false ⟨#[], #[.int .i64 0, .slice none 0 0, .int .i64 0, .int .i64 0, .slice none 0 0], []⟩ 8 (by kernel_rfl) (by kernel_rfl) (by kernel_rfl) (by kernel_rfl)) ?_
  intro W base args ds gs before hval0 hW _ _
  have hval : ∀ (j : Nat) t v, Try.f6.params[j]? = some t → args[j]? = some v → Value.okWide Try.prog W .any base t v := hval0
  have hW' := hW
  obtain ⟨p, q, hA0, hV, rfl, _, _⟩ := hW
  have hA : DataW.TrodAll enc Try.prog W 0 (fun _ => true) true Try.f6.params.toList args.toList ds p := hA0
  rw [Try.params6] at hA hval
  obtain ⟨v0, vs0, d0, ds0, p0, q0, hargs, rfl, rfl, h0, r0⟩ := trodAll_cons hA
  obtain ⟨v1, vs1, d1, ds1, p1, q1, rfl, rfl, rfl, h1, r1⟩ := trodAll_cons r0
  obtain ⟨v2, vs2, d2, ds2, p2, q2, rfl, rfl, rfl, h2, r2⟩ := trodAll_cons r1
  obtain ⟨v3, vs3, d3, ds3, p3, q3, rfl, rfl, rfl, h3, r3⟩ := trodAll_cons r2
  obtain ⟨v4, vs4, d4, ds4, p4, q4, rfl, rfl, rfl, h4, r4⟩ := trodAll_cons r3
  obtain ⟨rfl, rfl, rfl⟩ := trodAll_nil r4
  obtain rfl : args = #[v0, v1, v2, v3, v4] := by cases args; simp_all
  obtain ⟨rfl, rfl⟩ := trodVars_none hV
  obtain ⟨a0, rfl, rfl, rfl, w0⟩ := open_int Try.underlying3 (hval 0 3 v0 rfl rfl) h0
  obtain ⟨x1, c1, w1⟩ := came_ints Try.underlying22 Try.underlying3 cells_ints (hval 1 22 v1 rfl rfl) h1
  obtain ⟨a2, rfl, rfl, rfl, w2⟩ := open_int Try.underlying3 (hval 2 3 v2 rfl rfl) h2
  obtain ⟨a3, rfl, rfl, rfl, w3⟩ := open_int Try.underlying3 (hval 3 3 v3 rfl rfl) h3
  obtain ⟨x4, c4, w4⟩ := came_ints Try.underlying22 Try.underlying3 cells_ints (hval 4 22 v4 rfl rfl) h4
  clear hA0 hval0
  refine (law_calls (ars := [.plain (.int .i64 a0), .ints .i64 x1, .plain (.int .i64 a2), .plain (.int .i64 a3), .ints .i64 x4]) (vs := [_, _, _, _, _]) ⟨⟨rfl, rfl⟩, c1, ⟨rfl, rfl⟩, ⟨rfl, rfl⟩, c4, trivial⟩ (fun nx H us hat hok => core W nx H a0 w0 x1 w1 a2 w2 a3 w3 x4 w4 us hat hok)).mono fun e W' ⟨he, hg⟩ => ?_
  subst he
  exact ⟨_, rfl, law_post laidOut (by kernel_rfl) rfl Try.underlying4 rfl hW' rfl hg⟩
theorem over : Rows.foldApartRow.holds Try.pinned (OpenSpec.ofChange Rows.foldApartSpec) :=
  OpenClaim.holds_of_wide 6 Try.f6 rfl rfl rfl rfl rfl rfl rfl ⟨rfl, rfl, rfl, rfl, rfl⟩ rfl rfl rfl rfl rfl (by kernel_rfl) Try.func6 (by kernel_rfl)
    (of_decide_eq_true (by kernel_rfl)) (by unfold Func.isWrapper; first | (rw [if_pos (by decide +kernel)]; kernel_rfl) | (rw [if_neg (by decide +kernel)]; exact ⟨rfl, rfl⟩))
    (fun os started H enc _ => lifted os started H enc)
theorem proved : Rows.FoldApartSaid := over
end Go.Proofs.Ytdadkkmpnecpbaa.foldApart
