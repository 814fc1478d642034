import Derived.Test.YtooakbmehcchnaaQFM13
set_option linter.unusedSimpArgs false
set_option linter.unusedVariables false
set_option maxRecDepth 100000
set_option maxHeartbeats 16000000
namespace Go.Am
open Go.RowKit
theorem rows_drop {R : Heap → Value → List Int → Prop} {H : Heap} {a : Addr} {n c : Nat} {l : List (List Int)} (h : ListAt R H (.slice (some a) n c) l) (hn : l.length = n) (h2 : 2 ≤ n) : ListAt R H (.slice (some ⟨a.block, a.off + 1 * 1, a.spot⟩) (n - 1) (n - 1)) (l.drop 1) := by
  rcases h with ⟨c', h, rfl⟩ | ⟨p, c', h, hv⟩
  · simp at hn; omega
  · cases h
    refine .inr ⟨_, l.length - 1, by rw [List.length_drop, ← hn], fun i hi => ?_⟩
    rw [List.length_drop] at hi
    obtain ⟨u, q1, q2⟩ := hv (1 + i) (by omega)
    refine ⟨u, ?_, by rw [List.getElem_drop]; exact q2⟩
    show cellAt H ⟨a.block, a.off + 1 * 1 + i, a.spot⟩ u
    rw [show a.off + 1 * 1 + i = a.off + (1 + i) by omega]
    exact q1
end Go.Am
namespace Go.Proofs.Ytooakbmehcchnaa.foldErrs
open Go.Am Go.RowKit Go.ChangeShapes Go.WideShapes Go.ChangeAt
attribute [local irreducible] aop OpsL Trip blockExit OpsD OpsK OpsR OpsQ
theorem entersKnown : Am.Enters Try.prog 13 := ⟨Try.f13, Try.func13, by kernel_rfl, by kernel_rfl⟩
theorem law (W0 : World) {nx : Nat} {H : Heap} {size which : Int} {nv : Value} {ns : List Int} (hn : IntsAt H nv ns) (hs : -9223372036854775808 ≤ size ∧ size ≤ 9223372036854775807) (hok0 : ∀ id o, H id = some o → id < nx) :
    ACalls Try.prog W0 5 [.int .i64 size, nv, .int .i64 which] nx H fun v _ _ => v = .bool true := by
  refine ACalls.by_trip (fn := Try.f5) (c := _) Try.func5 rfl (fun tm n hn0 htm => ?_)
  have e0 : tm 0 = .int .i64 size := htm 0
  have e1 : tm 1 = nv := htm 1
  have e2 : tm 2 = .int .i64 which := htm 2
  clear htm
  replace hn0 : n = 73 := hn0
  repeat (first | (refine OpsL.q (by exact oasg) ?_) | (refine Trip.seq ?_) | (refine Trip.ops ?_) | (refine OpsL.nil ?_; (change Trip _ _ _ _ _)))
  refine OpsL.c0 (hf := entersKnown) (hc := ((known_told W0 Tabs.nil).2 nx H)) (h := ?_)
  rintro v0 nx0 H0 ⟨rfl, rfl, rfl⟩
  dsimp only
  repeat (first | (refine OpsL.q (by exact onot) ?_) | (refine OpsL.nil ?_; (change Trip _ _ _ _ _)))
  refine Trip.ifF ?_
  repeat (first | (refine OpsL.q (by exact omv) ?_) | (refine Trip.seq ?_) | (refine Trip.ops ?_) | (refine Trip.skip ?_; (change Trip _ _ _ _ _)))
  refine OpsL.c2 (hf := entersMake) (hc := (makeC W0 hn hok0 hs)) (h := ?_)
  rintro vm nx1 H1 ⟨V, σ, rfl, rfl, rfl, -, hm⟩
  have hq := mkP_ok size
  have hgood : modF (makeF size ns) = true := makeQ_ok hq
  have hlen : MoLen (makeF size ns) := makeQ_MoLen hq
  generalize makeF size ns = m at *
  clear hq hs
  refine OpsL.newC .self (aop_alloc (l := moV noMo nilV) (by exact rfl)) (by subst_vars; decide) ?_
  intro σ1 ha x1
  replace hm := hm.keep x1 (by simp)
  refine OpsL.setAllC (vs := moV m V) ha (by exact rfl) rfl rfl hm.one (by (first | (simp only [ASt.ev, tmPut, ↓reduceIte, Nat.reduceEqDiff, *]; done))) (by (first | (simp only [ASt.ev, tmPut, ↓reduceIte, Nat.reduceEqDiff, *]; done))) ?_
  intro σ2 ha2 x2
  replace hm := hm.keep x2 (by simp)
  obtain ⟨A, hA⟩ : ∃ A, σ.nx = A := ⟨_, rfl⟩
  rw [hA] at ha2
  refine OpsL.nil ?_
  (change Trip _ _ _ _ _)
  repeat (first | (refine OpsL.q (by exact omv) ?_) | (refine Trip.seq ?_) | (refine Trip.ops ?_))
  refine OpsL.c2 (hf := entersWithinN) (hc := (withinC W0 which 6 (by omega) (by omega))) (h := ?_)
  rintro v nx1 H1 ⟨rfl, rfl, rfl⟩
  refine OpsL.nil ?_
  (change Trip _ _ _ _ _)
  have w0 := Int.emod_nonneg which (show (6 : Int) ≠ 0 by omega)
  have w1 := Int.emod_lt_of_pos which (show (0 : Int) < 6 by omega)
  generalize which % 6 = w at *
  clear ha x1 x2
  obtain ⟨hsz, hho, hst⟩ : sizedF m = true ∧ housedF m = true ∧ allN m.of.length (stateF m) = true := by
    unfold modF at hgood
    simp only [Bool.and_eq_true] at hgood
    exact ⟨hgood.1.1, hgood.1.2, hgood.2⟩
  have hbad : ∀ m' : Mo, sizedF m' = false → modF m' = false := fun m' h => by unfold modF; rw [h]; rfl
  obtain ⟨s1, s2, s3, s4, s5, s6, s7, s8⟩ := of_decide_eq_true hsz
  have L1 := hlen.of
  have L2 := hlen.entry
  have L3 := hlen.final
  have L4 := hlen.inn
  have L5 := hlen.low
  have L6 := hlen.ret
  have hin := hm.in
  have g2 : cellAt σ2.H ⟨A, 2, none⟩ V.o := ha2.cell rfl
  have g3 : cellAt σ2.H ⟨A, 3, none⟩ V.e := ha2.cell rfl
  have g4 : cellAt σ2.H ⟨A, 4, none⟩ V.f := ha2.cell rfl
  have g5 : cellAt σ2.H ⟨A, 5, none⟩ V.i := ha2.cell rfl
  obtain ⟨fa, fk, hvf⟩ := OwnC.slice encBo_len hm.fi
  obtain ⟨bo, hvo, hbo⟩ := hm.of.block
  obtain ⟨be, hve, hbe⟩ := hm.en.block
  refine Trip.mono (Q := fun e st => e = .normal ∧ ∃ tm' σ' m' V', st = ⟨tm', n, σ'.H, σ'.nx⟩ ∧ tm' 7 = .pointer (some ⟨A, 0, none⟩) ∧ ObC .self σ' A (.cells (moV m' V') 0 none false (some 28)) ∧ MoIn σ'.H m' V' ∧ MoLen m' ∧ modF m' = false) ?_ ?_
  · have hw : w = 0 ∨ w = 1 ∨ w = 2 ∨ w = 3 ∨ w = 4 ∨ w = 5 := by omega
    clear w0 w1
    refine Trip.block ?_
    rcases hw with rfl | rfl | rfl | rfl | rfl | rfl
    · repeat (first | (refine Trip.seq ?_) | (refine Trip.ops ?_))
      refine OpsL.eqlT ?_ (c := by decide)
      repeat (first | (refine OpsL.q (by exact oasg) ?_) | (refine OpsL.nil ?_; (change Trip _ _ _ _ _)))
      refine Trip.ifT ?_
      repeat (first | (refine OpsL.q (by exact ofa) ?_) | (refine Trip.ops ?_))
      refine OpsL.setC (k := 2) (v := .slice none 0 0) (cs' := moV { m with of := [] } { V with o := .slice none 0 0 }) ha2 (by simp [moV]) rfl (by exact rfl) rfl rfl (by (first | (simp only [ASt.ev, tmPut, ↓reduceIte, Nat.reduceEqDiff, *]; rfl))) (by (first | (simp only [ASt.ev, tmPut, ↓reduceIte, Nat.reduceEqDiff, *]; rfl))) rfl ?_
      rintro τ ha3 hx -
      have hin' := (hm.keep hx (by simp)).in
      refine OpsL.nil ?_
      ((repeat (refine blockExit_normal ?_)); dsimp only)
      exact ⟨rfl, _, τ, { m with of := [] }, { V with o := .slice none 0 0 }, rfl, by simp [tmPut, *], ha3, ⟨.inl ⟨0, rfl, rfl⟩, hin'.entry, hin'.final, hin'.inn, hin'.low, hin'.ret⟩, ⟨Nat.zero_le _, hlen.entry, hlen.final, hlen.inn, hlen.low, hlen.ret, hlen.inn1, hlen.low1, hlen.ret1, hlen.ret2⟩, hbad _ (decide_eq_false (by simp only [List.length_nil]; omega))⟩
    · repeat (first | (refine Trip.seq ?_) | (refine Trip.ops ?_))
      refine OpsL.eqlF ?_ (c := by decide)
      repeat (first | (refine OpsL.q (by exact oasg) ?_) | (refine OpsL.nil ?_; (change Trip _ _ _ _ _)))
      refine Trip.ifF ?_
      repeat (first | (refine Trip.seq ?_) | (refine Trip.ops ?_))
      refine OpsL.eqlT ?_ (c := by decide)
      repeat (first | (refine OpsL.q (by exact oasg) ?_) | (refine OpsL.nil ?_; (change Trip _ _ _ _ _)))
      refine Trip.ifT ?_
      repeat (first | (refine OpsL.q (by exact ofa) ?_) | (refine Trip.ops ?_))
      refine OpsL.setC (k := 3) (v := .slice none 0 0) (cs' := moV { m with entry := [] } { V with e := .slice none 0 0 }) ha2 (by simp [moV]) rfl (by exact rfl) rfl rfl (by (first | (simp only [ASt.ev, tmPut, ↓reduceIte, Nat.reduceEqDiff, *]; rfl))) (by (first | (simp only [ASt.ev, tmPut, ↓reduceIte, Nat.reduceEqDiff, *]; rfl))) rfl ?_
      rintro τ ha3 hx -
      have hin' := (hm.keep hx (by simp)).in
      refine OpsL.nil ?_
      ((repeat (refine blockExit_normal ?_)); dsimp only)
      exact ⟨rfl, _, τ, { m with entry := [] }, { V with e := .slice none 0 0 }, rfl, by simp [tmPut, *], ha3, ⟨hin'.of, .inl ⟨0, rfl, rfl⟩, hin'.final, hin'.inn, hin'.low, hin'.ret⟩, ⟨hlen.of, Nat.zero_le _, hlen.final, hlen.inn, hlen.low, hlen.ret, hlen.inn1, hlen.low1, hlen.ret1, hlen.ret2⟩, hbad _ (decide_eq_false (by simp only [List.length_nil]; omega))⟩
    · repeat (first | (refine Trip.seq ?_) | (refine Trip.ops ?_))
      refine OpsL.eqlF ?_ (c := by decide)
      repeat (first | (refine OpsL.q (by exact oasg) ?_) | (refine OpsL.nil ?_; (change Trip _ _ _ _ _)))
      refine Trip.ifF ?_
      repeat (first | (refine Trip.seq ?_) | (refine Trip.ops ?_))
      refine OpsL.eqlF ?_ (c := by decide)
      repeat (first | (refine OpsL.q (by exact oasg) ?_) | (refine OpsL.nil ?_; (change Trip _ _ _ _ _)))
      refine Trip.ifF ?_
      repeat (first | (refine Trip.seq ?_) | (refine Trip.ops ?_))
      refine OpsL.eqlT ?_ (c := by decide)
      repeat (first | (refine OpsL.q (by exact oasg) ?_) | (refine OpsL.nil ?_; (change Trip _ _ _ _ _)))
      refine Trip.ifT ?_
      rw [hvf] at g4
      have hfi := hm.fi
      rw [hvf] at hfi
      repeat (first | (refine OpsL.q (by first | exact ofa | exact old) ?_) | (refine Trip.ops ?_))
      refine OpsL.litC (σ := σ2) (enc := encBo) (z := true) (el := 4) rfl (by (first | (simp only [ASt.ev, tmPut, ↓reduceIte, Nat.reduceEqDiff, *]; rfl))) (by kernel_rfl) (by subst_vars; decide) ?_
      intro σ5 x5 hu
      replace hm := hm.keep x5 (by simp)
      replace ha2 := ha2.keep x5 (by simp)
      refine OpsL.appC (bytes := 1) (z := [.bool false]) encBo_len encBo_one (hfi.keep x5 (by simp)) hu (by exact rfl) (by exact rfl) (by exact rfl) (by exact rfl) (by exact rfl) rfl (by simp; omega) (by omega) (by (first | (simp only [ASt.ev, tmPut, ↓reduceIte, Nat.reduceEqDiff, *]; done))) (by (first | (simp only [ASt.ev, tmPut, ↓reduceIte, Nat.reduceEqDiff, *]; done))) (by subst_vars; decide) ?_
      intro v3 σ6 hfi6 x6
      obtain ⟨va, vk, rfl⟩ := OwnC.slice encBo_len hfi6
      replace ha2 := ha2.keep x6 (by simp)
      have h1 := hm.of.keep x6 (by simp)
      have h2 := hm.en.keep x6 (by simp)
      have h3 := Row2.keepL x6 (by simp) (fun _ _ => by simp) hm.inn
      have h4 := Row2.keepL x6 (by simp) (fun _ _ => by simp) hm.low
      have h5 := Row3.keepL x6 (by simp) (fun _ _ => by simp) (fun _ _ _ => by simp) hm.ret
      repeat (first | (refine OpsL.q (by exact ofa) ?_))
      refine OpsL.setC (k := 4) (v := .slice va (m.final ++ [true]).length vk) (cs' := moV { m with final := m.final ++ [true] } { V with f := .slice va (m.final ++ [true]).length vk }) ha2 (by simp [moV]) rfl (by exact rfl) rfl rfl (by (first | (simp only [ASt.ev, tmPut, ↓reduceIte, Nat.reduceEqDiff, *]; rfl))) (by (first | (simp only [ASt.ev, tmPut, ↓reduceIte, Nat.reduceEqDiff, *]; done))) rfl ?_
      rintro τ ha3 hx -
      have hin' := (MkO.keep hx (by simp) (MkO.mk (m := { m with final := m.final ++ [true] }) (V := { V with f := .slice va (m.final ++ [true]).length vk }) h1 h2 hfi6 h3 h4 h5)).in
      refine OpsL.nil ?_
      ((repeat (refine blockExit_normal ?_)); dsimp only)
      exact ⟨rfl, _, τ, { m with final := m.final ++ [true] }, { V with f := .slice va (m.final ++ [true]).length vk }, rfl, by simp [tmPut, *], ha3, hin', ⟨hlen.of, hlen.entry, by simp; omega, hlen.inn, hlen.low, hlen.ret, hlen.inn1, hlen.low1, hlen.ret1, hlen.ret2⟩, hbad _ (decide_eq_false (by simp only [List.length_append, List.length_singleton]; omega))⟩
    · repeat (first | (refine Trip.seq ?_) | (refine Trip.ops ?_))
      refine OpsL.eqlF ?_ (c := by decide)
      repeat (first | (refine OpsL.q (by exact oasg) ?_) | (refine OpsL.nil ?_; (change Trip _ _ _ _ _)))
      refine Trip.ifF ?_
      repeat (first | (refine Trip.seq ?_) | (refine Trip.ops ?_))
      refine OpsL.eqlF ?_ (c := by decide)
      repeat (first | (refine OpsL.q (by exact oasg) ?_) | (refine OpsL.nil ?_; (change Trip _ _ _ _ _)))
      refine Trip.ifF ?_
      repeat (first | (refine Trip.seq ?_) | (refine Trip.ops ?_))
      refine OpsL.eqlF ?_ (c := by decide)
      repeat (first | (refine OpsL.q (by exact oasg) ?_) | (refine OpsL.nil ?_; (change Trip _ _ _ _ _)))
      refine Trip.ifF ?_
      repeat (first | (refine Trip.seq ?_) | (refine Trip.ops ?_))
      refine OpsL.eqlT ?_ (c := by decide)
      repeat (first | (refine OpsL.q (by exact oasg) ?_) | (refine OpsL.nil ?_; (change Trip _ _ _ _ _)))
      refine Trip.ifT ?_
      obtain ⟨vs, hvs, hall⟩ := hm.inn
      obtain ⟨ob, hob, hobc⟩ := hvs
      have hvl : vs.length = m.inn.length := hall.1
      cases ob with
      | none =>
        obtain ⟨_, _, h0⟩ := hob
        omega
      | some bt =>
      obtain ⟨b, t⟩ := bt
      obtain ⟨hvi, hcl, rest, hH⟩ := hob
      rw [hvl] at hvi
      rw [hvi] at g5
      obtain ⟨r, hr, hrow⟩ : ∃ r : SV, aSlice Try.prog σ2.H 25 (.slice (some ⟨b, 0, some t⟩) m.inn.length m.inn.length) (some (.int .i64 1)) none none = some (slV r) ∧ ∀ G, L2At G (.slice (some ⟨b, 0, some t⟩) m.inn.length m.inn.length) m.inn → L2At G (slV r) (m.inn.drop 1) := by
        refine ⟨(some ⟨b, 0 + 1 * 1, if 1 = m.inn.length ∧ 0 < 1 then none else some t⟩, m.inn.length - 1, m.inn.length - 1), aSlice_tagged (el := 23) (sz := 1) (a := ⟨b, 0, some t⟩) (len := m.inn.length) (cap := m.inn.length) (l := 1) (h := m.inn.length) (tg := t) (lo := some (.int .i64 1)) (hi := none) (by exact rfl) (by exact rfl) hH rfl rfl rfl (.inr ⟨.i64, rfl⟩) (.inl ⟨rfl, rfl⟩) (by omega) (Nat.le_refl _), fun G hG => ?_⟩
        by_cases h1 : m.inn.length = 1
        · refine .inr ⟨_, m.inn.length - 1, by rw [List.length_drop]; rfl, fun i hi => ?_⟩
          rw [List.length_drop] at hi
          omega
        · have := rows_drop hG rfl (by omega)
          rw [if_neg (by omega)]
          exact this
      repeat (first | (refine OpsL.q (by first | exact ofa | exact old) ?_) | (refine Trip.ops ?_))
      refine OpsL.p (by subst_vars; decide) (aop_slice (a := some (.int .i64 1)) (b := none) (c := none) (by (first | (simp only [ASt.ev, tmPut, ↓reduceIte, Nat.reduceEqDiff, *]; done))) (by simp [evOpt, ASt.ev]; rfl) rfl rfl hr) ?_
      repeat (first | (refine OpsL.q (by exact ofa) ?_))
      refine OpsL.setC (k := 5) (v := slV r) (cs' := moV { m with inn := m.inn.drop 1 } { V with i := slV r }) ha2 (by simp [moV]) rfl (by exact rfl) rfl rfl (by (first | (simp only [ASt.ev, tmPut, ↓reduceIte, Nat.reduceEqDiff, *]; rfl))) (by (first | (simp only [ASt.ev, tmPut, ↓reduceIte, Nat.reduceEqDiff, *]; done))) rfl ?_
      rintro τ ha3 hx -
      have hin' := (hm.keep hx (by simp)).in
      have hrow' : L2At τ.H (slV r) (m.inn.drop 1) := hrow _ (by have q := hin'.inn; rw [hvi] at q; exact q)
      refine OpsL.nil ?_
      ((repeat (refine blockExit_normal ?_)); dsimp only)
      exact ⟨rfl, _, τ, { m with inn := m.inn.drop 1 }, { V with i := slV r }, rfl, by simp [tmPut, *], ha3, ⟨hin'.of, hin'.entry, hin'.final, hrow', hin'.low, hin'.ret⟩, ⟨hlen.of, hlen.entry, hlen.final, by simp; omega, hlen.low, hlen.ret, fun i => by simpa [List.getD_eq_getElem?_getD] using hlen.inn1 (i + 1), hlen.low1, hlen.ret1, hlen.ret2⟩, hbad _ (decide_eq_false (by simp only [List.length_drop]; omega))⟩
    · repeat (first | (refine Trip.seq ?_) | (refine Trip.ops ?_))
      refine OpsL.eqlF ?_ (c := by decide)
      repeat (first | (refine OpsL.q (by exact oasg) ?_) | (refine OpsL.nil ?_; (change Trip _ _ _ _ _)))
      refine Trip.ifF ?_
      repeat (first | (refine Trip.seq ?_) | (refine Trip.ops ?_))
      refine OpsL.eqlF ?_ (c := by decide)
      repeat (first | (refine OpsL.q (by exact oasg) ?_) | (refine OpsL.nil ?_; (change Trip _ _ _ _ _)))
      refine Trip.ifF ?_
      repeat (first | (refine Trip.seq ?_) | (refine Trip.ops ?_))
      refine OpsL.eqlF ?_ (c := by decide)
      repeat (first | (refine OpsL.q (by exact oasg) ?_) | (refine OpsL.nil ?_; (change Trip _ _ _ _ _)))
      refine Trip.ifF ?_
      repeat (first | (refine Trip.seq ?_) | (refine Trip.ops ?_))
      refine OpsL.eqlF ?_ (c := by decide)
      repeat (first | (refine OpsL.q (by exact oasg) ?_) | (refine OpsL.nil ?_; (change Trip _ _ _ _ _)))
      refine Trip.ifF ?_
      repeat (first | (refine Trip.seq ?_) | (refine Trip.ops ?_))
      refine OpsL.eqlT ?_ (c := by decide)
      repeat (first | (refine OpsL.q (by exact oasg) ?_) | (refine OpsL.nil ?_; (change Trip _ _ _ _ _)))
      refine Trip.ifT ?_
      repeat (first | (refine OpsL.q (by exact ofa) ?_) | (refine Trip.ops ?_))
      refine OpsL.setC (k := 0) (v := .int .i64 (-1)) (cs' := moV { m with plains := -1 } V) ha2 (by simp [moV]) rfl (by exact rfl) rfl rfl (by (first | (simp only [ASt.ev, tmPut, ↓reduceIte, Nat.reduceEqDiff, *]; rfl))) (by (first | (simp only [ASt.ev, tmPut, ↓reduceIte, Nat.reduceEqDiff, *]; rfl))) rfl ?_
      rintro τ ha3 hx -
      have hin' := (hm.keep hx (by simp)).in
      refine OpsL.nil ?_
      ((repeat (refine blockExit_normal ?_)); dsimp only)
      exact ⟨rfl, _, τ, { m with plains := -1 }, V, rfl, by simp [tmPut, *], ha3, ⟨hin'.of, hin'.entry, hin'.final, hin'.inn, hin'.low, hin'.ret⟩, ⟨hlen.of, hlen.entry, hlen.final, hlen.inn, hlen.low, hlen.ret, hlen.inn1, hlen.low1, hlen.ret1, hlen.ret2⟩, hbad _ (decide_eq_false (by simp))⟩
    · repeat (first | (refine Trip.seq ?_) | (refine Trip.ops ?_))
      refine OpsL.eqlF ?_ (c := by decide)
      repeat (first | (refine OpsL.q (by exact oasg) ?_) | (refine OpsL.nil ?_; (change Trip _ _ _ _ _)))
      refine Trip.ifF ?_
      repeat (first | (refine Trip.seq ?_) | (refine Trip.ops ?_))
      refine OpsL.eqlF ?_ (c := by decide)
      repeat (first | (refine OpsL.q (by exact oasg) ?_) | (refine OpsL.nil ?_; (change Trip _ _ _ _ _)))
      refine Trip.ifF ?_
      repeat (first | (refine Trip.seq ?_) | (refine Trip.ops ?_))
      refine OpsL.eqlF ?_ (c := by decide)
      repeat (first | (refine OpsL.q (by exact oasg) ?_) | (refine OpsL.nil ?_; (change Trip _ _ _ _ _)))
      refine Trip.ifF ?_
      repeat (first | (refine Trip.seq ?_) | (refine Trip.ops ?_))
      refine OpsL.eqlF ?_ (c := by decide)
      repeat (first | (refine OpsL.q (by exact oasg) ?_) | (refine OpsL.nil ?_; (change Trip _ _ _ _ _)))
      refine Trip.ifF ?_
      repeat (first | (refine Trip.seq ?_) | (refine Trip.ops ?_))
      refine OpsL.eqlF ?_ (c := by decide)
      repeat (first | (refine OpsL.q (by exact oasg) ?_) | (refine OpsL.nil ?_; (change Trip _ _ _ _ _)))
      refine Trip.ifF ?_
      repeat (first | (refine Trip.seq ?_) | (refine Trip.ops ?_))
      refine OpsL.eqlT ?_ (c := by decide)
      repeat (first | (refine OpsL.q (by exact oasg) ?_) | (refine OpsL.nil ?_; (change Trip _ _ _ _ _)))
      refine Trip.ifT ?_
      rw [hvo] at g2
      rw [hve] at g3
      repeat (first | (refine OpsL.q (by first | exact ofa | exact old | exact olen) ?_) | (refine Trip.ops ?_))
      refine OpsL.litC (σ := σ2) (enc := encN) (z := (m.of.length : Int)) (el := 3) rfl (by (first | (simp only [ASt.ev, tmPut, ↓reduceIte, Nat.reduceEqDiff, *]; done))) (by kernel_rfl) (by subst_vars; decide) ?_
      intro σ5 x5 hu
      replace hm := hm.keep x5 (by simp)
      replace ha2 := ha2.keep x5 (by simp)
      replace hbe := hbe.keep x5 (by simp)
      refine OpsL.newC .entry (aop_append_full (b := be) (k := m.entry.length) (m := 1) (sz := 1) (bytes := 8) (el := 3) (u := .slice (some ⟨σ2.nx, 0, none⟩) 1 1) (cs := m.entry.map (.int .i64 ·)) (xs := [.int .i64 m.of.length]) (z := [.int .i64 0]) (xd := .slice 3) (by (first | (simp only [ASt.ev, tmPut, ↓reduceIte, Nat.reduceEqDiff, *]; done))) (by (first | (simp only [ASt.ev, tmPut, ↓reduceIte, Nat.reduceEqDiff, *]; done))) hbe.2.2 (by simp) (rows_src encN_len (by omega) hu) rfl (by omega) (by exact rfl) (by exact rfl) rfl (by exact rfl) (by exact rfl) (by exact rfl) rfl (by omega) (by omega)) (by subst_vars; decide) ?_
      intro σ6 hn6 x6
      replace hm := hm.keep x6 (by simp)
      replace ha2 := ha2.keep x6 (by simp)
      repeat (first | (refine OpsL.q (by exact ofa) ?_))
      refine OpsL.setC (k := 3) (v := .slice (some ⟨σ5.nx, 0, some σ5.nx⟩) (m.entry.length + 1) (m.entry.length + 1)) (cs' := moV { m with entry := m.entry ++ [(m.of.length : Int)] } { V with e := .slice (some ⟨σ5.nx, 0, some σ5.nx⟩) (m.entry.length + 1) (m.entry.length + 1) }) ha2 (by simp [moV]) rfl (by exact rfl) rfl rfl (by (first | (simp only [ASt.ev, tmPut, ↓reduceIte, Nat.reduceEqDiff, *]; rfl))) (by (first | (simp only [ASt.ev, tmPut, ↓reduceIte, Nat.reduceEqDiff, *]; done))) rfl ?_
      rintro τ ha3 hx -
      have hin' := (hm.keep hx (by simp)).in
      have hn7 := hn6.keep hx (by simp)
      have he : IntsAt τ.H (.slice (some ⟨σ5.nx, 0, some σ5.nx⟩) (m.entry.length + 1) (m.entry.length + 1)) (m.entry ++ [(m.of.length : Int)]) := by
        refine .inr ⟨⟨σ5.nx, 0, some σ5.nx⟩, m.entry.length + 1, by simp, fun i hi => ?_⟩
        refine hn7.cell ?_
        rw [Nat.zero_add, show m.entry.map (Value.int .i64 ·) ++ [.int .i64 (m.of.length : Int)] = (m.entry ++ [(m.of.length : Int)]).map (Value.int .i64 ·) by simp, List.getElem?_map, List.getElem?_eq_getElem hi]
        rfl
      have hb5 : modF { m with entry := m.entry ++ [(m.of.length : Int)] } = false := by
        have : housedF { m with entry := m.entry ++ [(m.of.length : Int)] } = false := by
          unfold housedF
          rw [Bool.and_eq_false_iff]
          refine .inr (allN_no (i := m.entry.length) (by simp) (decide_eq_false fun q => ?_))
          have q1 := q.1.2
          simp only [getD_snoc_eq] at q1
          omega
        unfold modF
        rw [this, Bool.and_false]
        rfl
      refine OpsL.nil ?_
      ((repeat (refine blockExit_normal ?_)); dsimp only)
      exact ⟨rfl, _, τ, { m with entry := m.entry ++ [(m.of.length : Int)] }, { V with e := .slice (some ⟨σ5.nx, 0, some σ5.nx⟩) (m.entry.length + 1) (m.entry.length + 1) }, rfl, by simp [tmPut, *], ha3, ⟨hin'.of, he, hin'.final, hin'.inn, hin'.low, hin'.ret⟩, ⟨hlen.of, by simp; omega, hlen.final, hlen.inn, hlen.low, hlen.ret, hlen.inn1, hlen.low1, hlen.ret1, hlen.ret2⟩, hb5⟩
  clear e0 e1 e2 g2 g3 g4 g5 hin hm ha2 hbo hbe hvo hve hvf hlen hgood hsz hho hst hbad
  rintro e st ⟨rfl, tm, σ, m', V', rfl, t7, ha, hin, hlen, hbad⟩
  refine Trip.ok fun hok => ?_
  replace hok : ∀ id o, σ.H id = some o → id < σ.nx := hok
  have hbx : MoBox σ.H A m' V' := MoBox.of ha.2.2
  (change Trip _ _ _ _ _)
  refine Trip.seq ?_
  refine Trip.ops ?_
  refine OpsL.loadM hbx ?_ (by (first | (simp only [ASt.ev, tmPut, ↓reduceIte, Nat.reduceEqDiff, *]; done))) (by subst_vars; decide)
  refine OpsL.c1 (hf := entersFSmall) (hc := (smallBadC W0 hin hlen hbad).ok) (h := ?_)
  rintro v1 nx1 H1 ⟨⟨rfl, y1⟩, ok1⟩
  repeat (first | (refine OpsL.q (by exact omv) ?_))
  refine OpsL.p (by subst_vars; decide) (aop_extract (a := #[.agg (moV noMo nilV).toArray, .int .i64 11]) (v := .agg (moV noMo nilV).toArray) (by (first | (simp only [ASt.ev, tmPut, ↓reduceIte, Nat.reduceEqDiff, *]; done))) rfl) ?_
  refine OpsL.p (by subst_vars; decide) (aop_extract (a := #[.agg (moV noMo nilV).toArray, .int .i64 11]) (v := .int .i64 11) (by (first | (simp only [ASt.ev, tmPut, ↓reduceIte, Nat.reduceEqDiff, *]; done))) rfl) ?_
  refine OpsL.new (by subst_vars; decide) (aop_alloc (l := moV noMo nilV) (by exact rfl)) ?_
  refine OpsL.upd (aop_store (a := ⟨nx1, 0, none⟩) (k := 8) (u := .agg (moV noMo nilV).toArray) (by (first | (simp only [ASt.ev, tmPut, ↓reduceIte, Nat.reduceEqDiff, *]; done))) (by (first | (simp only [ASt.ev, tmPut, ↓reduceIte, Nat.reduceEqDiff, *]; done))) (by exact rfl) rfl (o := .cells (moV noMo nilV) 0 none false (some 28)) (setc_allN (vs := moV noMo nilV) Heap.put_eq rfl rfl)) ?_
  have y2 : Ext nx1 H1 (nx1 + 1) (Heap.put (H1.put nx1 (.cells (moV noMo nilV) 0 none false (some 28))) nx1 (.cells (moV noMo nilV) 0 none false (some 28))) := ⟨Nat.le_succ _, fun i hi => (Heap.put_ne (by omega)).trans (Heap.put_ne (by omega))⟩
  have hF : (Heap.put (H1.put nx1 (.cells (moV noMo nilV) 0 none false (some 28))) nx1 (.cells (moV noMo nilV) 0 none false (some 28))) nx1 = some (.cells (moV noMo nilV) 0 none false (some 28)) := Heap.put_eq
  generalize (Heap.put (H1.put nx1 (.cells (moV noMo nilV) 0 none false (some 28))) nx1 (.cells (moV noMo nilV) 0 none false (some 28))) = F at *
  have y3 := y1.trans y2
  have f2 : cellAt F ⟨nx1, 2, none⟩ (.slice none 0 0) := cell_of hF rfl
  have f3 : cellAt F ⟨nx1, 3, none⟩ (.slice none 0 0) := cell_of hF rfl
  (first | (refine OpsL.q (by exact oasg) ?_))
  refine OpsL.nil ?_
  (change Trip _ _ _ _ _)
  refine Trip.ok fun okF => ?_
  replace okF : ∀ id o, F id = some o → id < nx1 + 1 := okF
  refine Trip.seq ?_
  refine Trip.ops ?_
  refine OpsL.loadM (hbx.ext y3 hok) ?_ (by (first | (simp only [ASt.ev, tmPut, ↓reduceIte, Nat.reduceEqDiff, *]; done))) (by subst_vars; decide)
  refine OpsL.c1 (hf := entersFCheck) (hc := (fcheckC W0 (hin.ext y3 hok) hlen)) (h := ?_)
  rintro v2 nx2 H2 ⟨rfl, y4⟩
  rw [hbad]
  have f2' := cell_ext y4 okF f2
  have f3' := cell_ext y4 okF f3
  repeat (first | (refine OpsL.q (by first | exact omv | exact oasg | exact oeql | exact olen | exact ofa | exact old | exact opkT) ?_) | (refine Trip.ret ?_; (dsimp only)) | (refine OpsL.nil ?_; (change Trip _ _ _ _ _)) | (refine OpsL.ung ?_))
  exact ⟨.inr rfl, _, res_tmp, by simp [tmPut]⟩
theorem core (W0 : World) (nx : Nat) (H : Heap) (a0 : Int) (w0 : (Lit.int .i64 a0).wf = true) (x1 : List Int) (w1 : ∀ x ∈ x1, (Lit.int .i64 x).wf = true) (a2 : Int) (w2 : (Lit.int .i64 a2).wf = true) (us : List Value)
    (hat : All2 (Arg.at H) [.plain (.int .i64 a0), .ints .i64 x1, .plain (.int .i64 a2)] us) (hok : ∀ id o, H id = some o → id < nx) : ACalls Try.prog W0 5 us nx H fun v _ _ => v = .bool true := by
  obtain ⟨u0, us, rfl, h0, hat⟩ := hat.cons
  obtain ⟨u1, us, rfl, h1, hat⟩ := hat.cons
  obtain ⟨u2, us, rfl, h2, hat⟩ := hat.cons
  obtain rfl := hat.nil
  obtain rfl : u0 = _ := h0
  obtain rfl : u2 = _ := h2
  exact law W0 h1.1 (wf64 w0) hok
theorem own : ownKnob Try.prog.godebug = none := by kernel_rfl
theorem laidOut : laidOutB Try.prog = true := by kernel_rfl
theorem cells_ints : Try.prog.cellsOf 3 = 1 := by kernel_rfl
theorem lifted (os : Os) (started : os.Started) (H : Type) (enc : TypeId × Value → H) :
    ReturnsInHanded {} Try.checked os 5 .any (Rows.foldErrsSpec.pre6 enc Try.prog Try.f5 Rows.foldErrsRow.domain false) (Rows.foldErrsSpec.post enc Try.prog Try.f5 false true false false) := by
  refine returnsInHanded_of_change (C := Try.checked) own started (by kernel_rfl) Try.func5
    (ChangeSpec.witness6 (enc := enc) (C := Try.checked) false ⟨#[], #[.int .i64 0, .slice none 0 0, .int .i64 0], []⟩ 8 (by kernel_rfl) (by kernel_rfl) (by kernel_rfl) (by kernel_rfl)) ?_
  intro W base args ds gs before hval0 hW _ _
  have hval : ∀ (j : Nat) t v, Try.f5.params[j]? = some t → args[j]? = some v → Value.okWide Try.prog W .any base t v := hval0
  have hW' := hW
  obtain ⟨p, q, hA0, hV, rfl, _, _⟩ := hW
  have hA : DataW.TrodAll enc Try.prog W 0 (fun _ => true) true Try.f5.params.toList args.toList ds p := hA0
  rw [Try.params5] at hA hval
  obtain ⟨v0, vs0, d0, ds0, p0, q0, hargs, rfl, rfl, h0, r0⟩ := trodAll_cons hA
  obtain ⟨v1, vs1, d1, ds1, p1, q1, rfl, rfl, rfl, h1, r1⟩ := trodAll_cons r0
  obtain ⟨v2, vs2, d2, ds2, p2, q2, rfl, rfl, rfl, h2, r2⟩ := trodAll_cons r1
  obtain ⟨rfl, rfl, rfl⟩ := trodAll_nil r2
  obtain rfl : args = #[v0, v1, v2] := by cases args; simp_all
  obtain ⟨rfl, rfl⟩ := trodVars_none hV
  obtain ⟨a0, rfl, rfl, rfl, w0⟩ := open_int Try.underlying3 (hval 0 3 v0 rfl rfl) h0
  obtain ⟨x1, c1, w1⟩ := came_ints Try.underlying23 Try.underlying3 cells_ints (hval 1 23 v1 rfl rfl) h1
  obtain ⟨a2, rfl, rfl, rfl, w2⟩ := open_int Try.underlying3 (hval 2 3 v2 rfl rfl) h2
  clear hA0 hval0
  refine (law_calls (ars := [.plain (.int .i64 a0), .ints .i64 x1, .plain (.int .i64 a2)]) (vs := [_, _, _]) ⟨⟨rfl, rfl⟩, c1, ⟨rfl, rfl⟩, trivial⟩ (fun nx H us hat hok => core W nx H a0 w0 x1 w1 a2 w2 us hat hok)).mono fun e W' ⟨he, hg⟩ => ?_
  subst he
  exact ⟨_, rfl, law_post laidOut (by kernel_rfl) rfl Try.underlying4 rfl hW' rfl hg⟩
theorem over : Rows.foldErrsRow.holds Try.pinned (OpenSpec.ofChange Rows.foldErrsSpec) :=
  OpenClaim.holds_of_wide 5 Try.f5 rfl rfl rfl rfl rfl rfl rfl ⟨rfl, rfl, rfl, rfl, rfl⟩ rfl rfl rfl rfl rfl (by kernel_rfl) Try.func5 (by kernel_rfl)
    (of_decide_eq_true (by kernel_rfl)) (by unfold Func.isWrapper; first | (rw [if_pos (by decide +kernel)]; kernel_rfl) | (rw [if_neg (by decide +kernel)]; exact ⟨rfl, rfl⟩))
    (fun os started H enc _ => lifted os started H enc)
end Go.Proofs.Ytooakbmehcchnaa.foldErrs
namespace Go.Am
open Go.RowKit
theorem flat_map1 {α : Type} {enc : α → List Value} {f : α → Value} (h : ∀ x, enc x = [f x]) (l : List α) : l.flatMap enc = l.map f := by
  induction l with
  | nil => rfl
  | cons x l ih => rw [List.flatMap_cons, ih, h]; rfl
section
variable {α : Type} {enc : α → List Value} {f : α → Value} {el : TypeId} {c : Co} {σ : CH} {v : Value} {l : List α}
theorem OwnC.opn (he : ∀ x, enc x = [f x]) (h : OwnC enc el c σ v l) (hl : l ≠ []) : ∃ b t rest, v = .slice (some ⟨b, 0, some t⟩) l.length l.length ∧ ObC c σ b (.cells (l.map f ++ rest) 1 (some t) false (some el)) := by
  obtain ⟨ob, ho, hc⟩ := h
  cases ob with
  | none => obtain ⟨_, _, h0⟩ := ho; exact absurd (List.eq_nil_of_length_eq_zero h0) hl
  | some bt =>
    obtain ⟨b, t⟩ := bt
    obtain ⟨h1, h2, rest, h3⟩ := ho
    rw [flat_map1 he] at h3
    exact ⟨b, t, rest, h1, (hc b t rfl).1, (hc b t rfl).2, h3⟩
theorem OwnC.cls (he : ∀ x, enc x = [f x]) {b t : Nat} {rest : List Value} (h : ObC c σ b (.cells (l.map f ++ rest) 1 (some t) false (some el))) : OwnC enc el c σ (.slice (some ⟨b, 0, some t⟩) l.length l.length) l := by
  refine ⟨some (b, t), ⟨rfl, ?_, rest, ?_⟩, fun b' t' e => ?_⟩
  · rw [flat_map1 he, List.length_map, Nat.mul_one]
  · rw [flat_map1 he]; exact h.2.2
  · cases e
    exact ⟨h.1, h.2.1⟩
end
theorem set_mapped {α : Type} {f : α → Value} {l : List α} {rest : List Value} {i : Nat} {x : α} (h : i < l.length) : (l.map f ++ rest).set i (f x) = (l.set i x).map f ++ rest := by
  rw [List.set_append_left _ _ (by simpa using h), List.map_set]
theorem Chg.ofExt {σ : CH} {nx' : Nat} {H' : Heap} (h : Ext σ.nx σ.H nx' H') : ∃ τ : CH, nx' = τ.nx ∧ H' = τ.H ∧ Chg [] σ τ :=
  ⟨⟨nx', fun i => if i < σ.nx then σ.C i else .tmp, H'⟩, rfl, rfl, h.1, fun i hi => ⟨if_pos hi, fun _ => h.2 i hi⟩⟩
theorem encN_f (x : Int) : encN x = [(fun x => Value.int .i64 x) x] := rfl
theorem encS_f (s : SV) : encS s = [slV s] := rfl
theorem encBo_f (b : Bool) : encBo b = [(fun b => Value.bool b) b] := rfl
theorem getD_set_len {l : List (List Int)} {p i : Nat} {r : List Int} {k : Nat} (h : ∀ i, (l.getD i []).length ≤ k) (hr : r.length ≤ k) : ((l.set p r).getD i []).length ≤ k := by
  rw [List.getD_eq_getElem?_getD, List.getElem?_set]
  split
  · split
    · exact hr
    · simp
  · rw [← List.getD_eq_getElem?_getD]; exact h i
end Go.Am
namespace Go.Proofs.Ytooakbmehcchnaa
open Go.Am Go.RowKit
theorem Row2.opn {d : Nat → Co} {c : Co} {σ : CH} {v : Value} {l : List (List Int)} (h : Row2 d c σ v l) {i : Nat} (hi : i < l.length) : ∃ (vs : List SV) (b t : Nat) (rest : List Value) (a : Option Addr) (k : Nat), v = .slice (some ⟨b, 0, some t⟩) l.length l.length ∧ ObC c σ b (.cells (vs.map slV ++ rest) 1 (some t) false (some 23)) ∧ AllC (fun p => RowI (d p)) σ vs l ∧ vs.length = l.length ∧ vs[i]? = some (a, (l.getD i []).length, k) ∧ RowI (d i) σ (.slice a (l.getD i []).length k) (l.getD i []) := by
  obtain ⟨vs, h1, h2⟩ := h
  obtain ⟨b, t, rest, q1, q2⟩ := OwnC.opn encS_f h1 (fun e => by have := h2.1; rw [e] at this; simp at this; omega)
  obtain ⟨u, p1, p2⟩ := h2.2 i l[i] (List.getElem?_eq_getElem hi)
  have e : l.getD i [] = l[i] := by rw [List.getD_eq_getElem?_getD, List.getElem?_eq_getElem hi]; rfl
  rw [e]
  obtain ⟨a, k, hs⟩ := OwnC.slice encN_len p2
  have hu : u = (a, l[i].length, k) := by
    obtain ⟨u1, u2, u3⟩ := u
    unfold slV at hs
    simp only [Value.slice.injEq] at hs
    obtain ⟨rfl, rfl, rfl⟩ := hs
    rfl
  rw [hu] at p1 p2
  rw [h2.1] at q1
  exact ⟨vs, b, t, rest, a, k, q1, q2, h2, h2.1, p1, p2⟩
theorem Row2.cls {d : Nat → Co} {c : Co} {σ : CH} {l : List (List Int)} {vs : List SV} {b t : Nat} {rest : List Value} (h : ObC c σ b (.cells (vs.map slV ++ rest) 1 (some t) false (some 23))) (ha : AllC (fun p => RowI (d p)) σ vs l) : Row2 d c σ (.slice (some ⟨b, 0, some t⟩) l.length l.length) l :=
  ⟨vs, by rw [← ha.1]; exact OwnC.cls encS_f h, ha⟩
theorem Row3.opn {σ : CH} {v : Value} {l : List (List (List Int))} (h : Row3 σ v l) {i : Nat} (hi : i < l.length) : ∃ (vs : List SV) (b t : Nat) (rest : List Value) (a : Option Addr) (k : Nat), v = .slice (some ⟨b, 0, some t⟩) l.length l.length ∧ ObC .ret σ b (.cells (vs.map slV ++ rest) 1 (some t) false (some 25)) ∧ AllC (fun p => Row2 (.ret2 p) (.ret1 p)) σ vs l ∧ vs.length = l.length ∧ vs[i]? = some (a, (l.getD i []).length, k) ∧ Row2 (.ret2 i) (.ret1 i) σ (.slice a (l.getD i []).length k) (l.getD i []) := by
  obtain ⟨vs, h1, h2⟩ := h
  obtain ⟨b, t, rest, q1, q2⟩ := OwnC.opn encS_f h1 (fun e => by have := h2.1; rw [e] at this; simp at this; omega)
  obtain ⟨u, p1, p2⟩ := h2.2 i l[i] (List.getElem?_eq_getElem hi)
  have e : l.getD i [] = l[i] := by rw [List.getD_eq_getElem?_getD, List.getElem?_eq_getElem hi]; rfl
  rw [e]
  obtain ⟨a, k, hs⟩ : ∃ a k, slV u = .slice a l[i].length k := by
    obtain ⟨ws, w1, w2⟩ := p2
    obtain ⟨a, k, w3⟩ := OwnC.slice encS_len w1
    exact ⟨a, k, by rw [w3, w2.1]⟩
  have hu : u = (a, l[i].length, k) := by
    obtain ⟨u1, u2, u3⟩ := u
    unfold slV at hs
    simp only [Value.slice.injEq] at hs
    obtain ⟨rfl, rfl, rfl⟩ := hs
    rfl
  rw [hu] at p1 p2
  rw [h2.1] at q1
  exact ⟨vs, b, t, rest, a, k, q1, q2, h2, h2.1, p1, p2⟩
theorem Row3.cls {σ : CH} {l : List (List (List Int))} {vs : List SV} {b t : Nat} {rest : List Value} (h : ObC .ret σ b (.cells (vs.map slV ++ rest) 1 (some t) false (some 25))) (ha : AllC (fun p => Row2 (.ret2 p) (.ret1 p)) σ vs l) : Row3 σ (.slice (some ⟨b, 0, some t⟩) l.length l.length) l :=
  ⟨vs, by rw [← ha.1]; exact OwnC.cls encS_f h, ha⟩
end Go.Proofs.Ytooakbmehcchnaa
namespace Go.Proofs.Ytooakbmehcchnaa
open Go.Am Go.RowKit
attribute [local irreducible] aop OpsL Trip blockExit OpsD OpsK OpsR OpsQ
theorem ck0 (W0 : World) {σ : CH} {A : Nat} {m : Mo} {V : MoV} {tm : Nat → Value} {n : Nat} {p : Nat} {x at_ : Int} (hn0 : n = 160) (t3 : tm 3 = .int .i64 at_) (t11 : tm 11 = .pointer (some ⟨A, 0, none⟩)) (t12 : tm 12 = .int .i64 p) (t13 : tm 13 = .int .i64 x) (ha : ObC .self σ A (.cells (moV m V) 0 none false (some 28))) (hm : MkO σ m V) (hlen : MoLen m) (hg : modF m = true) (hp : p < m.of.length) (hat : -9223372036854775808 ≤ at_ ∧ at_ ≤ 9223372036854775807) {Q : AExit → ASt → Prop}
    (hQ : ∀ tm' σ' m' V', tm' 11 = .pointer (some ⟨A, 0, none⟩) → ObC .self σ' A (.cells (moV m' V') 0 none false (some 28)) → MoIn σ'.H m' V' → MoLen m' → Q .normal ⟨tm', n, σ'.H, σ'.nx⟩) : Trip Try.prog W0 (subC [1, 1, 1, 1, 1, 1, 0, 1, 2, 1, 3] (bodyMk Try.f6)) ⟨tm, n, σ.H, σ.nx⟩ Q := by
  obtain ⟨s1, s2, s3, s4, s5, s6, s7, s8⟩ := of_decide_eq_true (show sizedF m = true by
    unfold modF at hg
    simp only [Bool.and_eq_true] at hg
    exact hg.1.1)
  have L1 := hlen.of
  have L2 := hlen.entry
  have L3 := hlen.final
  have L4 := hlen.inn
  have L5 := hlen.low
  have L6 := hlen.ret
  repeat (first | (refine OpsL.q (by first | exact omv | exact ofa) ?_) | (refine Trip.ops ?_))
  refine OpsL.setC (k := 0) (v := .int .i64 x) (cs' := moV { m with plains := x } V) ha (by simp [moV]) rfl (by exact rfl) rfl rfl (by (first | (simp only [ASt.ev, tmPut, ↓reduceIte, Nat.reduceEqDiff, *]; rfl))) (by (first | (simp only [ASt.ev, tmPut, ↓reduceIte, Nat.reduceEqDiff, *]; done))) rfl ?_
  rintro τ ha3 hx -
  have hin := (hm.keep hx (by simp)).in
  refine OpsL.nil ?_
  (dsimp only)
  exact hQ _ τ { m with plains := x } V (by simp [tmPut, *]) ha3 ⟨hin.of, hin.entry, hin.final, hin.inn, hin.low, hin.ret⟩ ⟨hlen.of, hlen.entry, hlen.final, hlen.inn, hlen.low, hlen.ret, hlen.inn1, hlen.low1, hlen.ret1, hlen.ret2⟩
theorem ck1 (W0 : World) {σ : CH} {A : Nat} {m : Mo} {V : MoV} {tm : Nat → Value} {n : Nat} {p : Nat} {x at_ : Int} (hn0 : n = 160) (t3 : tm 3 = .int .i64 at_) (t11 : tm 11 = .pointer (some ⟨A, 0, none⟩)) (t12 : tm 12 = .int .i64 p) (t13 : tm 13 = .int .i64 x) (ha : ObC .self σ A (.cells (moV m V) 0 none false (some 28))) (hm : MkO σ m V) (hlen : MoLen m) (hg : modF m = true) (hp : p < m.of.length) (hat : -9223372036854775808 ≤ at_ ∧ at_ ≤ 9223372036854775807) {Q : AExit → ASt → Prop}
    (hQ : ∀ tm' σ' m' V', tm' 11 = .pointer (some ⟨A, 0, none⟩) → ObC .self σ' A (.cells (moV m' V') 0 none false (some 28)) → MoIn σ'.H m' V' → MoLen m' → Q .normal ⟨tm', n, σ'.H, σ'.nx⟩) : Trip Try.prog W0 (subC [1, 1, 1, 1, 1, 1, 0, 1, 2, 1, 4, 1, 3] (bodyMk Try.f6)) ⟨tm, n, σ.H, σ.nx⟩ Q := by
  obtain ⟨s1, s2, s3, s4, s5, s6, s7, s8⟩ := of_decide_eq_true (show sizedF m = true by
    unfold modF at hg
    simp only [Bool.and_eq_true] at hg
    exact hg.1.1)
  have L1 := hlen.of
  have L2 := hlen.entry
  have L3 := hlen.final
  have L4 := hlen.inn
  have L5 := hlen.low
  have L6 := hlen.ret
  repeat (first | (refine OpsL.q (by first | exact omv | exact ofa) ?_) | (refine Trip.ops ?_))
  refine OpsL.setC (k := 1) (v := .int .i64 x) (cs' := moV { m with closings := x } V) ha (by simp [moV]) rfl (by exact rfl) rfl rfl (by (first | (simp only [ASt.ev, tmPut, ↓reduceIte, Nat.reduceEqDiff, *]; rfl))) (by (first | (simp only [ASt.ev, tmPut, ↓reduceIte, Nat.reduceEqDiff, *]; done))) rfl ?_
  rintro τ ha3 hx -
  have hin := (hm.keep hx (by simp)).in
  refine OpsL.nil ?_
  (dsimp only)
  exact hQ _ τ { m with closings := x } V (by simp [tmPut, *]) ha3 ⟨hin.of, hin.entry, hin.final, hin.inn, hin.low, hin.ret⟩ ⟨hlen.of, hlen.entry, hlen.final, hlen.inn, hlen.low, hlen.ret, hlen.inn1, hlen.low1, hlen.ret1, hlen.ret2⟩
theorem ck2 (W0 : World) {σ : CH} {A : Nat} {m : Mo} {V : MoV} {tm : Nat → Value} {n : Nat} {p : Nat} {x at_ : Int} (hn0 : n = 160) (t3 : tm 3 = .int .i64 at_) (t11 : tm 11 = .pointer (some ⟨A, 0, none⟩)) (t12 : tm 12 = .int .i64 p) (t13 : tm 13 = .int .i64 x) (ha : ObC .self σ A (.cells (moV m V) 0 none false (some 28))) (hm : MkO σ m V) (hlen : MoLen m) (hg : modF m = true) (hp : p < m.of.length) (hat : -9223372036854775808 ≤ at_ ∧ at_ ≤ 9223372036854775807) {Q : AExit → ASt → Prop}
    (hQ : ∀ tm' σ' m' V', tm' 11 = .pointer (some ⟨A, 0, none⟩) → ObC .self σ' A (.cells (moV m' V') 0 none false (some 28)) → MoIn σ'.H m' V' → MoLen m' → Q .normal ⟨tm', n, σ'.H, σ'.nx⟩) : Trip Try.prog W0 (subC [1, 1, 1, 1, 1, 1, 0, 1, 2, 1, 4, 1, 4, 1, 3] (bodyMk Try.f6)) ⟨tm, n, σ.H, σ.nx⟩ Q := by
  obtain ⟨s1, s2, s3, s4, s5, s6, s7, s8⟩ := of_decide_eq_true (show sizedF m = true by
    unfold modF at hg
    simp only [Bool.and_eq_true] at hg
    exact hg.1.1)
  have L1 := hlen.of
  have L2 := hlen.entry
  have L3 := hlen.final
  have L4 := hlen.inn
  have L5 := hlen.low
  have L6 := hlen.ret
  have g2 : cellAt σ.H ⟨A, 2, none⟩ V.o := ha.cell rfl
  obtain ⟨bo, hvo, hbo⟩ := hm.of.block
  rw [hvo] at g2
  repeat (first | (refine OpsL.q (by first | exact omv | exact ofa | exact old | exact oixa) ?_) | (refine Trip.ops ?_))
  refine OpsL.setC (k := p) (v := .int .i64 x) (cs' := (m.of.set p x).map (.int .i64 ·)) hbo (by rw [List.length_map]; exact hp) (by rw [set_ints]) (by exact rfl) rfl rfl (by (first | (simp only [ASt.ev, tmPut, ↓reduceIte, Nat.reduceEqDiff, *]; rfl))) (by (first | (simp only [ASt.ev, tmPut, ↓reduceIte, Nat.reduceEqDiff, *]; done))) (by show Addr.mk _ (0 + (p : Int).toNat * 1) _ = _; simp) ?_
  rintro τ ho hx -
  have ha3 := ha.keep hx (by simp)
  have hin := (MkO.mk (σ := τ) (m := { m with of := m.of.set p x }) (V := V) ⟨bo, (by rw [hvo]; simp), ho⟩ (hm.en.keep hx (by simp)) (hm.fi.keep hx (by simp)) (Row2.keepL hx (by simp) (fun _ _ => by simp) hm.inn) (Row2.keepL hx (by simp) (fun _ _ => by simp) hm.low) (Row3.keepL hx (by simp) (fun _ _ => by simp) (fun _ _ _ => by simp) hm.ret)).in
  refine OpsL.nil ?_
  (dsimp only)
  exact hQ _ τ { m with of := m.of.set p x } V (by simp [tmPut, *]) ha3 hin ⟨by rw [List.length_set]; exact hlen.of, hlen.entry, hlen.final, hlen.inn, hlen.low, hlen.ret, hlen.inn1, hlen.low1, hlen.ret1, hlen.ret2⟩
theorem ck3 (W0 : World) {σ : CH} {A : Nat} {m : Mo} {V : MoV} {tm : Nat → Value} {n : Nat} {p : Nat} {x at_ : Int} (hn0 : n = 160) (t3 : tm 3 = .int .i64 at_) (t11 : tm 11 = .pointer (some ⟨A, 0, none⟩)) (t12 : tm 12 = .int .i64 p) (t13 : tm 13 = .int .i64 x) (ha : ObC .self σ A (.cells (moV m V) 0 none false (some 28))) (hm : MkO σ m V) (hlen : MoLen m) (hg : modF m = true) (hp : p < m.of.length) (hat : -9223372036854775808 ≤ at_ ∧ at_ ≤ 9223372036854775807) {Q : AExit → ASt → Prop}
    (hQ : ∀ tm' σ' m' V', tm' 11 = .pointer (some ⟨A, 0, none⟩) → ObC .self σ' A (.cells (moV m' V') 0 none false (some 28)) → MoIn σ'.H m' V' → MoLen m' → Q .normal ⟨tm', n, σ'.H, σ'.nx⟩) : Trip Try.prog W0 (subC [1, 1, 1, 1, 1, 1, 0, 1, 2, 1, 4, 1, 4, 1, 4, 1, 3] (bodyMk Try.f6)) ⟨tm, n, σ.H, σ.nx⟩ Q := by
  obtain ⟨s1, s2, s3, s4, s5, s6, s7, s8⟩ := of_decide_eq_true (show sizedF m = true by
    unfold modF at hg
    simp only [Bool.and_eq_true] at hg
    exact hg.1.1)
  have L1 := hlen.of
  have L2 := hlen.entry
  have L3 := hlen.final
  have L4 := hlen.inn
  have L5 := hlen.low
  have L6 := hlen.ret
  have g3 : cellAt σ.H ⟨A, 3, none⟩ V.e := ha.cell rfl
  obtain ⟨be, hve, hbe⟩ := hm.en.block
  rw [hve] at g3
  have hw0 := Int.emod_nonneg at_ (show (m.entry.length : Int) ≠ 0 by omega)
  have hw1 := Int.emod_lt_of_pos at_ (show 0 < (m.entry.length : Int) by omega)
  obtain ⟨i, hi⟩ : ∃ i : Nat, at_ % (m.entry.length : Int) = i := ⟨(at_ % (m.entry.length : Int)).toNat, by omega⟩
  refine OpsQ.drawn [6, 9] (K := fun j nx H => j = 9 → cellAt H ⟨A, 3, none⟩ (.slice (some ⟨be, 0, none⟩) m.entry.length m.entry.length)) mixed13 (by kernel_rfl) (by kernel_rfl) [0, 1, 2, 3, 4, 5, 7, 6, 8, 9] (by kernel_rfl) (fun _ _ _ => g3) ?_
  refine OpsQ.one rfl rfl rfl (by kernel_rfl) ?_
  repeat (first | (refine OpsL.q (by exact ofa) ?_) | (refine OpsL.nil ?_; (dsimp only)))
  refine OpsQ.sp 9 rfl (by kernel_rfl) (by subst_vars; decide) (fun _ => g3) (fun H2 nx2 hK => aop_load (by (first | (simp only [ASt.ev, tmPut, ↓reduceIte, Nat.reduceEqDiff, *]; rfl))) (by exact rfl) rfl (hK rfl)) ?_
  refine OpsQ.one rfl rfl rfl (by kernel_rfl) ?_
  repeat (first | (refine OpsL.q (by exact omv) ?_) | (refine OpsL.nil ?_; (skip)))
  refine OpsQ.one rfl rfl rfl (by kernel_rfl) ?_
  repeat (first | (refine OpsL.q (by exact ofa) ?_) | (refine OpsL.nil ?_; (dsimp only)))
  refine OpsQ.one rfl rfl rfl (by kernel_rfl) ?_
  repeat (first | (refine OpsL.q (by exact old) ?_) | (refine OpsL.nil ?_; (skip)))
  refine OpsQ.one rfl rfl rfl (by kernel_rfl) ?_
  repeat (first | (refine OpsL.q (by exact olen) ?_) | (refine OpsL.nil ?_; (skip)))
  refine OpsQ.one rfl rfl rfl (by kernel_rfl) ?_
  repeat (first | (refine OpsL.q (by exact omv) ?_) | (refine OpsL.nil ?_; (skip)))
  refine OpsQ.act (by kernel_rfl) (ActStep.walk rfl rfl ?_)
  refine OpsL.c2 (hf := entersWithinN) (hc := (withinC W0 at_ m.entry.length (by omega) (by omega))) (h := ?_)
  rintro v nx1 H1 ⟨rfl, rfl, rfl⟩
  rw [hi]
  refine OpsL.nil ⟨fun _ _ _ => g3, ?_⟩
  refine OpsQ.one rfl rfl rfl (by kernel_rfl) ?_
  repeat (first | (refine OpsL.q (by exact oixa) ?_) | (refine OpsL.nil ?_; (dsimp only)))
  refine OpsQ.act (by kernel_rfl) (ActStep.walk rfl rfl ?_)
  refine OpsL.setC (k := i) (v := .int .i64 x) (cs' := (m.entry.set i x).map (.int .i64 ·)) hbe (by rw [List.length_map]; omega) (by rw [set_ints]) (by exact rfl) rfl rfl (by (first | (simp only [ASt.ev, tmPut, ↓reduceIte, Nat.reduceEqDiff, *]; rfl))) (by (first | (simp only [ASt.ev, tmPut, ↓reduceIte, Nat.reduceEqDiff, *]; done))) (by show Addr.mk _ (0 + (i : Int).toNat * 1) _ = _; simp) ?_
  rintro τ ho hx -
  have ha3 := ha.keep hx (by simp)
  have hin := (MkO.mk (σ := τ) (m := { m with entry := m.entry.set i x }) (V := V) (hm.of.keep hx (by simp)) ⟨be, (by rw [hve]; simp), ho⟩ (hm.fi.keep hx (by simp)) (Row2.keepL hx (by simp) (fun _ _ => by simp) hm.inn) (Row2.keepL hx (by simp) (fun _ _ => by simp) hm.low) (Row3.keepL hx (by simp) (fun _ _ => by simp) (fun _ _ _ => by simp) hm.ret)).in
  refine OpsL.nil ⟨fun k hk => by simp at hk, ?_⟩
  refine OpsQ.nil ?_
  (skip)
  exact hQ _ τ { m with entry := m.entry.set i x } V (by simp [tmPut, *]) ha3 hin ⟨hlen.of, by rw [List.length_set]; exact hlen.entry, hlen.final, hlen.inn, hlen.low, hlen.ret, hlen.inn1, hlen.low1, hlen.ret1, hlen.ret2⟩
theorem ck4 (W0 : World) {σ : CH} {A : Nat} {m : Mo} {V : MoV} {tm : Nat → Value} {n : Nat} {p : Nat} {x at_ : Int} (hn0 : n = 160) (t3 : tm 3 = .int .i64 at_) (t11 : tm 11 = .pointer (some ⟨A, 0, none⟩)) (t12 : tm 12 = .int .i64 p) (t13 : tm 13 = .int .i64 x) (ha : ObC .self σ A (.cells (moV m V) 0 none false (some 28))) (hm : MkO σ m V) (hlen : MoLen m) (hg : modF m = true) (hp : p < m.of.length) (hat : -9223372036854775808 ≤ at_ ∧ at_ ≤ 9223372036854775807) {Q : AExit → ASt → Prop}
    (hQ : ∀ tm' σ' m' V', tm' 11 = .pointer (some ⟨A, 0, none⟩) → ObC .self σ' A (.cells (moV m' V') 0 none false (some 28)) → MoIn σ'.H m' V' → MoLen m' → Q .normal ⟨tm', n, σ'.H, σ'.nx⟩) : Trip Try.prog W0 (subC [1, 1, 1, 1, 1, 1, 0, 1, 2, 1, 4, 1, 4, 1, 4, 1, 4, 1, 3] (bodyMk Try.f6)) ⟨tm, n, σ.H, σ.nx⟩ Q := by
  obtain ⟨s1, s2, s3, s4, s5, s6, s7, s8⟩ := of_decide_eq_true (show sizedF m = true by
    unfold modF at hg
    simp only [Bool.and_eq_true] at hg
    exact hg.1.1)
  have L1 := hlen.of
  have L2 := hlen.entry
  have L3 := hlen.final
  have L4 := hlen.inn
  have L5 := hlen.low
  have L6 := hlen.ret
  have g4 : cellAt σ.H ⟨A, 4, none⟩ V.f := ha.cell rfl
  have hfne : m.final ≠ [] := fun e => by rw [e] at s5; simp at s5; omega
  obtain ⟨b, t, rest, hvf, hof⟩ := OwnC.opn encBo_f hm.fi hfne
  rw [hvf] at g4
  obtain ⟨r, hr, hrow⟩ : ∃ r : SV, aSlice Try.prog σ.H 24 (.slice (some ⟨b, 0, some t⟩) m.final.length m.final.length) none (some (.int .i64 p)) none = some (slV r) ∧ ∀ G, BoolsAt G (.slice (some ⟨b, 0, some t⟩) m.final.length m.final.length) m.final → BoolsAt G (slV r) (m.final.take p) := by
    refine ⟨(some ⟨b, 0 + 0 * 1, if 0 = m.final.length ∧ 0 < 0 then none else some t⟩, p - 0, p - 0), aSlice_tagged (el := 4) (sz := 1) (a := ⟨b, 0, some t⟩) (len := m.final.length) (cap := m.final.length) (l := 0) (h := p) (tg := t) (lo := none) (hi := some (.int .i64 p)) (by exact rfl) (by exact rfl) hof.2.2 rfl rfl rfl (.inl ⟨rfl, rfl⟩) (.inr ⟨.i64, rfl⟩) (by omega) (by omega), fun G hG => ?_⟩
    rw [if_neg (by omega)]
    rcases hG with ⟨c', h, e⟩ | ⟨q, c', h, hv⟩
    · exact absurd e hfne
    · cases h
      refine .inr ⟨_, p, by rw [List.length_take, Nat.min_eq_left (by omega)]; rfl, fun i hi => ?_⟩
      rw [List.length_take] at hi
      obtain ⟨u, q1, q2⟩ := hv i (by omega)
      exact ⟨u, by simpa using q1, by rw [List.getElem_take]; exact q2⟩
  repeat (first | (refine OpsL.q (by first | exact omv | exact ofa | exact old) ?_) | (refine Trip.ops ?_))
  refine OpsL.p (by subst_vars; decide) (aop_slice (a := none) (b := some (.int .i64 p)) (c := none) (by (first | (simp only [ASt.ev, tmPut, ↓reduceIte, Nat.reduceEqDiff, *]; done))) rfl (by simp [evOpt, ASt.ev, tmPut, *]) rfl hr) ?_
  repeat (first | (refine OpsL.q (by exact ofa) ?_))
  refine OpsL.setC (k := 4) (v := slV r) (cs' := moV { m with final := m.final.take p } { V with f := slV r }) ha (by simp [moV]) rfl (by exact rfl) rfl rfl (by (first | (simp only [ASt.ev, tmPut, ↓reduceIte, Nat.reduceEqDiff, *]; rfl))) (by (first | (simp only [ASt.ev, tmPut, ↓reduceIte, Nat.reduceEqDiff, *]; done))) rfl ?_
  rintro τ ha3 hx -
  have hin := (hm.keep hx (by simp)).in
  have hrow' : BoolsAt τ.H (slV r) (m.final.take p) := hrow _ (by have q := hin.final; rw [hvf] at q; exact q)
  refine OpsL.nil ?_
  (dsimp only)
  exact hQ _ τ { m with final := m.final.take p } { V with f := slV r } (by simp [tmPut, *]) ha3 ⟨hin.of, hin.entry, hrow', hin.inn, hin.low, hin.ret⟩ ⟨hlen.of, hlen.entry, by rw [List.length_take]; omega, hlen.inn, hlen.low, hlen.ret, hlen.inn1, hlen.low1, hlen.ret1, hlen.ret2⟩
end Go.Proofs.Ytooakbmehcchnaa
namespace Go.Proofs.Ytooakbmehcchnaa
open Go.Am Go.RowKit
attribute [local irreducible] aop OpsL Trip blockExit OpsD OpsK OpsR OpsQ
theorem state_of {m : Mo} {p : Nat} (hg : modF m = true) (hp : p < m.of.length) : sizedF m = true ∧ plnF m p = true ∧ lowF m p = true ∧ retF m p = true := by
  unfold modF at hg
  simp only [Bool.and_eq_true] at hg
  have := allN_iff.1 hg.2 p hp
  unfold stateF at this
  simp only [Bool.and_eq_true] at this
  exact ⟨hg.1.1, this.1.1, this.1.2, this.2⟩
theorem rowlen_in {m : Mo} {p : Nat} (hg : modF m = true) (hp : p < m.of.length) : (m.inn.getD p []).length ≤ 20 := by
  obtain ⟨h1, h2, -, -⟩ := state_of hg hp
  have h3 := of_decide_eq_true h1
  unfold plnF at h2
  rw [Bool.and_eq_true] at h2
  have h4 := of_decide_eq_true h2.1
  omega
theorem rowlen_low {m : Mo} {p : Nat} (hg : modF m = true) (hp : p < m.of.length) : (m.low.getD p []).length ≤ 20 := by
  obtain ⟨h1, -, h2, -⟩ := state_of hg hp
  have h3 := of_decide_eq_true h1
  unfold lowF at h2
  split at h2
  · rw [Bool.and_eq_true] at h2
    have h4 := of_decide_eq_true h2.1
    omega
  · have h4 := of_decide_eq_true h2
    omega
theorem rowlen_ret {m : Mo} {p : Nat} (hg : modF m = true) (hp : p < m.of.length) : (m.ret.getD p []).length ≤ 20 ∧ ∀ j, j < (m.ret.getD p []).length → ((m.ret.getD p []).getD j []).length = m.of.length := by
  obtain ⟨h1, -, -, h2⟩ := state_of hg hp
  have h3 := of_decide_eq_true h1
  unfold retF at h2
  split at h2
  · have h4 := of_decide_eq_true h2
    exact ⟨by omega, fun j hj => by omega⟩
  · rw [Bool.and_eq_true] at h2
    have h4 := of_decide_eq_true h2.1
    refine ⟨by omega, fun j hj => ?_⟩
    have h5 := allN_iff.1 h2.2 j hj
    unfold rowF at h5
    rw [Bool.and_eq_true] at h5
    have := of_decide_eq_true h5.1
    omega
theorem ck5 (W0 : World) {σ : CH} {A : Nat} {m : Mo} {V : MoV} {tm : Nat → Value} {n : Nat} {p : Nat} {x at_ : Int} (hn0 : n = 160) (t3 : tm 3 = .int .i64 at_) (t11 : tm 11 = .pointer (some ⟨A, 0, none⟩)) (t12 : tm 12 = .int .i64 p) (t13 : tm 13 = .int .i64 x) (ha : ObC .self σ A (.cells (moV m V) 0 none false (some 28))) (hm : MkO σ m V) (hlen : MoLen m) (hg : modF m = true) (hp : p < m.of.length) (hat : -9223372036854775808 ≤ at_ ∧ at_ ≤ 9223372036854775807) {Q : AExit → ASt → Prop}
    (hQ : ∀ tm' σ' m' V', tm' 11 = .pointer (some ⟨A, 0, none⟩) → ObC .self σ' A (.cells (moV m' V') 0 none false (some 28)) → MoIn σ'.H m' V' → MoLen m' → Q .normal ⟨tm', n, σ'.H, σ'.nx⟩) : Trip Try.prog W0 (subC [1, 1, 1, 1, 1, 1, 0, 1, 2, 1, 4, 1, 4, 1, 4, 1, 4, 1, 4, 1, 3] (bodyMk Try.f6)) ⟨tm, n, σ.H, σ.nx⟩ Q := by
  obtain ⟨s1, s2, s3, s4, s5, s6, s7, s8⟩ := of_decide_eq_true (show sizedF m = true by
    unfold modF at hg
    simp only [Bool.and_eq_true] at hg
    exact hg.1.1)
  have L1 := hlen.of
  have L2 := hlen.entry
  have L3 := hlen.final
  have L4 := hlen.inn
  have L5 := hlen.low
  have L6 := hlen.ret
  have g5 : cellAt σ.H ⟨A, 5, none⟩ V.i := ha.cell rfl
  obtain ⟨vs, b, t, rest, ra, rk, hv, hob, hall, hvl, hvp, hrow⟩ := Row2.opn hm.inn (i := p) (by omega)
  rw [hv] at g5
  have g6 : cellAt σ.H ⟨b, 0 + p * 1, some t⟩ (.slice ra (m.inn.getD p []).length rk) := by
    rw [Nat.zero_add, Nat.mul_one]
    refine hob.cell ?_
    rw [List.getElem?_append_left (by rw [List.length_map]; omega), List.getElem?_map, hvp]
    rfl
  have hl1 := hlen.inn1 p
  have hl2 : (m.inn.getD p []).length ≤ 20 := rowlen_in hg hp
  have h5 : cellAt σ.H ⟨A, 5, none⟩ (.slice (some ⟨b, 0, some t⟩) m.inn.length m.inn.length) ∧ cellAt σ.H ⟨b, 0 + p * 1, some t⟩ (.slice ra (m.inn.getD p []).length rk) := ⟨g5, g6⟩
  refine OpsQ.drawn [9, 10, 12] (K := fun j nx H => (j = 12 ∨ j = 10) → cellAt H ⟨A, 5, none⟩ (.slice (some ⟨b, 0, some t⟩) m.inn.length m.inn.length) ∧ cellAt H ⟨b, 0 + p * 1, some t⟩ (.slice ra (m.inn.getD p []).length rk)) mixed13 (by kernel_rfl) (by kernel_rfl) [0, 1, 2, 3, 4, 5, 6, 7, 8, 9, 10, 11, 12] (by kernel_rfl) (fun _ _ _ => h5) ?_
  refine OpsQ.one rfl rfl rfl (by kernel_rfl) ?_
  repeat (first | (refine OpsL.q (by exact ofa) ?_) | (refine OpsL.nil ?_; (dsimp only)))
  refine OpsQ.sp 12 rfl (by kernel_rfl) (by subst_vars; decide) (fun _ => h5) (fun H2 nx2 hK => aop_load (by (first | (simp only [ASt.ev, tmPut, ↓reduceIte, Nat.reduceEqDiff, *]; rfl))) (by exact rfl) rfl (hK (by decide)).1) ?_
  refine OpsQ.one rfl rfl rfl (by kernel_rfl) ?_
  repeat (first | (refine OpsL.q (by exact omv) ?_) | (refine OpsL.nil ?_; (skip)))
  refine OpsQ.one rfl rfl rfl (by kernel_rfl) ?_
  repeat (first | (refine OpsL.q (by exact ofa) ?_) | (refine OpsL.nil ?_; (dsimp only)))
  refine OpsQ.sp 10 rfl (by kernel_rfl) (by subst_vars; decide) (fun _ => h5) (fun H2 nx2 hK => aop_load (by (first | (simp only [ASt.ev, tmPut, ↓reduceIte, Nat.reduceEqDiff, *]; rfl))) (by exact rfl) rfl (hK (by decide)).1) ?_
  refine OpsQ.one rfl rfl rfl (by kernel_rfl) ?_
  repeat (first | (refine OpsL.q (by exact omv) ?_) | (refine OpsL.nil ?_; (skip)))
  refine OpsQ.one rfl rfl rfl (by kernel_rfl) ?_
  repeat (first | (refine OpsL.q (by exact oixa) ?_) | (refine OpsL.nil ?_; (dsimp only)))
  refine OpsQ.sp 10 rfl (by kernel_rfl) (by subst_vars; decide) (fun _ => h5) (fun H2 nx2 hK => aop_load (by (first | (simp only [ASt.ev, tmPut, ↓reduceIte, Nat.reduceEqDiff, *]; rfl))) (by exact rfl) rfl (hK (by decide)).2) ?_
  refine OpsQ.one rfl rfl rfl (by kernel_rfl) ?_
  repeat (first | (refine OpsL.q (by exact omv) ?_) | (refine OpsL.nil ?_; (skip)))
  refine OpsQ.act (by kernel_rfl) (ActStep.walk rfl rfl ?_)
  refine OpsL.litC (σ := σ) (enc := encN) (z := x) (el := 3) rfl (by (first | (simp only [ASt.ev, tmPut, ↓reduceIte, Nat.reduceEqDiff, *]; done))) (by kernel_rfl) (by subst_vars; decide) ?_
  intro σ2 x2 hu
  replace ha := ha.keep x2 (by simp)
  replace hob := hob.keep x2 (by simp)
  replace hrow := RowI.keepL x2 (by simp) hrow
  replace hall := hall.keep (fun i _ _ _ hr => RowI.keepL x2 (by simp) hr)
  have h5 : cellAt σ2.H ⟨A, 5, none⟩ V.i := ha.cell rfl
  rw [hv] at h5
  have h6 : cellAt σ2.H ⟨b, 0 + p * 1, some t⟩ (.slice ra (m.inn.getD p []).length rk) := by
    rw [Nat.zero_add, Nat.mul_one]
    refine hob.cell ?_
    rw [List.getElem?_append_left (by rw [List.length_map]; omega), List.getElem?_map, hvp]
    rfl
  refine OpsL.nil ⟨fun _ _ _ => ⟨h5, h6⟩, ?_⟩
  refine OpsQ.act (by kernel_rfl) (ActStep.walk rfl rfl ?_)
  refine OpsL.appC (bytes := 8) (z := [.int .i64 0]) encN_len encN_one hrow hu (by exact rfl) (by exact rfl) (by exact rfl) (by exact rfl) (by exact rfl) rfl (by show (m.inn.getD p []).length + 1 ≤ _; omega) (by omega) (by (first | (simp only [ASt.ev, tmPut, ↓reduceIte, Nat.reduceEqDiff, *]; done))) (by (first | (simp only [ASt.ev, tmPut, ↓reduceIte, Nat.reduceEqDiff, *]; done))) (by subst_vars; decide) ?_
  intro v3 σ3 hrow3 x3
  obtain ⟨va, vk, rfl⟩ := OwnC.slice encN_len hrow3
  replace ha := ha.keep x3 (by simp)
  replace hob := hob.keep x3 (by simp)
  have k5 : cellAt σ3.H ⟨A, 5, none⟩ V.i := ha.cell rfl
  rw [hv] at k5
  have k6 : cellAt σ3.H ⟨b, 0 + p * 1, some t⟩ (.slice ra (m.inn.getD p []).length rk) := by
    rw [Nat.zero_add, Nat.mul_one]
    refine hob.cell ?_
    rw [List.getElem?_append_left (by rw [List.length_map]; omega), List.getElem?_map, hvp]
    rfl
  refine OpsL.nil ⟨fun _ _ _ => ⟨k5, k6⟩, ?_⟩
  refine OpsQ.one rfl rfl rfl (by kernel_rfl) ?_
  repeat (first | (refine OpsL.q (by exact oixa) ?_) | (refine OpsL.nil ?_; (dsimp only)))
  refine OpsQ.act (by kernel_rfl) (ActStep.walk rfl rfl ?_)
  refine OpsL.setC (k := p) (v := slV (va, (m.inn.getD p [] ++ [x]).length, vk)) (cs' := (vs.set p (va, (m.inn.getD p [] ++ [x]).length, vk)).map slV ++ rest) hob (by rw [List.length_append, List.length_map]; omega) (by rw [set_mapped (by omega)]) (by exact rfl) rfl rfl (by (first | (simp only [ASt.ev, tmPut, ↓reduceIte, Nat.reduceEqDiff, *]; rfl))) (by (first | (simp only [ASt.ev, tmPut, ↓reduceIte, Nat.reduceEqDiff, *]; rfl))) (by show Addr.mk _ (0 + (p : Int).toNat * 1) _ = _; simp) ?_
  rintro τ ho hx -
  have x3' : Chg [.inn1 p, .inn] σ2 τ := (x3.mono (by simp)).trans (hx.mono (by simp))
  have x23 : Chg [.inn1 p, .inn] σ τ := (x2.mono (by simp)).trans x3'
  have ha3 := ha.keep hx (by simp)
  have hnew := Row2.cls ho (AllC.set hall (τ := τ) (c := p) (x := m.inn.getD p [] ++ [x]) (fun i _ _ _ hi hr => RowI.keepL x3' (by simp [hi]) hr) (RowI.keepL hx (by simp) hrow3))
  rw [List.length_set] at hnew
  have hin := (MkO.mk (σ := τ) (m := { m with inn := m.inn.set p (m.inn.getD p [] ++ [x]) }) (V := V) (hm.of.keep x23 (by simp)) (hm.en.keep x23 (by simp)) (hm.fi.keep x23 (by simp)) (by rw [hv]; exact hnew) (Row2.keepL x23 (by simp) (fun _ _ => by simp) hm.low) (Row3.keepL x23 (by simp) (fun _ _ => by simp) (fun _ _ _ => by simp) hm.ret)).in
  refine OpsL.nil ⟨fun k hk => by simp at hk, ?_⟩
  refine OpsQ.nil ?_
  (skip)
  have hdl := hl2
  exact hQ _ τ { m with inn := m.inn.set p (m.inn.getD p [] ++ [x]) } V (by simp [tmPut, *]) ha3 hin ⟨hlen.of, hlen.entry, hlen.final, by rw [List.length_set]; exact hlen.inn, hlen.low, hlen.ret, fun i => getD_set_len (fun i => hlen.inn1 i) (by rw [List.length_append, List.length_singleton]; omega), hlen.low1, hlen.ret1, hlen.ret2⟩
theorem ck7 (W0 : World) {σ : CH} {A : Nat} {m : Mo} {V : MoV} {tm : Nat → Value} {n : Nat} {p : Nat} {x at_ : Int} (hn0 : n = 160) (t3 : tm 3 = .int .i64 at_) (t11 : tm 11 = .pointer (some ⟨A, 0, none⟩)) (t12 : tm 12 = .int .i64 p) (t13 : tm 13 = .int .i64 x) (ha : ObC .self σ A (.cells (moV m V) 0 none false (some 28))) (hm : MkO σ m V) (hlen : MoLen m) (hg : modF m = true) (hp : p < m.of.length) (hat : -9223372036854775808 ≤ at_ ∧ at_ ≤ 9223372036854775807) {Q : AExit → ASt → Prop}
    (hQ : ∀ tm' σ' m' V', tm' 11 = .pointer (some ⟨A, 0, none⟩) → ObC .self σ' A (.cells (moV m' V') 0 none false (some 28)) → MoIn σ'.H m' V' → MoLen m' → Q .normal ⟨tm', n, σ'.H, σ'.nx⟩) : Trip Try.prog W0 (subC [1, 1, 1, 1, 1, 1, 0, 1, 2, 1, 4, 1, 4, 1, 4, 1, 4, 1, 4, 1, 4, 1, 4, 1, 3] (bodyMk Try.f6)) ⟨tm, n, σ.H, σ.nx⟩ Q := by
  obtain ⟨s1, s2, s3, s4, s5, s6, s7, s8⟩ := of_decide_eq_true (show sizedF m = true by
    unfold modF at hg
    simp only [Bool.and_eq_true] at hg
    exact hg.1.1)
  have L1 := hlen.of
  have L2 := hlen.entry
  have L3 := hlen.final
  have L4 := hlen.inn
  have L5 := hlen.low
  have L6 := hlen.ret
  have g5 : cellAt σ.H ⟨A, 6, none⟩ V.l := ha.cell rfl
  obtain ⟨vs, b, t, rest, ra, rk, hv, hob, hall, hvl, hvp, hrow⟩ := Row2.opn hm.low (i := p) (by omega)
  rw [hv] at g5
  have g6 : cellAt σ.H ⟨b, 0 + p * 1, some t⟩ (.slice ra (m.low.getD p []).length rk) := by
    rw [Nat.zero_add, Nat.mul_one]
    refine hob.cell ?_
    rw [List.getElem?_append_left (by rw [List.length_map]; omega), List.getElem?_map, hvp]
    rfl
  have hl1 := hlen.low1 p
  have hl2 : (m.low.getD p []).length ≤ 20 := rowlen_low hg hp
  have h6 : cellAt σ.H ⟨A, 6, none⟩ (.slice (some ⟨b, 0, some t⟩) m.low.length m.low.length) ∧ cellAt σ.H ⟨b, 0 + p * 1, some t⟩ (.slice ra (m.low.getD p []).length rk) := ⟨g5, g6⟩
  refine OpsQ.drawn [8, 9, 11] (K := fun j nx H => (j = 11 ∨ j = 9) → cellAt H ⟨A, 6, none⟩ (.slice (some ⟨b, 0, some t⟩) m.low.length m.low.length) ∧ cellAt H ⟨b, 0 + p * 1, some t⟩ (.slice ra (m.low.getD p []).length rk)) mixed13 (by kernel_rfl) (by kernel_rfl) [0, 1, 2, 3, 4, 5, 6, 7, 8, 9, 10, 11] (by kernel_rfl) (fun _ _ _ => h6) ?_
  refine OpsQ.one rfl rfl rfl (by kernel_rfl) ?_
  repeat (first | (refine OpsL.q (by exact ofa) ?_) | (refine OpsL.nil ?_; (dsimp only)))
  refine OpsQ.sp 11 rfl (by kernel_rfl) (by subst_vars; decide) (fun _ => h6) (fun H2 nx2 hK => aop_load (by (first | (simp only [ASt.ev, tmPut, ↓reduceIte, Nat.reduceEqDiff, *]; rfl))) (by exact rfl) rfl (hK (by decide)).1) ?_
  refine OpsQ.one rfl rfl rfl (by kernel_rfl) ?_
  repeat (first | (refine OpsL.q (by exact omv) ?_) | (refine OpsL.nil ?_; (skip)))
  refine OpsQ.one rfl rfl rfl (by kernel_rfl) ?_
  repeat (first | (refine OpsL.q (by exact ofa) ?_) | (refine OpsL.nil ?_; (dsimp only)))
  refine OpsQ.sp 9 rfl (by kernel_rfl) (by subst_vars; decide) (fun _ => h6) (fun H2 nx2 hK => aop_load (by (first | (simp only [ASt.ev, tmPut, ↓reduceIte, Nat.reduceEqDiff, *]; rfl))) (by exact rfl) rfl (hK (by decide)).1) ?_
  refine OpsQ.one rfl rfl rfl (by kernel_rfl) ?_
  repeat (first | (refine OpsL.q (by exact omv) ?_) | (refine OpsL.nil ?_; (skip)))
  refine OpsQ.one rfl rfl rfl (by kernel_rfl) ?_
  repeat (first | (refine OpsL.q (by exact oixa) ?_) | (refine OpsL.nil ?_; (dsimp only)))
  refine OpsQ.sp 9 rfl (by kernel_rfl) (by subst_vars; decide) (fun _ => h6) (fun H2 nx2 hK => aop_load (by (first | (simp only [ASt.ev, tmPut, ↓reduceIte, Nat.reduceEqDiff, *]; rfl))) (by exact rfl) rfl (hK (by decide)).2) ?_
  refine OpsQ.act (by kernel_rfl) (ActStep.walk rfl rfl ?_)
  refine OpsL.litC (σ := σ) (enc := encN) (z := (0 : Int)) (el := 3) rfl (by (first | (simp only [ASt.ev, tmPut, ↓reduceIte, Nat.reduceEqDiff, *]; rfl))) (by kernel_rfl) (by subst_vars; decide) ?_
  intro σ2 x2 hu
  replace ha := ha.keep x2 (by simp)
  replace hob := hob.keep x2 (by simp)
  replace hrow := RowI.keepL x2 (by simp) hrow
  replace hall := hall.keep (fun i _ _ _ hr => RowI.keepL x2 (by simp) hr)
  have h5 : cellAt σ2.H ⟨A, 6, none⟩ V.l := ha.cell rfl
  rw [hv] at h5
  have h6 : cellAt σ2.H ⟨b, 0 + p * 1, some t⟩ (.slice ra (m.low.getD p []).length rk) := by
    rw [Nat.zero_add, Nat.mul_one]
    refine hob.cell ?_
    rw [List.getElem?_append_left (by rw [List.length_map]; omega), List.getElem?_map, hvp]
    rfl
  refine OpsL.nil ⟨fun _ _ _ => ⟨h5, h6⟩, ?_⟩
  refine OpsQ.act (by kernel_rfl) (ActStep.walk rfl rfl ?_)
  refine OpsL.appC (bytes := 8) (z := [.int .i64 0]) encN_len encN_one hrow hu (by exact rfl) (by exact rfl) (by exact rfl) (by exact rfl) (by exact rfl) rfl (by show (m.low.getD p []).length + 1 ≤ _; omega) (by omega) (by (first | (simp only [ASt.ev, tmPut, ↓reduceIte, Nat.reduceEqDiff, *]; done))) (by (first | (simp only [ASt.ev, tmPut, ↓reduceIte, Nat.reduceEqDiff, *]; done))) (by subst_vars; decide) ?_
  intro v3 σ3 hrow3 x3
  obtain ⟨va, vk, rfl⟩ := OwnC.slice encN_len hrow3
  replace ha := ha.keep x3 (by simp)
  replace hob := hob.keep x3 (by simp)
  have k5 : cellAt σ3.H ⟨A, 6, none⟩ V.l := ha.cell rfl
  rw [hv] at k5
  have k6 : cellAt σ3.H ⟨b, 0 + p * 1, some t⟩ (.slice ra (m.low.getD p []).length rk) := by
    rw [Nat.zero_add, Nat.mul_one]
    refine hob.cell ?_
    rw [List.getElem?_append_left (by rw [List.length_map]; omega), List.getElem?_map, hvp]
    rfl
  refine OpsL.nil ⟨fun _ _ _ => ⟨k5, k6⟩, ?_⟩
  refine OpsQ.one rfl rfl rfl (by kernel_rfl) ?_
  repeat (first | (refine OpsL.q (by exact oixa) ?_) | (refine OpsL.nil ?_; (dsimp only)))
  refine OpsQ.act (by kernel_rfl) (ActStep.walk rfl rfl ?_)
  refine OpsL.setC (k := p) (v := slV (va, (m.low.getD p [] ++ [(0 : Int)]).length, vk)) (cs' := (vs.set p (va, (m.low.getD p [] ++ [(0 : Int)]).length, vk)).map slV ++ rest) hob (by rw [List.length_append, List.length_map]; omega) (by rw [set_mapped (by omega)]) (by exact rfl) rfl rfl (by (first | (simp only [ASt.ev, tmPut, ↓reduceIte, Nat.reduceEqDiff, *]; rfl))) (by (first | (simp only [ASt.ev, tmPut, ↓reduceIte, Nat.reduceEqDiff, *]; rfl))) (by show Addr.mk _ (0 + (p : Int).toNat * 1) _ = _; simp) ?_
  rintro τ ho hx -
  have x3' : Chg [.low1 p, .low] σ2 τ := (x3.mono (by simp)).trans (hx.mono (by simp))
  have x23 : Chg [.low1 p, .low] σ τ := (x2.mono (by simp)).trans x3'
  have ha3 := ha.keep hx (by simp)
  have hnew := Row2.cls ho (AllC.set hall (τ := τ) (c := p) (x := m.low.getD p [] ++ [(0 : Int)]) (fun i _ _ _ hi hr => RowI.keepL x3' (by simp [hi]) hr) (RowI.keepL hx (by simp) hrow3))
  rw [List.length_set] at hnew
  have hin := (MkO.mk (σ := τ) (m := { m with low := m.low.set p (m.low.getD p [] ++ [(0 : Int)]) }) (V := V) (hm.of.keep x23 (by simp)) (hm.en.keep x23 (by simp)) (hm.fi.keep x23 (by simp)) (Row2.keepL x23 (by simp) (fun _ _ => by simp) hm.inn) (by rw [hv]; exact hnew) (Row3.keepL x23 (by simp) (fun _ _ => by simp) (fun _ _ _ => by simp) hm.ret)).in
  refine OpsL.nil ⟨fun k hk => by simp at hk, ?_⟩
  refine OpsQ.nil ?_
  (skip)
  have hdl := hl2
  exact hQ _ τ { m with low := m.low.set p (m.low.getD p [] ++ [(0 : Int)]) } V (by simp [tmPut, *]) ha3 hin ⟨hlen.of, hlen.entry, hlen.final, hlen.inn, by rw [List.length_set]; exact hlen.low, hlen.ret, hlen.inn1, fun i => getD_set_len (fun i => hlen.low1 i) (by rw [List.length_append, List.length_singleton]; omega), hlen.ret1, hlen.ret2⟩
end Go.Proofs.Ytooakbmehcchnaa
namespace Go.Am
theorem getD_snoc_gen {α : Type} {l : List α} {r d : α} {P : α → Prop} (h : ∀ i, P (l.getD i d)) (hr : P r) (hd : P d) (i : Nat) : P ((l ++ [r]).getD i d) := by
  rw [List.getD_eq_getElem?_getD]
  by_cases hi : i < l.length
  · rw [List.getElem?_append_left hi, ← List.getD_eq_getElem?_getD]; exact h i
  · rw [List.getElem?_append_right (by omega)]
    by_cases e : i - l.length = 0
    · rw [e]; exact hr
    · rw [List.getElem?_eq_none (by simp; omega)]; exact hd
theorem getD_set_gen {α : Type} {l : List α} {r d : α} {P : α → Prop} {p : Nat} (h : ∀ i, P (l.getD i d)) (hr : P r) (hd : P d) (i : Nat) : P ((l.set p r).getD i d) := by
  rw [List.getD_eq_getElem?_getD, List.getElem?_set]
  split
  · split
    · exact hr
    · exact hd
  · rw [← List.getD_eq_getElem?_getD]; exact h i
end Go.Am
namespace Go.Proofs.Ytooakbmehcchnaa
open Go.Am Go.RowKit
attribute [local irreducible] aop OpsL Trip blockExit OpsD OpsK OpsR OpsQ
theorem ck6 (W0 : World) {σ : CH} {A : Nat} {m : Mo} {V : MoV} {tm : Nat → Value} {n : Nat} {p : Nat} {x at_ : Int} (hn0 : n = 160) (t3 : tm 3 = .int .i64 at_) (t11 : tm 11 = .pointer (some ⟨A, 0, none⟩)) (t12 : tm 12 = .int .i64 p) (t13 : tm 13 = .int .i64 x) (ha : ObC .self σ A (.cells (moV m V) 0 none false (some 28))) (hm : MkO σ m V) (hlen : MoLen m) (hg : modF m = true) (hp : p < m.of.length) (hat : -9223372036854775808 ≤ at_ ∧ at_ ≤ 9223372036854775807) {Q : AExit → ASt → Prop}
    (hQ : ∀ tm' σ' m' V', tm' 11 = .pointer (some ⟨A, 0, none⟩) → ObC .self σ' A (.cells (moV m' V') 0 none false (some 28)) → MoIn σ'.H m' V' → MoLen m' → Q .normal ⟨tm', n, σ'.H, σ'.nx⟩) : Trip Try.prog W0 (subC [1, 1, 1, 1, 1, 1, 0, 1, 2, 1, 4, 1, 4, 1, 4, 1, 4, 1, 4, 1, 4, 1, 3] (bodyMk Try.f6)) ⟨tm, n, σ.H, σ.nx⟩ Q := by
  obtain ⟨s1, s2, s3, s4, s5, s6, s7, s8⟩ := of_decide_eq_true (show sizedF m = true by
    unfold modF at hg
    simp only [Bool.and_eq_true] at hg
    exact hg.1.1)
  have L1 := hlen.of
  have L2 := hlen.entry
  have L3 := hlen.final
  have L4 := hlen.inn
  have L5 := hlen.low
  have L6 := hlen.ret
  have g5 : cellAt σ.H ⟨A, 5, none⟩ V.i := ha.cell rfl
  obtain ⟨vs, b, t, rest, ra, rk, hv, hob, hall, hvl, hvp, hrow⟩ := Row2.opn hm.inn (i := p) (by omega)
  rw [hv] at g5
  have g6 : cellAt σ.H ⟨b, 0 + p * 1, some t⟩ (.slice ra (m.inn.getD p []).length rk) := by
    rw [Nat.zero_add, Nat.mul_one]
    refine hob.cell ?_
    rw [List.getElem?_append_left (by rw [List.length_map]; omega), List.getElem?_map, hvp]
    rfl
  have hl1 := rowlen_in hg hp
  repeat (first | (refine OpsL.q (by first | exact omv | exact ofa | exact old | exact oixa | exact olen) ?_) | (refine Trip.seq ?_) | (refine Trip.ops ?_))
  by_cases h0 : (0 : Int) < (m.inn.getD p []).length
  case neg =>
    refine OpsL.gtrF ?_ (c := h0)
    clear h0
    repeat (first | (refine OpsL.nil ?_; (change Trip _ _ _ _ _)))
    refine Trip.ifF ?_
    repeat (first | (refine Trip.skip ?_; (dsimp only)))
    exact hQ _ σ m V (by simp [tmPut, *]) ha hm.in hlen
  refine OpsL.gtrT ?_ (c := h0)
  have hne : m.inn.getD p [] ≠ [] := fun e => by rw [e] at h0; simp at h0
  obtain ⟨b1, t1, rest1, hv1, ho1⟩ := OwnC.opn encN_f hrow hne
  have hra : ra = some ⟨b1, 0, some t1⟩ := by cases hv1; rfl
  subst hra
  have h0' : 0 < (m.inn.getD p []).length := by omega
  clear h0
  repeat (first | (refine OpsL.nil ?_; (change Trip _ _ _ _ _)))
  refine Trip.ifT ?_
  repeat (first | (refine OpsL.q (by first | exact omv | exact ofa | exact old | exact oixa) ?_) | (refine Trip.ops ?_))
  refine OpsL.setC (k := 0) (v := .int .i64 x) (cs' := ((m.inn.getD p []).set 0 x).map (fun x => Value.int .i64 x) ++ rest1) ho1 (by rw [List.length_append, List.length_map]; omega) (by rw [set_mapped (f := fun x => Value.int .i64 x) h0']) (by exact rfl) rfl rfl (by (first | (simp only [ASt.ev, tmPut, ↓reduceIte, Nat.reduceEqDiff, *]; rfl))) (by (first | (simp only [ASt.ev, tmPut, ↓reduceIte, Nat.reduceEqDiff, *]; done))) rfl ?_
  rintro τ ho hx -
  have ha3 := ha.keep hx (by simp)
  have hr1 : RowI (.inn1 p) τ (.slice (some ⟨b1, 0, some t1⟩) ((m.inn.getD p []).set 0 x).length ((m.inn.getD p []).set 0 x).length) ((m.inn.getD p []).set 0 x) := OwnC.cls encN_f ho
  have hk : rk = (m.inn.getD p []).length := by cases hv1; rfl
  subst hk
  rw [List.length_set] at hr1
  have hall2 : AllC (fun p => RowI (.inn1 p)) τ vs (m.inn.set p ((m.inn.getD p []).set 0 x)) := by
    have := AllC.set hall (τ := τ) (c := p) (u := (some ⟨b1, 0, some t1⟩, (m.inn.getD p []).length, (m.inn.getD p []).length)) (x := (m.inn.getD p []).set 0 x) (fun i _ _ _ hi hr => RowI.keepL hx (by simp [hi]) hr) hr1
    have e : vs.set p (some ⟨b1, 0, some t1⟩, (m.inn.getD p []).length, (m.inn.getD p []).length) = vs := by
      apply List.ext_getElem?
      intro j
      rw [List.getElem?_set]
      split
      · rename_i e
        subst e
        rw [if_pos (by omega), hvp]
      · rfl
    rw [e] at this
    exact this
  have hnew := Row2.cls (hob.keep hx (by simp)) hall2
  rw [List.length_set] at hnew
  have hin := (MkO.mk (σ := τ) (m := { m with inn := m.inn.set p ((m.inn.getD p []).set 0 x) }) (V := V) (hm.of.keep hx (by simp)) (hm.en.keep hx (by simp)) (hm.fi.keep hx (by simp)) (by rw [hv]; exact hnew) (Row2.keepL hx (by simp) (fun _ _ => by simp) hm.low) (Row3.keepL hx (by simp) (fun _ _ => by simp) (fun _ _ _ => by simp) hm.ret)).in
  refine OpsL.nil ?_
  (dsimp only)
  exact hQ _ τ { m with inn := m.inn.set p ((m.inn.getD p []).set 0 x) } V (by simp [tmPut, *]) ha3 hin ⟨hlen.of, hlen.entry, hlen.final, by rw [List.length_set]; exact hlen.inn, hlen.low, hlen.ret, fun i => getD_set_len (fun i => hlen.inn1 i) (by rw [List.length_set]; omega), hlen.low1, hlen.ret1, hlen.ret2⟩
theorem ck10 (W0 : World) {σ : CH} {A : Nat} {m : Mo} {V : MoV} {tm : Nat → Value} {n : Nat} {p : Nat} {x at_ : Int} (hn0 : n = 160) (t3 : tm 3 = .int .i64 at_) (t11 : tm 11 = .pointer (some ⟨A, 0, none⟩)) (t12 : tm 12 = .int .i64 p) (t13 : tm 13 = .int .i64 x) (ha : ObC .self σ A (.cells (moV m V) 0 none false (some 28))) (hm : MkO σ m V) (hlen : MoLen m) (hg : modF m = true) (hp : p < m.of.length) (hat : -9223372036854775808 ≤ at_ ∧ at_ ≤ 9223372036854775807) {Q : AExit → ASt → Prop}
    (hQ : ∀ tm' σ' m' V', tm' 11 = .pointer (some ⟨A, 0, none⟩) → ObC .self σ' A (.cells (moV m' V') 0 none false (some 28)) → MoIn σ'.H m' V' → MoLen m' → Q .normal ⟨tm', n, σ'.H, σ'.nx⟩) : Trip Try.prog W0 (subC [1, 1, 1, 1, 1, 1, 0, 1, 2, 1, 4, 1, 4, 1, 4, 1, 4, 1, 4, 1, 4, 1, 4, 1, 4, 1, 4, 1, 4, 1, 3] (bodyMk Try.f6)) ⟨tm, n, σ.H, σ.nx⟩ Q := by
  obtain ⟨s1, s2, s3, s4, s5, s6, s7, s8⟩ := of_decide_eq_true (show sizedF m = true by
    unfold modF at hg
    simp only [Bool.and_eq_true] at hg
    exact hg.1.1)
  have L1 := hlen.of
  have L2 := hlen.entry
  have L3 := hlen.final
  have L4 := hlen.inn
  have L5 := hlen.low
  have L6 := hlen.ret
  have g7 : cellAt σ.H ⟨A, 7, none⟩ V.r := ha.cell rfl
  obtain ⟨vs, hvs, hall⟩ := hm.ret
  repeat (first | (refine OpsL.q (by first | exact ofa | exact old) ?_) | (refine Trip.ops ?_))
  refine OpsL.litC (σ := σ) (enc := encS) (z := (none, 0, 0)) (el := 25) rfl (by rfl) (by kernel_rfl) (by subst_vars; decide) ?_
  intro σ2 x2 hu
  have hvl := hall.1
  refine OpsL.appC (bytes := 24) (z := [.slice none 0 0]) encS_len encS_one (OwnC.keep x2 (by simp) hvs) hu (by exact rfl) (by exact rfl) (by exact rfl) (by exact rfl) (by exact rfl) rfl (by show vs.length + 1 ≤ _; omega) (by omega) (by (first | (simp only [ASt.ev, tmPut, ↓reduceIte, Nat.reduceEqDiff, *]; done))) (by (first | (simp only [ASt.ev, tmPut, ↓reduceIte, Nat.reduceEqDiff, *]; done))) (by subst_vars; decide) ?_
  intro v3 σ3 hvs3 x3
  have x23 : Chg [.ret] σ σ3 := (x2.mono (by simp)).trans x3
  replace ha := ha.keep x23 (by simp)
  have hall3 : AllC (fun p => Row2 (.ret2 p) (.ret1 p)) σ3 (vs ++ [(none, 0, 0)]) (m.ret ++ [[]]) :=
    AllC.push (hall.keep fun jj _ _ _ hr => Row2.keepL x23 (by simp) (fun _ _ => by simp) hr) OwnLC.nil
  obtain ⟨va, vk, hv3⟩ := OwnC.slice encS_len hvs3
  rw [hv3] at hvs3 ⊢
  repeat (first | (refine OpsL.q (by exact ofa) ?_))
  refine OpsL.setC (k := 7) (v := .slice va (vs ++ [(none, 0, 0)]).length vk) (cs' := moV { m with ret := m.ret ++ [[]] } { V with r := .slice va (vs ++ [(none, 0, 0)]).length vk }) ha (by simp [moV]) rfl (by exact rfl) rfl rfl (by (first | (simp only [ASt.ev, tmPut, ↓reduceIte, Nat.reduceEqDiff, *]; rfl))) (by (first | (simp only [ASt.ev, tmPut, ↓reduceIte, Nat.reduceEqDiff, *]; done))) rfl ?_
  rintro τ ha3 hx -
  have x4 : Chg [.ret, .self] σ τ := (x23.mono (by simp)).trans (hx.mono (by simp))
  have hin := (MkO.mk (σ := τ) (m := { m with ret := m.ret ++ [[]] }) (V := { V with r := .slice va (vs ++ [(none, 0, 0)]).length vk }) (hm.of.keep x4 (by simp)) (hm.en.keep x4 (by simp)) (hm.fi.keep x4 (by simp)) (Row2.keepL x4 (by simp) (fun _ _ => by simp) hm.inn) (Row2.keepL x4 (by simp) (fun _ _ => by simp) hm.low) ⟨_, OwnC.keep hx (by simp) hvs3, hall3.keep fun jj _ _ _ hr => Row2.keepL hx (by simp) (fun _ _ => by simp) hr⟩).in
  refine OpsL.nil ?_
  (dsimp only)
  exact hQ _ τ { m with ret := m.ret ++ [[]] } { V with r := .slice va (vs ++ [(none, 0, 0)]).length vk } (by simp [tmPut, *]) ha3 hin ⟨hlen.of, hlen.entry, hlen.final, hlen.inn, hlen.low, by rw [List.length_append, List.length_singleton]; omega, hlen.inn1, hlen.low1, fun i => getD_snoc_gen (P := fun z : List (List Int) => z.length ≤ 100000) hlen.ret1 (by simp) (by simp) i, fun i => getD_snoc_gen (P := fun z : List (List Int) => ∀ j, (z.getD j []).length ≤ 100000) (fun i j => hlen.ret2 i j) (by simp) (by simp) i⟩
end Go.Proofs.Ytooakbmehcchnaa
namespace Go.Proofs.Ytooakbmehcchnaa
open Go.Am Go.RowKit
attribute [local irreducible] aop OpsL Trip blockExit OpsD OpsK OpsR OpsQ
theorem ck9 (W0 : World) {σ : CH} {A : Nat} {m : Mo} {V : MoV} {tm : Nat → Value} {n : Nat} {p : Nat} {x at_ : Int} (hn0 : n = 160) (t3 : tm 3 = .int .i64 at_) (t11 : tm 11 = .pointer (some ⟨A, 0, none⟩)) (t12 : tm 12 = .int .i64 p) (t13 : tm 13 = .int .i64 x) (ha : ObC .self σ A (.cells (moV m V) 0 none false (some 28))) (hm : MkO σ m V) (hlen : MoLen m) (hg : modF m = true) (hp : p < m.of.length) (hat : -9223372036854775808 ≤ at_ ∧ at_ ≤ 9223372036854775807) {Q : AExit → ASt → Prop}
    (hQ : ∀ tm' σ' m' V', tm' 11 = .pointer (some ⟨A, 0, none⟩) → ObC .self σ' A (.cells (moV m' V') 0 none false (some 28)) → MoIn σ'.H m' V' → MoLen m' → Q .normal ⟨tm', n, σ'.H, σ'.nx⟩) : Trip Try.prog W0 (subC [1, 1, 1, 1, 1, 1, 0, 1, 2, 1, 4, 1, 4, 1, 4, 1, 4, 1, 4, 1, 4, 1, 4, 1, 4, 1, 4, 1, 3] (bodyMk Try.f6)) ⟨tm, n, σ.H, σ.nx⟩ Q := by
  obtain ⟨s1, s2, s3, s4, s5, s6, s7, s8⟩ := of_decide_eq_true (show sizedF m = true by
    unfold modF at hg
    simp only [Bool.and_eq_true] at hg
    exact hg.1.1)
  have L1 := hlen.of
  have L2 := hlen.entry
  have L3 := hlen.final
  have L4 := hlen.inn
  have L5 := hlen.low
  have L6 := hlen.ret
  have g7 : cellAt σ.H ⟨A, 7, none⟩ V.r := ha.cell rfl
  obtain ⟨vs, b, t, rest, ra, rk, hv, hob, hall, hvl, hvp, hrow⟩ := Row3.opn hm.ret (i := p) (by omega)
  rw [hv] at g7
  have g8 : cellAt σ.H ⟨b, 0 + p * 1, some t⟩ (.slice ra (m.ret.getD p []).length rk) := by
    rw [Nat.zero_add, Nat.mul_one]
    refine hob.cell ?_
    rw [List.getElem?_append_left (by rw [List.length_map]; omega), List.getElem?_map, hvp]
    rfl
  obtain ⟨hl1, hl2⟩ := rowlen_ret hg hp
  have hKK : cellAt σ.H ⟨A, 7, none⟩ (.slice (some ⟨b, 0, some t⟩) m.ret.length m.ret.length) ∧ cellAt σ.H ⟨b, 0 + p * 1, some t⟩ (.slice ra (m.ret.getD p []).length rk) := ⟨g7, g8⟩
  refine OpsQ.drawn [8, 9, 11] (K := fun j nx H => (j = 11 ∨ j = 9) → cellAt H ⟨A, 7, none⟩ (.slice (some ⟨b, 0, some t⟩) m.ret.length m.ret.length) ∧ cellAt H ⟨b, 0 + p * 1, some t⟩ (.slice ra (m.ret.getD p []).length rk)) mixed13 (by kernel_rfl) (by kernel_rfl) [0, 1, 2, 3, 4, 5, 6, 7, 8, 9, 10, 11] (by kernel_rfl) (fun _ _ _ => hKK) ?_
  refine OpsQ.one rfl rfl rfl (by kernel_rfl) ?_
  repeat (first | (refine OpsL.q (by exact ofa) ?_) | (refine OpsL.nil ?_; (dsimp only)))
  refine OpsQ.sp 11 rfl (by kernel_rfl) (by subst_vars; decide) (fun _ => hKK) (fun H2 nx2 hK => aop_load (by (first | (simp only [ASt.ev, tmPut, ↓reduceIte, Nat.reduceEqDiff, *]; rfl))) (by exact rfl) rfl (hK (by decide)).1) ?_
  refine OpsQ.one rfl rfl rfl (by kernel_rfl) ?_
  repeat (first | (refine OpsL.q (by exact omv) ?_) | (refine OpsL.nil ?_; (skip)))
  refine OpsQ.one rfl rfl rfl (by kernel_rfl) ?_
  repeat (first | (refine OpsL.q (by exact ofa) ?_) | (refine OpsL.nil ?_; (dsimp only)))
  refine OpsQ.sp 9 rfl (by kernel_rfl) (by subst_vars; decide) (fun _ => hKK) (fun H2 nx2 hK => aop_load (by (first | (simp only [ASt.ev, tmPut, ↓reduceIte, Nat.reduceEqDiff, *]; rfl))) (by exact rfl) rfl (hK (by decide)).1) ?_
  refine OpsQ.one rfl rfl rfl (by kernel_rfl) ?_
  repeat (first | (refine OpsL.q (by exact omv) ?_) | (refine OpsL.nil ?_; (skip)))
  refine OpsQ.one rfl rfl rfl (by kernel_rfl) ?_
  repeat (first | (refine OpsL.q (by exact oixa) ?_) | (refine OpsL.nil ?_; (dsimp only)))
  refine OpsQ.sp 9 rfl (by kernel_rfl) (by subst_vars; decide) (fun _ => hKK) (fun H2 nx2 hK => aop_load (by (first | (simp only [ASt.ev, tmPut, ↓reduceIte, Nat.reduceEqDiff, *]; rfl))) (by exact rfl) rfl (hK (by decide)).2) ?_
  refine OpsQ.act (by kernel_rfl) (ActStep.walk rfl rfl ?_)
  refine OpsL.litC (σ := σ) (enc := encS) (z := (none, 0, 0)) (el := 23) rfl (by rfl) (by kernel_rfl) (by subst_vars; decide) ?_
  intro σ2 x2 hu
  replace ha := ha.keep x2 (by simp)
  replace hob := hob.keep x2 (by simp)
  replace hrow := Row2.keepL x2 (by simp) (fun _ _ => by simp) hrow
  replace hall := hall.keep (fun i _ _ _ hr => Row2.keepL x2 (by simp) (fun _ _ => by simp) hr)
  have k7 : cellAt σ2.H ⟨A, 7, none⟩ V.r := ha.cell rfl
  rw [hv] at k7
  have k8 : cellAt σ2.H ⟨b, 0 + p * 1, some t⟩ (.slice ra (m.ret.getD p []).length rk) := by
    rw [Nat.zero_add, Nat.mul_one]
    refine hob.cell ?_
    rw [List.getElem?_append_left (by rw [List.length_map]; omega), List.getElem?_map, hvp]
    rfl
  have hK2 : cellAt σ2.H ⟨A, 7, none⟩ (.slice (some ⟨b, 0, some t⟩) m.ret.length m.ret.length) ∧ cellAt σ2.H ⟨b, 0 + p * 1, some t⟩ (.slice ra (m.ret.getD p []).length rk) := ⟨k7, k8⟩
  refine OpsL.nil ⟨fun _ _ _ => hK2, ?_⟩
  obtain ⟨ws, hws, hwall⟩ := hrow
  have hwl : ws.length = (m.ret.getD p []).length := hwall.1
  refine OpsQ.act (by kernel_rfl) (ActStep.walk rfl rfl ?_)
  refine OpsL.appC (bytes := 24) (z := [.slice none 0 0]) encS_len encS_one hws hu (by exact rfl) (by exact rfl) (by exact rfl) (by exact rfl) (by exact rfl) rfl (by show ws.length + 1 ≤ _; omega) (by omega) (by (first | (simp only [ASt.ev, tmPut, ↓reduceIte, Nat.reduceEqDiff, *]; done))) (by (first | (simp only [ASt.ev, tmPut, ↓reduceIte, Nat.reduceEqDiff, *]; done))) (by subst_vars; decide) ?_
  intro v3 σ3 hws3 x3
  obtain ⟨va, vk, hv3⟩ := OwnC.slice encS_len hws3
  rw [hv3] at hws3 ⊢
  clear k7 k8
  replace ha := ha.keep x3 (by simp)
  replace hob := hob.keep x3 (by simp)
  have k7 : cellAt σ3.H ⟨A, 7, none⟩ V.r := ha.cell rfl
  rw [hv] at k7
  have k8 : cellAt σ3.H ⟨b, 0 + p * 1, some t⟩ (.slice ra (m.ret.getD p []).length rk) := by
    rw [Nat.zero_add, Nat.mul_one]
    refine hob.cell ?_
    rw [List.getElem?_append_left (by rw [List.length_map]; omega), List.getElem?_map, hvp]
    rfl
  have hK3 : cellAt σ3.H ⟨A, 7, none⟩ (.slice (some ⟨b, 0, some t⟩) m.ret.length m.ret.length) ∧ cellAt σ3.H ⟨b, 0 + p * 1, some t⟩ (.slice ra (m.ret.getD p []).length rk) := ⟨k7, k8⟩
  refine OpsL.nil ⟨fun _ _ _ => hK3, ?_⟩
  refine OpsQ.one rfl rfl rfl (by kernel_rfl) ?_
  repeat (first | (refine OpsL.q (by exact oixa) ?_) | (refine OpsL.nil ?_; (dsimp only)))
  refine OpsQ.act (by kernel_rfl) (ActStep.walk rfl rfl ?_)
  refine OpsL.setC (k := p) (v := slV (va, (ws ++ [(none, 0, 0)]).length, vk)) (cs' := (vs.set p (va, (ws ++ [(none, 0, 0)]).length, vk)).map slV ++ rest) hob (by rw [List.length_append, List.length_map]; omega) (by rw [set_mapped (by omega)]) (by exact rfl) rfl rfl (by (first | (simp only [ASt.ev, tmPut, ↓reduceIte, Nat.reduceEqDiff, *]; rfl))) (by (first | (simp only [ASt.ev, tmPut, ↓reduceIte, Nat.reduceEqDiff, *]; rfl))) (by show Addr.mk _ (0 + (p : Int).toNat * 1) _ = _; simp) ?_
  rintro τ ho hx -
  have x3' : Chg [.ret1 p, .ret] σ2 τ := (x3.mono (by simp)).trans (hx.mono (by simp))
  have x23 : Chg [.ret1 p, .ret] σ τ := (x2.mono (by simp)).trans x3'
  have ha3 := ha.keep hx (by simp)
  have hr1 : Row2 (.ret2 p) (.ret1 p) τ (slV (va, (ws ++ [(none, 0, 0)]).length, vk)) (m.ret.getD p [] ++ [[]]) := ⟨_, OwnC.keep hx (by simp) hws3, AllC.push (hwall.keep fun jj _ _ _ hr => RowI.keepL x3' (by simp) hr) OwnC.nil⟩
  have hnew := Row3.cls ho (AllC.set hall (τ := τ) (c := p) (x := m.ret.getD p [] ++ [[]]) (fun i _ _ _ hi hr => Row2.keepL x3' (by simp [hi]) (fun _ _ => by simp) hr) hr1)
  rw [List.length_set] at hnew
  have hin := (MkO.mk (σ := τ) (m := { m with ret := m.ret.set p (m.ret.getD p [] ++ [[]]) }) (V := V) (hm.of.keep x23 (by simp)) (hm.en.keep x23 (by simp)) (hm.fi.keep x23 (by simp)) (Row2.keepL x23 (by simp) (fun _ _ => by simp) hm.inn) (Row2.keepL x23 (by simp) (fun _ _ => by simp) hm.low) (by rw [hv]; exact hnew)).in
  refine OpsL.nil ⟨fun k hk => by simp at hk, ?_⟩
  refine OpsQ.nil ?_
  (skip)
  exact hQ _ τ { m with ret := m.ret.set p (m.ret.getD p [] ++ [[]]) } V (by simp [tmPut, *]) ha3 hin ⟨hlen.of, hlen.entry, hlen.final, hlen.inn, hlen.low, by rw [List.length_set]; exact hlen.ret, hlen.inn1, hlen.low1, fun i => getD_set_gen (P := fun z : List (List Int) => z.length ≤ 100000) hlen.ret1 (by rw [List.length_append, List.length_singleton]; omega) (by simp) i, fun i => getD_set_gen (P := fun z : List (List Int) => ∀ j, (z.getD j []).length ≤ 100000) (fun i j => hlen.ret2 i j) (fun j => getD_snoc_gen (P := fun z : List Int => z.length ≤ 100000) (fun j => hlen.ret2 p j) (by simp) (by simp) j) (by simp) i⟩
theorem ck8 (W0 : World) {σ : CH} {A : Nat} {m : Mo} {V : MoV} {tm : Nat → Value} {n : Nat} {p : Nat} {x at_ : Int} (hn0 : n = 160) (t3 : tm 3 = .int .i64 at_) (t11 : tm 11 = .pointer (some ⟨A, 0, none⟩)) (t12 : tm 12 = .int .i64 p) (t13 : tm 13 = .int .i64 x) (ha : ObC .self σ A (.cells (moV m V) 0 none false (some 28))) (hm : MkO σ m V) (hlen : MoLen m) (hg : modF m = true) (hp : p < m.of.length) (hat : -9223372036854775808 ≤ at_ ∧ at_ ≤ 9223372036854775807) {Q : AExit → ASt → Prop}
    (hQ : ∀ tm' σ' m' V', tm' 11 = .pointer (some ⟨A, 0, none⟩) → ObC .self σ' A (.cells (moV m' V') 0 none false (some 28)) → MoIn σ'.H m' V' → MoLen m' → Q .normal ⟨tm', n, σ'.H, σ'.nx⟩) : Trip Try.prog W0 (subC [1, 1, 1, 1, 1, 1, 0, 1, 2, 1, 4, 1, 4, 1, 4, 1, 4, 1, 4, 1, 4, 1, 4, 1, 4, 1, 3] (bodyMk Try.f6)) ⟨tm, n, σ.H, σ.nx⟩ Q := by
  obtain ⟨s1, s2, s3, s4, s5, s6, s7, s8⟩ := of_decide_eq_true (show sizedF m = true by
    unfold modF at hg
    simp only [Bool.and_eq_true] at hg
    exact hg.1.1)
  have L1 := hlen.of
  have L2 := hlen.entry
  have L3 := hlen.final
  have L4 := hlen.inn
  have L5 := hlen.low
  have L6 := hlen.ret
  have g7 : cellAt σ.H ⟨A, 7, none⟩ V.r := ha.cell rfl
  obtain ⟨vs, b, t, rest, ra, rk, hv, hob, hall, hvl, hvp, hrow⟩ := Row3.opn hm.ret (i := p) (by omega)
  rw [hv] at g7
  have g8 : cellAt σ.H ⟨b, 0 + p * 1, some t⟩ (.slice ra (m.ret.getD p []).length rk) := by
    rw [Nat.zero_add, Nat.mul_one]
    refine hob.cell ?_
    rw [List.getElem?_append_left (by rw [List.length_map]; omega), List.getElem?_map, hvp]
    rfl
  obtain ⟨hl1, hl2⟩ := rowlen_ret hg hp
  repeat (first | (refine OpsL.q (by first | exact omv | exact ofa | exact old | exact oixa | exact olen) ?_) | (refine Trip.seq ?_) | (refine Trip.ops ?_))
  by_cases h0 : (0 : Int) < (m.ret.getD p []).length
  case neg =>
    refine OpsL.gtrF ?_ (c := h0)
    clear h0
    repeat (first | (refine OpsL.nil ?_; (change Trip _ _ _ _ _)))
    refine Trip.ifF ?_
    repeat (first | (refine Trip.skip ?_; (dsimp only)))
    exact hQ _ σ m V (by simp [tmPut, *]) ha hm.in hlen
  refine OpsL.gtrT ?_ (c := h0)
  have h0' : 0 < (m.ret.getD p []).length := by omega
  clear h0
  obtain ⟨ws, b1, t1, rest1, sa, sk, hv1, ho1, hwall, hwl, hwp, hrow0⟩ := Row2.opn hrow h0'
  have hra : ra = some ⟨b1, 0, some t1⟩ := by cases hv1; rfl
  subst hra
  have hk : rk = (m.ret.getD p []).length := by cases hv1; rfl
  subst hk
  have hl3 := hl2 0 h0'
  have hne : (m.ret.getD p []).getD 0 [] ≠ [] := fun e => by rw [e] at hl3; simp at hl3; omega
  obtain ⟨b2, t2, rest2, hv2, ho2⟩ := OwnC.opn encN_f hrow0 hne
  have hsa : sa = some ⟨b2, 0, some t2⟩ := by cases hv2; rfl
  subst hsa
  have hk2 : sk = ((m.ret.getD p []).getD 0 []).length := by cases hv2; rfl
  subst hk2
  have g9 : cellAt σ.H ⟨b1, 0 + 0 * 1, some t1⟩ (.slice (some ⟨b2, 0, some t2⟩) ((m.ret.getD p []).getD 0 []).length ((m.ret.getD p []).getD 0 []).length) := by
    refine ho1.cell ?_
    rw [List.getElem?_append_left (by rw [List.length_map]; omega), List.getElem?_map, hwp]
    rfl
  have g2 : cellAt σ.H ⟨A, 2, none⟩ V.o := ha.cell rfl
  obtain ⟨bo, hvo, hbo⟩ := hm.of.block
  rw [hvo] at g2
  obtain ⟨hat0, hat1⟩ := hat
  have hw0 := Int.emod_nonneg (at_.tdiv 9) (show (m.of.length : Int) ≠ 0 by omega)
  have hw1 := Int.emod_lt_of_pos (at_.tdiv 9) (show 0 < (m.of.length : Int) by omega)
  obtain ⟨i, hi⟩ : ∃ i : Nat, (at_.tdiv 9) % (m.of.length : Int) = i := ⟨((at_.tdiv 9) % (m.of.length : Int)).toNat, by omega⟩
  have hi3 : i < ((m.ret.getD p []).getD 0 []).length := by omega
  obtain ⟨R0, hR0⟩ : ∃ R, (m.ret.getD p []).getD 0 [] = R := ⟨_, rfl⟩
  rw [hR0] at hi3 g9 ho2 hwp hl3 hrow0
  repeat (first | (refine OpsL.nil ?_; (change Trip _ _ _ _ _)))
  refine Trip.ifT ?_
  have hKK : cellAt σ.H ⟨A, 7, none⟩ (.slice (some ⟨b, 0, some t⟩) m.ret.length m.ret.length) ∧ cellAt σ.H ⟨b, 0 + p * 1, some t⟩ (.slice (some ⟨b1, 0, some t1⟩) (m.ret.getD p []).length (m.ret.getD p []).length) ∧ cellAt σ.H ⟨b1, 0 + 0 * 1, some t1⟩ (.slice (some ⟨b2, 0, some t2⟩) R0.length R0.length) := ⟨g7, g8, g9⟩
  refine OpsQ.drawn [12, 15] (K := fun j nx H => j = 15 → cellAt H ⟨A, 7, none⟩ (.slice (some ⟨b, 0, some t⟩) m.ret.length m.ret.length) ∧ cellAt H ⟨b, 0 + p * 1, some t⟩ (.slice (some ⟨b1, 0, some t1⟩) (m.ret.getD p []).length (m.ret.getD p []).length) ∧ cellAt H ⟨b1, 0 + 0 * 1, some t1⟩ (.slice (some ⟨b2, 0, some t2⟩) R0.length R0.length)) mixed13 (by kernel_rfl) (by kernel_rfl) [0, 1, 2, 3, 4, 5, 6, 7, 8, 9, 10, 11, 13, 12, 14, 15] (by kernel_rfl) (fun _ _ _ => hKK) ?_
  refine OpsQ.one rfl rfl rfl (by kernel_rfl) ?_
  repeat (first | (refine OpsL.q (by exact ofa) ?_) | (refine OpsL.nil ?_; (dsimp only)))
  refine OpsQ.sp 15 rfl (by kernel_rfl) (by subst_vars; decide) (fun _ => hKK) (fun H2 nx2 hK => aop_load (by (first | (simp only [ASt.ev, tmPut, ↓reduceIte, Nat.reduceEqDiff, *]; rfl))) (by exact rfl) rfl (hK rfl).1) ?_
  refine OpsQ.one rfl rfl rfl (by kernel_rfl) ?_
  repeat (first | (refine OpsL.q (by exact omv) ?_) | (refine OpsL.nil ?_; (skip)))
  refine OpsQ.one rfl rfl rfl (by kernel_rfl) ?_
  repeat (first | (refine OpsL.q (by exact oixa) ?_) | (refine OpsL.nil ?_; (dsimp only)))
  refine OpsQ.sp 15 rfl (by kernel_rfl) (by subst_vars; decide) (fun _ => hKK) (fun H2 nx2 hK => aop_load (by (first | (simp only [ASt.ev, tmPut, ↓reduceIte, Nat.reduceEqDiff, *]; rfl))) (by exact rfl) rfl (hK rfl).2.1) ?_
  refine OpsQ.one rfl rfl rfl (by kernel_rfl) ?_
  repeat (first | (refine OpsL.q (by exact oixa) ?_) | (refine OpsL.nil ?_; (dsimp only)))
  refine OpsQ.sp 15 rfl (by kernel_rfl) (by subst_vars; decide) (fun _ => hKK) (fun H2 nx2 hK => aop_load (by (first | (simp only [ASt.ev, tmPut, ↓reduceIte, Nat.reduceEqDiff, *]; rfl))) (by exact rfl) rfl (hK rfl).2.2) ?_
  refine OpsQ.one rfl rfl rfl (by kernel_rfl) ?_
  repeat (first | (refine OpsL.q (by exact omv) ?_) | (refine OpsL.nil ?_; (skip)))
  refine OpsQ.one rfl rfl rfl (by kernel_rfl) ?_
  refine OpsL.p (by subst_vars; decide) (aop_quoT (a := at_) (b := 9) (by (first | (simp only [ASt.ev, tmPut, ↓reduceIte, Nat.reduceEqDiff, *]; done))) (by (first | (simp only [ASt.ev, tmPut, ↓reduceIte, Nat.reduceEqDiff, *]; rfl))) (by omega) hat0 hat1) ?_
  refine OpsL.nil ?_
  refine OpsQ.one rfl rfl rfl (by kernel_rfl) ?_
  repeat (first | (refine OpsL.q (by exact ofa) ?_) | (refine OpsL.nil ?_; (dsimp only)))
  refine OpsQ.one rfl rfl rfl (by kernel_rfl) ?_
  repeat (first | (refine OpsL.q (by exact old) ?_) | (refine OpsL.nil ?_; (skip)))
  refine OpsQ.one rfl rfl rfl (by kernel_rfl) ?_
  repeat (first | (refine OpsL.q (by exact olen) ?_) | (refine OpsL.nil ?_; (skip)))
  refine OpsQ.one rfl rfl rfl (by kernel_rfl) ?_
  repeat (first | (refine OpsL.q (by exact omv) ?_) | (refine OpsL.nil ?_; (skip)))
  refine OpsQ.act (by kernel_rfl) (ActStep.walk rfl rfl ?_)
  refine OpsL.c2 (hf := entersWithinN) (hc := (withinC W0 (at_.tdiv 9) m.of.length (by omega) (by omega))) (h := ?_)
  rintro v nx1 H1 ⟨rfl, rfl, rfl⟩
  rw [hi]
  refine OpsL.nil ⟨fun _ _ _ => hKK, ?_⟩
  refine OpsQ.one rfl rfl rfl (by kernel_rfl) ?_
  repeat (first | (refine OpsL.q (by exact oixa) ?_) | (refine OpsL.nil ?_; (dsimp only)))
  refine OpsQ.act (by kernel_rfl) (ActStep.walk rfl rfl ?_)
  refine OpsL.setC (k := i) (v := .int .i64 x) (cs' := (R0.set i x).map (fun x => Value.int .i64 x) ++ rest2) ho2 (by rw [List.length_append, List.length_map]; omega) (by rw [set_mapped (f := fun x => Value.int .i64 x) hi3]) (by exact rfl) rfl rfl (by (first | (simp only [ASt.ev, tmPut, ↓reduceIte, Nat.reduceEqDiff, *]; rfl))) (by (first | (simp only [ASt.ev, tmPut, ↓reduceIte, Nat.reduceEqDiff, *]; done))) (by show Addr.mk _ (0 + (i : Int).toNat * 1) _ = _; simp) ?_
  rintro τ ho hx -
  have ha3 := ha.keep hx (by simp)
  have hr1 : RowI (.ret2 p 0) τ (.slice (some ⟨b2, 0, some t2⟩) (R0.set i x).length (R0.set i x).length) (R0.set i x) := OwnC.cls encN_f ho
  rw [List.length_set] at hr1
  have hset : ∀ (vs : List SV) (p : Nat) (u : SV), vs[p]? = some u → vs.set p u = vs := fun vs p u hu => by
    apply List.ext_getElem?
    intro j
    rw [List.getElem?_set]
    split
    · rename_i e
      subst e
      rw [if_pos (List.getElem?_eq_some_iff.1 hu).1, hu]
    · rfl
  have hwall2 : AllC (fun j => RowI (.ret2 p j)) τ ws ((m.ret.getD p []).set 0 (R0.set i x)) := by
    have := AllC.set hwall (τ := τ) (c := 0) (u := (some ⟨b2, 0, some t2⟩, R0.length, R0.length)) (x := R0.set i x) (fun i _ _ _ hi hr => RowI.keepL hx (by simp [hi]) hr) hr1
    rw [hset _ _ _ hwp] at this
    exact this
  have hrow2 : Row2 (.ret2 p) (.ret1 p) τ (.slice (some ⟨b1, 0, some t1⟩) (m.ret.getD p []).length (m.ret.getD p []).length) ((m.ret.getD p []).set 0 (R0.set i x)) := by
    have := Row2.cls (ho1.keep hx (by simp)) hwall2
    rw [List.length_set] at this
    exact this
  have hall2 : AllC (fun p => Row2 (.ret2 p) (.ret1 p)) τ vs (m.ret.set p ((m.ret.getD p []).set 0 (R0.set i x))) := by
    have := AllC.set hall (τ := τ) (c := p) (u := (some ⟨b1, 0, some t1⟩, (m.ret.getD p []).length, (m.ret.getD p []).length)) (x := (m.ret.getD p []).set 0 (R0.set i x)) (fun i _ _ _ hi hr => Row2.keepL hx (by simp) (fun _ _ => by simp [hi]) hr) hrow2
    rw [hset _ _ _ hvp] at this
    exact this
  have hnew := Row3.cls (hob.keep hx (by simp)) hall2
  rw [List.length_set] at hnew
  have hin := (MkO.mk (σ := τ) (m := { m with ret := m.ret.set p ((m.ret.getD p []).set 0 (R0.set i x)) }) (V := V) (hm.of.keep hx (by simp)) (hm.en.keep hx (by simp)) (hm.fi.keep hx (by simp)) (Row2.keepL hx (by simp) (fun _ _ => by simp) hm.inn) (Row2.keepL hx (by simp) (fun _ _ => by simp) hm.low) (by rw [hv]; exact hnew)).in
  refine OpsL.nil ⟨fun k hk => by simp at hk, ?_⟩
  refine OpsQ.nil ?_
  (skip)
  exact hQ _ τ { m with ret := m.ret.set p ((m.ret.getD p []).set 0 (R0.set i x)) } V (by simp [tmPut, *]) ha3 hin ⟨hlen.of, hlen.entry, hlen.final, hlen.inn, hlen.low, by rw [List.length_set]; exact hlen.ret, hlen.inn1, hlen.low1, fun i => getD_set_gen (P := fun z : List (List Int) => z.length ≤ 100000) hlen.ret1 (by rw [List.length_set]; omega) (by simp) i, fun i => getD_set_gen (P := fun z : List (List Int) => ∀ j, (z.getD j []).length ≤ 100000) (fun i j => hlen.ret2 i j) (fun j => getD_set_gen (P := fun z : List Int => z.length ≤ 100000) (fun j => hlen.ret2 p j) (by rw [List.length_set]; omega) (by simp) j) (by simp) i⟩
end Go.Proofs.Ytooakbmehcchnaa
