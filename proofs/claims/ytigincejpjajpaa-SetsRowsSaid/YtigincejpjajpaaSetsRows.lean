/-
  The law SetsRows of chapter 2 holds: numbers and pairs are in order, each once, in whatever order they come.
  Conditions: none beyond the row's own.
-/
import Derived.Test.YtigincejpjajpaaLaw2
import Derived.Test.YtigincejpjajpaaRefI2
namespace Go.Proofs.Ytigincejpjajpaa.setsRows
set_option linter.unusedSimpArgs false
set_option linter.unusedVariables false
open Go.Am Go.RowKit Go.ChangeShapes Go.WideShapes Go.ChangeAt
attribute [local irreducible] aop OpsL Trip blockExit OpsD OpsK OpsR

theorem ints_rows {H : Heap} {v : Value} {l : List Int} (h : IntsAt H v l) : NumsIn H v l := by
  rcases h with h | ⟨a, c, rfl, hc⟩
  · exact .inl h
  · exact .inr ⟨a, c, rfl, fun i hi => by have := hc i hi; simpa [cellAt, encI] using this⟩
theorem rows_ints {H : Heap} {v : Value} {l : List Int} (h : NumsIn H v l) : IntsAt H v l := by
  rcases h with h | ⟨a, c, rfl, hc⟩
  · exact .inl h
  · exact .inr ⟨a, c, rfl, fun i hi => by have := hc i hi; simpa [cellAt, encI] using this⟩

theorem rowin_ext {nx nx' : Nat} {H H' : Heap} {v : Value} (h : RowIn H v) (hx : Ext nx H nx' H') (hok : ∀ id o, H id = some o → id < nx) : RowIn H' v := by
  rcases h with h | ⟨k, n, c, cs, h1, h2, h3⟩
  · exact .inl h
  · exact .inr ⟨k, n, c, cs, h1, by rw [hx.2 k (hok _ _ h2)]; exact h2, h3⟩

set_option maxRecDepth 20000 in
theorem arg_behind {H : Heap} {v : Value} {xs : List Int} {k : Nat} (h : IntsAt H v xs) (hr : RowIn H v) (hk : k ≤ xs.length) : ∃ r, aSlice Try.prog H 22 v (some (.int .i64 k)) none none = some r ∧ IntsAt H r (xs.drop k) := by
  rcases hr with rfl | ⟨b, n, c, cs, rfl, hH, hcs, hnc⟩
  · have hx : xs = [] := by
      rcases h with ⟨_, _, h⟩ | ⟨a, c, h, _⟩
      · exact h
      · cases h
    subst hx
    have hk0 : k = 0 := by simpa using hk
    subst hk0
    exact ⟨_, aSlice_nil (by exact rfl) (sz := 1) (by exact rfl) (.inr ⟨.i64, rfl⟩) (.inl ⟨rfl, rfl⟩), .inl ⟨0, rfl, rfl⟩⟩
  · obtain ⟨rfl, hc⟩ : n = xs.length ∧ ∀ (i : Nat) (h : i < xs.length), cellAt H ⟨b, 0 + i, none⟩ (.int .i64 xs[i]) := by
      rcases h with ⟨c', h, hx⟩ | ⟨a, c', h, hc⟩
      · cases h
      · cases h
        exact ⟨rfl, hc⟩
    refine ⟨_, aSlice_plain (el := 3) (sz := 1) (a := ⟨b, 0, none⟩) (l := k) (h := xs.length) (by exact rfl) (by exact rfl) hH rfl rfl (.inr ⟨.i64, rfl⟩) (.inl ⟨rfl, rfl⟩) hk hnc, ?_⟩
    refine .inr ⟨_, c - k, by rw [List.length_drop], fun i hi => ?_⟩
    rw [List.length_drop] at hi
    rw [if_neg (by omega), List.getElem_drop]
    have := hc (k + i) (by omega)
    show cellAt H ⟨b, 0 + k * 1 + i, none⟩ _
    rw [show 0 + k * 1 + i = 0 + (k + i) by omega]
    exact this

set_option maxRecDepth 20000 in
theorem arg_take {H : Heap} {v : Value} {xs : List Int} {k : Nat} (h : IntsAt H v xs) (hr : RowIn H v) (hk : k ≤ xs.length) : ∃ r, aSlice Try.prog H 22 v none (some (.int .i64 k)) none = some r ∧ IntsAt H r (xs.take k) := by
  rcases hr with rfl | ⟨b, n, c, cs, rfl, hH, hcs, hnc⟩
  · have hx : xs = [] := by
      rcases h with ⟨_, _, h⟩ | ⟨a, c, h, _⟩
      · exact h
      · cases h
    subst hx
    have hk0 : k = 0 := by simpa using hk
    subst hk0
    exact ⟨_, aSlice_nil (by exact rfl) (sz := 1) (by exact rfl) (.inl ⟨rfl, rfl⟩) (.inr ⟨.i64, rfl⟩), .inl ⟨0, rfl, rfl⟩⟩
  · obtain ⟨rfl, hc⟩ : n = xs.length ∧ ∀ (i : Nat) (h : i < xs.length), cellAt H ⟨b, 0 + i, none⟩ (.int .i64 xs[i]) := by
      rcases h with ⟨c', h, hx⟩ | ⟨a, c', h, hc⟩
      · cases h
      · cases h
        exact ⟨rfl, hc⟩
    refine ⟨_, aSlice_plain (el := 3) (sz := 1) (a := ⟨b, 0, none⟩) (l := 0) (h := k) (by exact rfl) (by exact rfl) hH rfl rfl (.inl ⟨rfl, rfl⟩) (.inr ⟨.i64, rfl⟩) (Nat.zero_le _) (by omega), ?_⟩
    refine .inr ⟨_, c - 0, by rw [List.length_take, Nat.min_eq_left hk, Nat.sub_zero], fun i hi => ?_⟩
    rw [List.length_take] at hi
    rw [if_neg (by omega), List.getElem_take]
    have := hc i (by omega)
    show cellAt H ⟨b, 0 + 0 * 1 + i, none⟩ _
    rw [show 0 + 0 * 1 + i = 0 + i by omega]
    exact this

theorem rowin_blk {H : Heap} {a : Option Addr} {m c : Nat} {nx : Nat} (h : RowIn H (.slice a m c)) (hok : ∀ id o, H id = some o → id < nx) : ∀ p, a = some p → p.block < nx := by
  intro p hp
  subst hp
  rcases h with h | ⟨b, n, c', cs, h1, hH, _⟩
  · cases h
  · obtain ⟨h3, _, _⟩ := Value.slice.inj h1
    cases Option.some.inj h3
    exact hok _ _ hH

theorem entersKnown : Am.Enters Try.prog 12 := ⟨Try.f12, Try.func12, by kernel_rfl, by kernel_rfl⟩
theorem entersLInts : Am.Enters Try.prog 17 := ⟨Try.f17, Try.func17, by kernel_rfl, by kernel_rfl⟩

set_option maxRecDepth 20000 in
/-- The front of a row, and what is behind it. -/
theorem own_partsP {H : Heap} {ob : Option (Nat × Nat)} {v : Value} {l : List (Int × Int)} {k : Nat} (h : OwnPairs H ob v l) (hk : k ≤ l.length) :
    (∃ r, aSlice Try.prog H 24 v none (some (.int .i64 k)) none = some r ∧ PairsAt H r (l.take k)) ∧ ∃ r, aSlice Try.prog H 24 v (some (.int .i64 k)) none none = some r ∧ PairsAt H r (l.drop k) := by
  cases ob with
  | none =>
    obtain ⟨rfl, _, h2⟩ := h
    have hl : l = [] := List.eq_nil_of_length_eq_zero h2
    subst hl
    have hk0 : k = 0 := by simpa using hk
    subst hk0
    exact ⟨⟨_, aSlice_nil (by exact rfl) (sz := 2) (by exact rfl) (.inl ⟨rfl, rfl⟩) (.inr ⟨.i64, rfl⟩), .inl ⟨0, rfl, rfl⟩⟩, ⟨_, aSlice_nil (by exact rfl) (sz := 2) (by exact rfl) (.inr ⟨.i64, rfl⟩) (.inl ⟨rfl, rfl⟩), .inl ⟨0, rfl, rfl⟩⟩⟩
  | some bt =>
    obtain ⟨b, t⟩ := bt
    obtain ⟨rfl, _, rest, ho⟩ := h
    refine ⟨⟨_, aSlice_tagged (el := 27) (sz := 2) (a := ⟨b, 0, some t⟩) (l := 0) (h := k) (by exact rfl) (by exact rfl) ho rfl rfl rfl (.inl ⟨rfl, rfl⟩) (.inr ⟨.i64, rfl⟩) (Nat.zero_le _) hk, ?_⟩, ⟨_, aSlice_tagged (el := 27) (sz := 2) (a := ⟨b, 0, some t⟩) (l := k) (h := l.length) (by exact rfl) (by exact rfl) ho rfl rfl rfl (.inr ⟨.i64, rfl⟩) (.inl ⟨rfl, rfl⟩) hk (Nat.le_refl _), ?_⟩⟩
    · rw [if_neg (by omega)]
      refine .inr ⟨⟨b, 0 + 0 * 2, some t⟩, k - 0, by rw [List.length_take, Nat.min_eq_left hk, Nat.sub_zero], fun i hi => ?_⟩
      rw [List.length_take] at hi
      have := getc_flat (i := i) encP_len ho (by omega)
      rw [List.getElem_take]
      show getc H ⟨b, 0 + 0 * 2 + i * 2, some t⟩ 2 = _
      rw [show 0 + 0 * 2 + i * 2 = 0 + i * 2 by omega]
      exact this
    · refine .inr ⟨⟨b, 0 + k * 2, if k = l.length ∧ 0 < k then none else some t⟩, l.length - k, by rw [List.length_drop], fun i hi => ?_⟩
      rw [List.length_drop] at hi
      rw [if_neg (by omega)]
      have := getc_flat (i := k + i) encP_len ho (by omega)
      rw [List.getElem_drop]
      show getc H ⟨b, 0 + k * 2 + i * 2, some t⟩ 2 = _
      rw [show 0 + k * 2 + i * 2 = 0 + (k + i) * 2 by omega]
      exact this

set_option maxRecDepth 20000 in
set_option maxHeartbeats 4000000 in
theorem lintsC (W0 : World) {nx : Nat} {H : Heap} {av bv : Value} {la lb : List Int} (ha : NumsIn H av la) (hb : NumsIn H bv lb) (hm : la.length ≤ 1000000) (hm2 : lb.length ≤ 1000000) :
    ACalls Try.prog W0 17 [av, bv] nx H fun v nx' H' => v = .bool (decide (la = lb)) ∧ nx' = nx ∧ H' = H := by
  obtain ⟨aa, ac, rfl⟩ := ha.slice
  obtain ⟨ba, bc, rfl⟩ := hb.slice
  refine ACalls.by_trip (fn := Try.f17) (c := _) Try.func17 rfl (fun tm n hn0 htm => ?_)
  have e0 : tm 0 = .slice aa la.length ac := htm 0
  have e1 : tm 1 = .slice ba lb.length bc := htm 1
  clear htm
  replace hn0 : n = 26 := hn0
  repeat (first | (refine OpsL.p (by subst_vars; decide) (by (first | (exact aop_move (by (first | (simp only [ASt.ev, tmPut, ↓reduceIte, reduceIte, Nat.reduceEqDiff, plain1, *]; rfl) | fail))) | (exact aop_len (by (first | (simp only [ASt.ev, tmPut, ↓reduceIte, reduceIte, Nat.reduceEqDiff, plain1, *]; rfl) | fail)) (by exact rfl)) | (exact aop_assign (by (first | (simp only [ASt.ev, tmPut, ↓reduceIte, reduceIte, Nat.reduceEqDiff, plain1, *]; rfl) | fail))) | fail)) ?_) | (refine Trip.seq ?_) | (refine Trip.ops ?_) | (refine OpsL.nil ?_; ((repeat (first | refine blockExit_eq ?_ | refine blockExit_ne (by decide) ?_ | refine blockExit_normal ?_ | refine blockExit_ret ?_ | refine blockExit_goto ?_)); first | (change Trip _ _ _ _ _) | dsimp only | skip)) | fail)
  by_cases hlen : la.length = lb.length
  · refine OpsL.p (by subst_vars; decide) (aop_neqF (by (first | (simp only [ASt.ev, tmPut, ↓reduceIte, reduceIte, Nat.reduceEqDiff, plain1, *]; rfl) | fail)) (by (first | (simp only [ASt.ev, tmPut, ↓reduceIte, reduceIte, Nat.reduceEqDiff, plain1, *]; rfl) | fail)) (by omega)) ?_
    repeat (first | (refine OpsL.nil ?_; ((repeat (first | refine blockExit_eq ?_ | refine blockExit_ne (by decide) ?_ | refine blockExit_normal ?_ | refine blockExit_ret ?_ | refine blockExit_goto ?_)); first | (change Trip _ _ _ _ _) | dsimp only | skip)) | fail)
    refine Trip.iteB (b := false) (by (first | (simp only [ASt.ev, tmPut, ↓reduceIte, reduceIte, Nat.reduceEqDiff, decide_true, decide_false, not_true_eq_false, not_false_eq_true, Bool.not_true, Bool.not_false, *]; done) | fail)) (fun h => absurd h (by decide)) (fun _ => ?_)
    repeat (first | (refine OpsL.p (by subst_vars; decide) (by (first | (exact aop_assign (by (first | (simp only [ASt.ev, tmPut, ↓reduceIte, reduceIte, Nat.reduceEqDiff, plain1, *]; rfl) | fail))) | fail)) ?_) | (refine Trip.seq ?_) | (refine Trip.ops ?_) | (refine Trip.block ?_) | (refine Trip.skip ?_; ((repeat (first | refine blockExit_eq ?_ | refine blockExit_ne (by decide) ?_ | refine blockExit_normal ?_ | refine blockExit_ret ?_ | refine blockExit_goto ?_)); first | (change Trip _ _ _ _ _) | dsimp only | skip)) | (refine OpsL.nil ?_; ((repeat (first | refine blockExit_eq ?_ | refine blockExit_ne (by decide) ?_ | refine blockExit_normal ?_ | refine blockExit_ret ?_ | refine blockExit_goto ?_)); first | (change Trip _ _ _ _ _) | dsimp only | skip)) | fail)
    refine Trip.inv (fun (i : Nat) st => ∃ (tm : Nat → Value), st = ⟨tm, n, H, nx⟩ ∧ tm 0 = .slice aa la.length ac ∧ tm 1 = .slice ba lb.length bc ∧ tm 5 = .int .i64 i ∧ i ≤ la.length ∧ la.take i = lb.take i) (fun i => la.length - i) 0 ?_ ?_
    · exact ⟨_, rfl, by simp [tmPut, *], by simp [tmPut, *], by simp [tmPut, *], by omega, by simp⟩
    · clear e0 e1
      rintro i st ⟨tm, rfl, e0, e1, e5, hi, htk⟩
      by_cases hlt : i < la.length
      · obtain ⟨p, rfl, g1⟩ := rows_at ha hlt
        obtain ⟨q, rfl, g2⟩ := rows_at hb (show i < lb.length by omega)
        replace g1 : cellAt H ⟨p.block, p.off + (i : Int).toNat * 1, p.spot⟩ (.int .i64 la[i]) := g1
        replace g2 : cellAt H ⟨q.block, q.off + (i : Int).toNat * 1, q.spot⟩ (.int .i64 lb[i]) := g2
        have hlb : i < lb.length := by omega
        have hst : la.take (i + 1) = lb.take (i + 1) ↔ la[i] = lb[i] := by
          rw [List.take_add_one, List.take_add_one, List.getElem?_eq_getElem hlt, List.getElem?_eq_getElem hlb, htk, Option.toList_some, Option.toList_some, List.append_cancel_left_eq]
          simp only [List.cons.injEq, and_true]
        repeat (first | (refine OpsL.p (by subst_vars; decide) (by (first | (exact aop_move (by (first | (simp only [ASt.ev, tmPut, ↓reduceIte, reduceIte, Nat.reduceEqDiff, plain1, *]; rfl) | fail))) | (exact aop_len (by (first | (simp only [ASt.ev, tmPut, ↓reduceIte, reduceIte, Nat.reduceEqDiff, plain1, *]; rfl) | fail)) (by exact rfl)) | fail)) ?_) | (refine Trip.seq ?_) | (refine Trip.ops ?_) | fail)
        refine OpsL.p (by subst_vars; decide) (aop_lssT (by (first | (simp only [ASt.ev, tmPut, ↓reduceIte, reduceIte, Nat.reduceEqDiff, plain1, *]; rfl) | fail)) (by (first | (simp only [ASt.ev, tmPut, ↓reduceIte, reduceIte, Nat.reduceEqDiff, plain1, *]; rfl) | fail)) (by omega)) ?_
        repeat (first | (refine OpsL.nil ?_; ((repeat (first | refine blockExit_eq ?_ | refine blockExit_ne (by decide) ?_ | refine blockExit_normal ?_ | refine blockExit_ret ?_ | refine blockExit_goto ?_)); first | (change Trip _ _ _ _ _) | dsimp only | skip)) | fail)
        refine Trip.iteB (b := true) (by (first | (simp only [ASt.ev, tmPut, ↓reduceIte, reduceIte, Nat.reduceEqDiff, decide_true, decide_false, not_true_eq_false, not_false_eq_true, Bool.not_true, Bool.not_false, *]; done) | fail)) (fun _ => ?_) (fun h => absurd h (by decide))
        repeat (first | (refine Trip.seq ?_) | (refine Trip.block ?_) | (refine Trip.skip ?_; ((repeat (first | refine blockExit_eq ?_ | refine blockExit_ne (by decide) ?_ | refine blockExit_normal ?_ | refine blockExit_ret ?_ | refine blockExit_goto ?_)); first | (change Trip _ _ _ _ _) | dsimp only | skip)) | fail)
        refine Trip.mono (Q := fun e st => e = .normal ∧ ∃ (tm' : Nat → Value), st = ⟨tm', n, H, nx⟩ ∧ tm' 0 = .slice (some p) la.length ac ∧ tm' 1 = .slice (some q) lb.length bc ∧ tm' 5 = .int .i64 i ∧ tm' 25 = .bool (decide (la[i] ≠ lb[i]))) ?_ ?_
        · refine OpsK.drawn (K := fun _ _ => True) mixedP (by kernel_rfl) (by kernel_rfl) trivial ?_
          refine OpsK.one rfl (by kernel_rfl) ?_
          repeat (first | (refine OpsL.p (by subst_vars; decide) (by (first | (exact aop_move (by (first | (simp only [ASt.ev, tmPut, ↓reduceIte, reduceIte, Nat.reduceEqDiff, plain1, *]; rfl) | fail))) | fail)) ?_) | (refine OpsL.nil ?_; ((repeat (first | refine blockExit_eq ?_ | refine blockExit_ne (by decide) ?_ | refine blockExit_normal ?_ | refine blockExit_ret ?_ | refine blockExit_goto ?_)); first | (change Trip _ _ _ _ _) | dsimp only | skip)) | fail)
          refine OpsK.one rfl (by kernel_rfl) ?_
          repeat (first | (refine OpsL.p (by subst_vars; decide) (by (first | (exact aop_move (by (first | (simp only [ASt.ev, tmPut, ↓reduceIte, reduceIte, Nat.reduceEqDiff, plain1, *]; rfl) | fail))) | fail)) ?_) | (refine OpsL.nil ?_; ((repeat (first | refine blockExit_eq ?_ | refine blockExit_ne (by decide) ?_ | refine blockExit_normal ?_ | refine blockExit_ret ?_ | refine blockExit_goto ?_)); first | (change Trip _ _ _ _ _) | dsimp only | skip)) | fail)
          refine OpsK.one rfl (by kernel_rfl) ?_
          repeat (first | (refine OpsL.p (by subst_vars; decide) (by (first | (exact aop_indexAddr (by (first | (simp only [ASt.ev, tmPut, ↓reduceIte, reduceIte, Nat.reduceEqDiff, plain1, *]; rfl) | fail)) (by (first | (simp only [ASt.ev, tmPut, ↓reduceIte, reduceIte, Nat.reduceEqDiff, plain1, *]; rfl) | fail)) (by exact rfl) (by exact rfl) (by omega) (by omega)) | fail)) ?_) | (refine OpsL.nil ?_; ((repeat (first | refine blockExit_eq ?_ | refine blockExit_ne (by decide) ?_ | refine blockExit_normal ?_ | refine blockExit_ret ?_ | refine blockExit_goto ?_)); first | (change Trip _ _ _ _ _) | dsimp only | skip)) | fail)
          refine OpsK.one rfl (by kernel_rfl) ?_
          repeat (first | (refine OpsL.p (by subst_vars; decide) (by (first | (exact aop_load (by (first | (simp only [ASt.ev, tmPut, ↓reduceIte, reduceIte, Nat.reduceEqDiff, plain1, *]; rfl) | fail)) (by exact rfl) rfl (by assumption)) | fail)) ?_) | (refine OpsL.nil ?_; ((repeat (first | refine blockExit_eq ?_ | refine blockExit_ne (by decide) ?_ | refine blockExit_normal ?_ | refine blockExit_ret ?_ | refine blockExit_goto ?_)); first | (change Trip _ _ _ _ _) | dsimp only | skip)) | fail)
          refine OpsK.one rfl (by kernel_rfl) ?_
          repeat (first | (refine OpsL.p (by subst_vars; decide) (by (first | (exact aop_move (by (first | (simp only [ASt.ev, tmPut, ↓reduceIte, reduceIte, Nat.reduceEqDiff, plain1, *]; rfl) | fail))) | fail)) ?_) | (refine OpsL.nil ?_; ((repeat (first | refine blockExit_eq ?_ | refine blockExit_ne (by decide) ?_ | refine blockExit_normal ?_ | refine blockExit_ret ?_ | refine blockExit_goto ?_)); first | (change Trip _ _ _ _ _) | dsimp only | skip)) | fail)
          refine OpsK.one rfl (by kernel_rfl) ?_
          repeat (first | (refine OpsL.p (by subst_vars; decide) (by (first | (exact aop_move (by (first | (simp only [ASt.ev, tmPut, ↓reduceIte, reduceIte, Nat.reduceEqDiff, plain1, *]; rfl) | fail))) | fail)) ?_) | (refine OpsL.nil ?_; ((repeat (first | refine blockExit_eq ?_ | refine blockExit_ne (by decide) ?_ | refine blockExit_normal ?_ | refine blockExit_ret ?_ | refine blockExit_goto ?_)); first | (change Trip _ _ _ _ _) | dsimp only | skip)) | fail)
          refine OpsK.one rfl (by kernel_rfl) ?_
          repeat (first | (refine OpsL.p (by subst_vars; decide) (by (first | (exact aop_indexAddr (by (first | (simp only [ASt.ev, tmPut, ↓reduceIte, reduceIte, Nat.reduceEqDiff, plain1, *]; rfl) | fail)) (by (first | (simp only [ASt.ev, tmPut, ↓reduceIte, reduceIte, Nat.reduceEqDiff, plain1, *]; rfl) | fail)) (by exact rfl) (by exact rfl) (by omega) (by omega)) | fail)) ?_) | (refine OpsL.nil ?_; ((repeat (first | refine blockExit_eq ?_ | refine blockExit_ne (by decide) ?_ | refine blockExit_normal ?_ | refine blockExit_ret ?_ | refine blockExit_goto ?_)); first | (change Trip _ _ _ _ _) | dsimp only | skip)) | fail)
          refine OpsK.one rfl (by kernel_rfl) ?_
          repeat (first | (refine OpsL.p (by subst_vars; decide) (by (first | (exact aop_load (by (first | (simp only [ASt.ev, tmPut, ↓reduceIte, reduceIte, Nat.reduceEqDiff, plain1, *]; rfl) | fail)) (by exact rfl) rfl (by assumption)) | fail)) ?_) | (refine OpsL.nil ?_; ((repeat (first | refine blockExit_eq ?_ | refine blockExit_ne (by decide) ?_ | refine blockExit_normal ?_ | refine blockExit_ret ?_ | refine blockExit_goto ?_)); first | (change Trip _ _ _ _ _) | dsimp only | skip)) | fail)
          refine OpsK.one rfl (by kernel_rfl) ?_
          refine OpsL.p (by subst_vars; decide) (aop_neq (by (first | (simp only [ASt.ev, tmPut, ↓reduceIte, reduceIte, Nat.reduceEqDiff, plain1, *]; rfl) | fail)) (by (first | (simp only [ASt.ev, tmPut, ↓reduceIte, reduceIte, Nat.reduceEqDiff, plain1, *]; rfl) | fail))) ?_
          repeat (first | (refine OpsL.nil ?_; ((repeat (first | refine blockExit_eq ?_ | refine blockExit_ne (by decide) ?_ | refine blockExit_normal ?_ | refine blockExit_ret ?_ | refine blockExit_goto ?_)); first | (change Trip _ _ _ _ _) | dsimp only | skip)) | fail)
          refine OpsK.nil ?_
          exact ⟨rfl, _, rfl, by simp [tmPut, *], by simp [tmPut, *], by simp [tmPut, *], by simp [tmPut, *]⟩
        · clear e0 e1 e5
          rintro e st ⟨rfl, tm', rfl, e0, e1, e5, e25⟩
          ((repeat (first | refine blockExit_eq ?_ | refine blockExit_ne (by decide) ?_ | refine blockExit_normal ?_ | refine blockExit_ret ?_ | refine blockExit_goto ?_)); first | (change Trip _ _ _ _ _) | dsimp only | skip)
          by_cases hab : la[i] = lb[i]
          · rw [decide_eq_false (fun h => h hab)] at e25
            repeat fail
            refine Trip.iteB (b := false) (by (first | (simp only [ASt.ev, tmPut, ↓reduceIte, reduceIte, Nat.reduceEqDiff, decide_true, decide_false, not_true_eq_false, not_false_eq_true, Bool.not_true, Bool.not_false, *]; done) | fail)) (fun h => absurd h (by decide)) (fun _ => ?_)
            repeat (first | (refine OpsL.p (by subst_vars; decide) (by (first | (exact aop_move (by (first | (simp only [ASt.ev, tmPut, ↓reduceIte, reduceIte, Nat.reduceEqDiff, plain1, *]; rfl) | fail))) | (exact aop_assign (by (first | (simp only [ASt.ev, tmPut, ↓reduceIte, reduceIte, Nat.reduceEqDiff, plain1, *]; rfl) | fail))) | (exact aop_add (by (first | (simp only [ASt.ev, tmPut, ↓reduceIte, reduceIte, Nat.reduceEqDiff, plain1, *]; rfl) | fail)) (by (first | (simp only [ASt.ev, tmPut, ↓reduceIte, reduceIte, Nat.reduceEqDiff, plain1, *]; rfl) | fail)) (by omega)) | fail)) ?_) | (refine Trip.ops ?_) | (refine Trip.skip ?_; ((repeat (first | refine blockExit_eq ?_ | refine blockExit_ne (by decide) ?_ | refine blockExit_normal ?_ | refine blockExit_ret ?_ | refine blockExit_goto ?_)); first | (change Trip _ _ _ _ _) | dsimp only | skip)) | (refine OpsL.nil ?_; ((repeat (first | refine blockExit_eq ?_ | refine blockExit_ne (by decide) ?_ | refine blockExit_normal ?_ | refine blockExit_ret ?_ | refine blockExit_goto ?_)); first | (change Trip _ _ _ _ _) | dsimp only | skip)) | fail)
            exact ⟨i + 1, ⟨_, rfl, by simp [tmPut, *], by simp [tmPut, *], by simp [tmPut, *], by omega, hst.2 hab⟩, by omega⟩
          · rw [decide_eq_true hab] at e25
            have hne : la ≠ lb := fun h => hab (by subst h; rfl)
            repeat fail
            refine Trip.iteB (b := true) (by (first | (simp only [ASt.ev, tmPut, ↓reduceIte, reduceIte, Nat.reduceEqDiff, decide_true, decide_false, not_true_eq_false, not_false_eq_true, Bool.not_true, Bool.not_false, *]; done) | fail)) (fun _ => ?_) (fun h => absurd h (by decide))
            repeat (first | (refine OpsL.p (by subst_vars; decide) (by (first | (exact aop_assign (by (first | (simp only [ASt.ev, tmPut, ↓reduceIte, reduceIte, Nat.reduceEqDiff, plain1, *]; rfl) | fail))) | fail)) ?_) | (refine Trip.seq ?_) | (refine Trip.ops ?_) | (refine Trip.ret ?_; ((repeat (first | refine blockExit_eq ?_ | refine blockExit_ne (by decide) ?_ | refine blockExit_normal ?_ | refine blockExit_ret ?_ | refine blockExit_goto ?_)); first | (change Trip _ _ _ _ _) | dsimp only | skip)) | (refine OpsL.nil ?_; ((repeat (first | refine blockExit_eq ?_ | refine blockExit_ne (by decide) ?_ | refine blockExit_normal ?_ | refine blockExit_ret ?_ | refine blockExit_goto ?_)); first | (change Trip _ _ _ _ _) | dsimp only | skip)) | fail)
            exact ⟨.inr rfl, _, res_tmp, by simp [tmPut, hne], rfl, rfl⟩
      · have heq : la = lb := by
          rw [List.take_of_length_le (by omega), List.take_of_length_le (by omega)] at htk
          exact htk
        repeat (first | (refine OpsL.p (by subst_vars; decide) (by (first | (exact aop_move (by (first | (simp only [ASt.ev, tmPut, ↓reduceIte, reduceIte, Nat.reduceEqDiff, plain1, *]; rfl) | fail))) | (exact aop_len (by (first | (simp only [ASt.ev, tmPut, ↓reduceIte, reduceIte, Nat.reduceEqDiff, plain1, *]; rfl) | fail)) (by exact rfl)) | fail)) ?_) | (refine Trip.seq ?_) | (refine Trip.ops ?_) | fail)
        refine OpsL.p (by subst_vars; decide) (aop_lssF (by (first | (simp only [ASt.ev, tmPut, ↓reduceIte, reduceIte, Nat.reduceEqDiff, plain1, *]; rfl) | fail)) (by (first | (simp only [ASt.ev, tmPut, ↓reduceIte, reduceIte, Nat.reduceEqDiff, plain1, *]; rfl) | fail)) (by omega)) ?_
        repeat (first | (refine OpsL.nil ?_; ((repeat (first | refine blockExit_eq ?_ | refine blockExit_ne (by decide) ?_ | refine blockExit_normal ?_ | refine blockExit_ret ?_ | refine blockExit_goto ?_)); first | (change Trip _ _ _ _ _) | dsimp only | skip)) | fail)
        refine Trip.iteB (b := false) (by (first | (simp only [ASt.ev, tmPut, ↓reduceIte, reduceIte, Nat.reduceEqDiff, decide_true, decide_false, not_true_eq_false, not_false_eq_true, Bool.not_true, Bool.not_false, *]; done) | fail)) (fun h => absurd h (by decide)) (fun _ => ?_)
        repeat (first | (refine OpsL.p (by subst_vars; decide) (by (first | (exact aop_assign (by (first | (simp only [ASt.ev, tmPut, ↓reduceIte, reduceIte, Nat.reduceEqDiff, plain1, *]; rfl) | fail))) | fail)) ?_) | (refine Trip.seq ?_) | (refine Trip.ops ?_) | (refine Trip.exit ?_; ((repeat (first | refine blockExit_eq ?_ | refine blockExit_ne (by decide) ?_ | refine blockExit_normal ?_ | refine blockExit_ret ?_ | refine blockExit_goto ?_)); first | (change Trip _ _ _ _ _) | dsimp only | skip)) | (refine Trip.ret ?_; ((repeat (first | refine blockExit_eq ?_ | refine blockExit_ne (by decide) ?_ | refine blockExit_normal ?_ | refine blockExit_ret ?_ | refine blockExit_goto ?_)); first | (change Trip _ _ _ _ _) | dsimp only | skip)) | (refine OpsL.nil ?_; ((repeat (first | refine blockExit_eq ?_ | refine blockExit_ne (by decide) ?_ | refine blockExit_normal ?_ | refine blockExit_ret ?_ | refine blockExit_goto ?_)); first | (change Trip _ _ _ _ _) | dsimp only | skip)) | fail)
        exact ⟨.inr rfl, _, res_tmp, by simp [tmPut, heq], rfl, rfl⟩
  · have hne : la ≠ lb := fun h => hlen (by rw [h])
    refine OpsL.p (by subst_vars; decide) (aop_neqT (by (first | (simp only [ASt.ev, tmPut, ↓reduceIte, reduceIte, Nat.reduceEqDiff, plain1, *]; rfl) | fail)) (by (first | (simp only [ASt.ev, tmPut, ↓reduceIte, reduceIte, Nat.reduceEqDiff, plain1, *]; rfl) | fail)) (by omega)) ?_
    repeat (first | (refine OpsL.nil ?_; ((repeat (first | refine blockExit_eq ?_ | refine blockExit_ne (by decide) ?_ | refine blockExit_normal ?_ | refine blockExit_ret ?_ | refine blockExit_goto ?_)); first | (change Trip _ _ _ _ _) | dsimp only | skip)) | fail)
    refine Trip.iteB (b := true) (by (first | (simp only [ASt.ev, tmPut, ↓reduceIte, reduceIte, Nat.reduceEqDiff, decide_true, decide_false, not_true_eq_false, not_false_eq_true, Bool.not_true, Bool.not_false, *]; done) | fail)) (fun _ => ?_) (fun h => absurd h (by decide))
    repeat (first | (refine OpsL.p (by subst_vars; decide) (by (first | (exact aop_assign (by (first | (simp only [ASt.ev, tmPut, ↓reduceIte, reduceIte, Nat.reduceEqDiff, plain1, *]; rfl) | fail))) | fail)) ?_) | (refine Trip.seq ?_) | (refine Trip.ops ?_) | (refine Trip.ret ?_; ((repeat (first | refine blockExit_eq ?_ | refine blockExit_ne (by decide) ?_ | refine blockExit_normal ?_ | refine blockExit_ret ?_ | refine blockExit_goto ?_)); first | (change Trip _ _ _ _ _) | dsimp only | skip)) | (refine OpsL.nil ?_; ((repeat (first | refine blockExit_eq ?_ | refine blockExit_ne (by decide) ?_ | refine blockExit_normal ?_ | refine blockExit_ret ?_ | refine blockExit_goto ?_)); first | (change Trip _ _ _ _ _) | dsimp only | skip)) | fail)
    exact ⟨.inr rfl, _, res_tmp, by simp [tmPut, hne], rfl, rfl⟩


theorem own_blkP {H : Heap} {ob : Option (Nat × Nat)} {a : Option Addr} {m c : Nat} {l : List (Int × Int)} {nx : Nat} (h : OwnPairs H ob (.slice a m c) l) (hok : ∀ id o, H id = some o → id < nx) : ∀ p, a = some p → p.block < nx := by
  intro p hp
  subst hp
  cases ob with
  | none => obtain ⟨h1, _⟩ := h; cases h1
  | some bt =>
    obtain ⟨b, t⟩ := bt
    obtain ⟨h1, _, rest, hH⟩ := h
    obtain ⟨h3, _, _⟩ := Value.slice.inj h1
    cases Option.some.inj h3
    exact hok _ _ hH

set_option maxRecDepth 20000 in
set_option maxHeartbeats 16000000 in
theorem law (W0 : World) {nx : Nat} {H : Heap} {turn : Int} {nv rv : Value} {ns raw : List Int} (hn : IntsAt H nv ns) (hr : IntsAt H rv raw) (hrr : RowIn H rv) : ACalls Try.prog W0 3 [nv, rv, .int .i64 turn] nx H fun v _ _ => v = .bool true := by
  obtain ⟨na, nc, rfl⟩ := hn.slice
  obtain ⟨ra, rc, rfl⟩ := hr.slice
  refine ACalls.by_trip (fn := Try.f3) (c := _) Try.func3 rfl (fun tm n hn0 htm => ?_)
  have e0 : tm 0 = .slice na ns.length nc := htm 0
  have e1 : tm 1 = .slice ra raw.length rc := htm 1
  have e2 : tm 2 = .int .i64 turn := htm 2
  clear htm
  replace hn0 : n = 122 := hn0
  refine Trip.ok fun hok => ?_
  replace hok : ∀ id o, H id = some o → id < nx := hok
  repeat (first | (refine OpsL.p (by subst_vars; decide) (by (first | (exact aop_assign (by (first | (simp only [ASt.ev, tmPut, ↓reduceIte, reduceIte, Nat.reduceEqDiff, plain1, *]; rfl) | fail))) | fail)) ?_) | (refine Trip.seq ?_) | (refine Trip.ops ?_) | (refine OpsL.nil ?_; ((repeat (first | refine blockExit_eq ?_ | refine blockExit_ne (by decide) ?_ | refine blockExit_normal ?_ | refine blockExit_ret ?_ | refine blockExit_goto ?_)); first | (change Trip _ _ _ _ _) | dsimp only | skip)) | fail)
  refine OpsL.call0 (by subst_vars; decide) entersKnown ((known_told W0).2 nx H) ?_
  rintro v nx0 H0 ⟨rfl, rfl, rfl⟩
  dsimp only
  repeat (first | (refine OpsL.p (by subst_vars; decide) (by (first | (exact aop_not (by (first | (simp only [ASt.ev, tmPut, ↓reduceIte, reduceIte, Nat.reduceEqDiff, plain1, *]; rfl) | fail))) | fail)) ?_) | (refine OpsL.nil ?_; ((repeat (first | refine blockExit_eq ?_ | refine blockExit_ne (by decide) ?_ | refine blockExit_normal ?_ | refine blockExit_ret ?_ | refine blockExit_goto ?_)); first | (change Trip _ _ _ _ _) | dsimp only | skip)) | fail)
  refine Trip.iteB (b := false) (by (first | (simp only [ASt.ev, tmPut, ↓reduceIte, reduceIte, Nat.reduceEqDiff, decide_true, decide_false, not_true_eq_false, not_false_eq_true, Bool.not_true, Bool.not_false, *]; done) | fail)) (fun h => absurd h (by decide)) (fun _ => ?_)
  repeat (first | (refine OpsL.p (by subst_vars; decide) (by (first | (exact aop_move (by (first | (simp only [ASt.ev, tmPut, ↓reduceIte, reduceIte, Nat.reduceEqDiff, plain1, *]; rfl) | fail))) | (exact aop_len (by (first | (simp only [ASt.ev, tmPut, ↓reduceIte, reduceIte, Nat.reduceEqDiff, plain1, *]; rfl) | fail)) (by exact rfl)) | fail)) ?_) | (refine Trip.seq ?_) | (refine Trip.ops ?_) | (refine Trip.skip ?_; ((repeat (first | refine blockExit_eq ?_ | refine blockExit_ne (by decide) ?_ | refine blockExit_normal ?_ | refine blockExit_ret ?_ | refine blockExit_goto ?_)); first | (change Trip _ _ _ _ _) | dsimp only | skip)) | fail)
  by_cases hb1 : (60 : Int) < (ns.length : Int)
  · refine OpsL.p (by subst_vars; decide) (aop_gtrT (by (first | (simp only [ASt.ev, tmPut, ↓reduceIte, reduceIte, Nat.reduceEqDiff, plain1, *]; rfl) | fail)) (by (first | (simp only [ASt.ev, tmPut, ↓reduceIte, reduceIte, Nat.reduceEqDiff, plain1, *]; rfl) | fail)) (by omega)) ?_
    repeat (first | (refine OpsL.p (by subst_vars; decide) (by (first | (exact aop_move (by (first | (simp only [ASt.ev, tmPut, ↓reduceIte, reduceIte, Nat.reduceEqDiff, plain1, *]; rfl) | fail))) | (exact aop_pickT (by (first | (simp only [ASt.ev, tmPut, ↓reduceIte, reduceIte, Nat.reduceEqDiff, decide_true, decide_false, not_true_eq_false, not_false_eq_true, Bool.not_true, Bool.not_false, *]; done) | fail)) (by (first | (simp only [ASt.ev, tmPut, ↓reduceIte, reduceIte, Nat.reduceEqDiff, plain1, *]; rfl) | fail))) | fail)) ?_) | (refine OpsL.nil ?_; ((repeat (first | refine blockExit_eq ?_ | refine blockExit_ne (by decide) ?_ | refine blockExit_normal ?_ | refine blockExit_ret ?_ | refine blockExit_goto ?_)); first | (change Trip _ _ _ _ _) | dsimp only | skip)) | (refine OpsL.skipped (by exact rfl) (by (first | (simp only [ASt.ev, tmPut, ↓reduceIte, reduceIte, Nat.reduceEqDiff, decide_true, decide_false, not_true_eq_false, not_false_eq_true, Bool.not_true, Bool.not_false, *]; done) | fail)) (by subst_vars; decide) ?_) | fail)
    refine Trip.iteB (b := true) (by (first | (simp only [ASt.ev, tmPut, ↓reduceIte, reduceIte, Nat.reduceEqDiff, decide_true, decide_false, not_true_eq_false, not_false_eq_true, Bool.not_true, Bool.not_false, *]; done) | fail)) (fun _ => ?_) (fun h => absurd h (by decide))
    repeat (first | (refine OpsL.p (by subst_vars; decide) (by (first | (exact aop_assign (by (first | (simp only [ASt.ev, tmPut, ↓reduceIte, reduceIte, Nat.reduceEqDiff, plain1, *]; rfl) | fail))) | fail)) ?_) | (refine Trip.seq ?_) | (refine Trip.ops ?_) | (refine Trip.ret ?_; ((repeat (first | refine blockExit_eq ?_ | refine blockExit_ne (by decide) ?_ | refine blockExit_normal ?_ | refine blockExit_ret ?_ | refine blockExit_goto ?_)); first | (change Trip _ _ _ _ _) | dsimp only | skip)) | (refine OpsL.nil ?_; ((repeat (first | refine blockExit_eq ?_ | refine blockExit_ne (by decide) ?_ | refine blockExit_normal ?_ | refine blockExit_ret ?_ | refine blockExit_goto ?_)); first | (change Trip _ _ _ _ _) | dsimp only | skip)) | fail)
    exact ⟨.inr rfl, _, res_tmp, by simp [tmPut]⟩
  refine OpsL.p (by subst_vars; decide) (aop_gtrF (by (first | (simp only [ASt.ev, tmPut, ↓reduceIte, reduceIte, Nat.reduceEqDiff, plain1, *]; rfl) | fail)) (by (first | (simp only [ASt.ev, tmPut, ↓reduceIte, reduceIte, Nat.reduceEqDiff, plain1, *]; rfl) | fail)) (by omega)) ?_
  repeat (first | (refine OpsL.p (by subst_vars; decide) (by (first | (exact aop_move (by (first | (simp only [ASt.ev, tmPut, ↓reduceIte, reduceIte, Nat.reduceEqDiff, plain1, *]; rfl) | fail))) | (exact aop_len (by (first | (simp only [ASt.ev, tmPut, ↓reduceIte, reduceIte, Nat.reduceEqDiff, plain1, *]; rfl) | fail)) (by exact rfl)) | fail)) ?_) | (refine OpsL.unguard (by exact rfl) (by (first | (simp only [ASt.ev, tmPut, ↓reduceIte, reduceIte, Nat.reduceEqDiff, decide_true, decide_false, not_true_eq_false, not_false_eq_true, Bool.not_true, Bool.not_false, *]; done) | fail)) ?_) | fail)
  by_cases hb2 : (60 : Int) < (raw.length : Int)
  · refine OpsL.p (by subst_vars; decide) (aop_gtrT (by (first | (simp only [ASt.ev, tmPut, ↓reduceIte, reduceIte, Nat.reduceEqDiff, plain1, *]; rfl) | fail)) (by (first | (simp only [ASt.ev, tmPut, ↓reduceIte, reduceIte, Nat.reduceEqDiff, plain1, *]; rfl) | fail)) (by omega)) ?_
    repeat (first | (refine OpsL.p (by subst_vars; decide) (by (first | (exact aop_pickF (by (first | (simp only [ASt.ev, tmPut, ↓reduceIte, reduceIte, Nat.reduceEqDiff, decide_true, decide_false, not_true_eq_false, not_false_eq_true, Bool.not_true, Bool.not_false, *]; done) | fail)) (by (first | (simp only [ASt.ev, tmPut, ↓reduceIte, reduceIte, Nat.reduceEqDiff, plain1, *]; rfl) | fail))) | fail)) ?_) | (refine OpsL.nil ?_; ((repeat (first | refine blockExit_eq ?_ | refine blockExit_ne (by decide) ?_ | refine blockExit_normal ?_ | refine blockExit_ret ?_ | refine blockExit_goto ?_)); first | (change Trip _ _ _ _ _) | dsimp only | skip)) | fail)
    refine Trip.iteB (b := true) (by (first | (simp only [ASt.ev, tmPut, ↓reduceIte, reduceIte, Nat.reduceEqDiff, decide_true, decide_false, not_true_eq_false, not_false_eq_true, Bool.not_true, Bool.not_false, *]; done) | fail)) (fun _ => ?_) (fun h => absurd h (by decide))
    repeat (first | (refine OpsL.p (by subst_vars; decide) (by (first | (exact aop_assign (by (first | (simp only [ASt.ev, tmPut, ↓reduceIte, reduceIte, Nat.reduceEqDiff, plain1, *]; rfl) | fail))) | fail)) ?_) | (refine Trip.seq ?_) | (refine Trip.ops ?_) | (refine Trip.ret ?_; ((repeat (first | refine blockExit_eq ?_ | refine blockExit_ne (by decide) ?_ | refine blockExit_normal ?_ | refine blockExit_ret ?_ | refine blockExit_goto ?_)); first | (change Trip _ _ _ _ _) | dsimp only | skip)) | (refine OpsL.nil ?_; ((repeat (first | refine blockExit_eq ?_ | refine blockExit_ne (by decide) ?_ | refine blockExit_normal ?_ | refine blockExit_ret ?_ | refine blockExit_goto ?_)); first | (change Trip _ _ _ _ _) | dsimp only | skip)) | fail)
    exact ⟨.inr rfl, _, res_tmp, by simp [tmPut]⟩
  refine OpsL.p (by subst_vars; decide) (aop_gtrF (by (first | (simp only [ASt.ev, tmPut, ↓reduceIte, reduceIte, Nat.reduceEqDiff, plain1, *]; rfl) | fail)) (by (first | (simp only [ASt.ev, tmPut, ↓reduceIte, reduceIte, Nat.reduceEqDiff, plain1, *]; rfl) | fail)) (by omega)) ?_
  repeat (first | (refine OpsL.p (by subst_vars; decide) (by (first | (exact aop_pickF (by (first | (simp only [ASt.ev, tmPut, ↓reduceIte, reduceIte, Nat.reduceEqDiff, decide_true, decide_false, not_true_eq_false, not_false_eq_true, Bool.not_true, Bool.not_false, *]; done) | fail)) (by (first | (simp only [ASt.ev, tmPut, ↓reduceIte, reduceIte, Nat.reduceEqDiff, plain1, *]; rfl) | fail))) | fail)) ?_) | (refine OpsL.nil ?_; ((repeat (first | refine blockExit_eq ?_ | refine blockExit_ne (by decide) ?_ | refine blockExit_normal ?_ | refine blockExit_ret ?_ | refine blockExit_goto ?_)); first | (change Trip _ _ _ _ _) | dsimp only | skip)) | fail)
  refine Trip.iteB (b := false) (by (first | (simp only [ASt.ev, tmPut, ↓reduceIte, reduceIte, Nat.reduceEqDiff, decide_true, decide_false, not_true_eq_false, not_false_eq_true, Bool.not_true, Bool.not_false, *]; done) | fail)) (fun h => absurd h (by decide)) (fun _ => ?_)
  repeat (first | (refine OpsL.p (by subst_vars; decide) (by (first | (exact aop_move (by (first | (simp only [ASt.ev, tmPut, ↓reduceIte, reduceIte, Nat.reduceEqDiff, plain1, *]; rfl) | fail))) | fail)) ?_) | (refine Trip.seq ?_) | (refine Trip.ops ?_) | (refine Trip.skip ?_; ((repeat (first | refine blockExit_eq ?_ | refine blockExit_ne (by decide) ?_ | refine blockExit_normal ?_ | refine blockExit_ret ?_ | refine blockExit_goto ?_)); first | (change Trip _ _ _ _ _) | dsimp only | skip)) | fail)
  refine OpsL.call2 (by subst_vars; decide) (by (first | (simp only [ASt.ev, tmPut, ↓reduceIte, reduceIte, Nat.reduceEqDiff, plain1, *]; done) | fail)) (by (first | (simp only [ASt.ev, tmPut, ↓reduceIte, reduceIte, Nat.reduceEqDiff, plain1, *]; rfl) | fail)) entersLPairs (lpairsC W0 (most := 30) hn (by omega)).ok ?_
  rintro pv nx1 H1 ⟨⟨ob1, hop1, x1, hob1⟩, k1⟩
  have hpl1 : (pairsF ns 30).length ≤ 30 := by unfold pairsF; rw [List.length_map, List.length_take]; omega
  generalize pairsF ns 30 = ps at *
  repeat (first | (refine OpsL.p (by subst_vars; decide) (by (first | (exact aop_assign (by (first | (simp only [ASt.ev, tmPut, ↓reduceIte, reduceIte, Nat.reduceEqDiff, plain1, *]; rfl) | fail))) | fail)) ?_) | (refine Trip.seq ?_) | (refine Trip.ops ?_) | (refine Trip.block ?_) | (refine OpsL.nil ?_; ((repeat (first | refine blockExit_eq ?_ | refine blockExit_ne (by decide) ?_ | refine blockExit_normal ?_ | refine blockExit_ret ?_ | refine blockExit_goto ?_)); first | (change Trip _ _ _ _ _) | dsimp only | skip)) | fail)
  -- pairs out of the numbers
  refine Trip.mono (Q := fun e st => e = .exit 0 ∧ ∃ (tm' : Nat → Value) (nx2 : Nat) (H2 : Heap) (ob : Option (Nat × Nat)) (v : Value) (lp : List (Int × Int)), st = ⟨tm', n, H2, nx2⟩ ∧ Ext nx0 H0 nx2 H2 ∧ (∀ id o, H2 id = some o → id < nx2) ∧ OwnPairs H2 ob v lp ∧ (∀ b t, ob = some (b, t) → nx0 ≤ b ∧ b < nx2) ∧ lp.length ≤ 60 ∧ tm' 1 = .slice ra raw.length rc ∧ tm' 2 = .int .i64 turn ∧ tm' 7 = v) ?_ ?_
  · refine Trip.inv (fun (i : Nat) st => ∃ (tm : Nat → Value) (nx2 : Nat) (H2 : Heap) (ob : Option (Nat × Nat)) (v : Value) (lp : List (Int × Int)), st = ⟨tm, n, H2, nx2⟩ ∧ Ext nx0 H0 nx2 H2 ∧ OwnPairs H2 ob v lp ∧ (∀ b t, ob = some (b, t) → nx0 ≤ b ∧ b < nx2) ∧ lp.length ≤ 30 + i ∧ tm 1 = .slice ra raw.length rc ∧ tm 2 = .int .i64 turn ∧ tm 7 = v ∧ tm 8 = .int .i64 i ∧ i ≤ 21) (fun i => 22 - i) 0 ?_ ?_
    · exact ⟨_, nx1, H1, ob1, pv, ps, rfl, x1, hop1, hob1, by omega, by simp [tmPut, *], by simp [tmPut, *], by simp [tmPut, *], by simp [tmPut, *], by omega⟩
    · clear e0 e1 e2 x1 hop1 hob1 k1
      rintro i st ⟨tm, nx2, H2, ob, v, lp, rfl, x2, hown, hob, hpl, e1, e2, e7, e8, hi⟩
      refine Trip.ok fun k2 => ?_
      replace k2 : ∀ id o, H2 id = some o → id < nx2 := k2
      by_cases hgo : i + 1 < raw.length
      · repeat (first | (refine OpsL.p (by subst_vars; decide) (by (first | (exact aop_move (by (first | (simp only [ASt.ev, tmPut, ↓reduceIte, reduceIte, Nat.reduceEqDiff, plain1, *]; rfl) | fail))) | (exact aop_len (by (first | (simp only [ASt.ev, tmPut, ↓reduceIte, reduceIte, Nat.reduceEqDiff, plain1, *]; rfl) | fail)) (by exact rfl)) | (exact aop_add (by (first | (simp only [ASt.ev, tmPut, ↓reduceIte, reduceIte, Nat.reduceEqDiff, plain1, *]; rfl) | fail)) (by (first | (simp only [ASt.ev, tmPut, ↓reduceIte, reduceIte, Nat.reduceEqDiff, plain1, *]; rfl) | fail)) (by omega)) | fail)) ?_) | (refine Trip.seq ?_) | (refine Trip.ops ?_) | fail)
        refine OpsL.p (by subst_vars; decide) (aop_lssT (by (first | (simp only [ASt.ev, tmPut, ↓reduceIte, reduceIte, Nat.reduceEqDiff, plain1, *]; rfl) | fail)) (by (first | (simp only [ASt.ev, tmPut, ↓reduceIte, reduceIte, Nat.reduceEqDiff, plain1, *]; rfl) | fail)) (by omega)) ?_
        repeat (first | (refine OpsL.p (by subst_vars; decide) (by (first | (exact aop_move (by (first | (simp only [ASt.ev, tmPut, ↓reduceIte, reduceIte, Nat.reduceEqDiff, plain1, *]; rfl) | fail))) | fail)) ?_) | (refine OpsL.unguard (by exact rfl) (by (first | (simp only [ASt.ev, tmPut, ↓reduceIte, reduceIte, Nat.reduceEqDiff, decide_true, decide_false, not_true_eq_false, not_false_eq_true, Bool.not_true, Bool.not_false, *]; done) | fail)) ?_) | fail)
        by_cases hi20 : i < 20
        · refine OpsL.p (by subst_vars; decide) (aop_lssT (by (first | (simp only [ASt.ev, tmPut, ↓reduceIte, reduceIte, Nat.reduceEqDiff, plain1, *]; rfl) | fail)) (by (first | (simp only [ASt.ev, tmPut, ↓reduceIte, reduceIte, Nat.reduceEqDiff, plain1, *]; rfl) | fail)) (by omega)) ?_
          obtain ⟨p, rfl, g1⟩ := hr.get (show i < raw.length by omega)
          obtain ⟨p', hp', g2⟩ := hr.get hgo
          cases Option.some.inj hp'
          replace g1 : cellAt H2 ⟨p.block, p.off + (i : Int).toNat * 1, p.spot⟩ (.int .i64 raw[i]) := by
            have := getc_ext x2 hok g1
            simpa [cellAt] using this
          replace g2 : cellAt H2 ⟨p.block, p.off + ((i : Int) + 1).toNat * 1, p.spot⟩ (.int .i64 raw[i + 1]) := by
            have := getc_ext x2 hok g2
            rw [show ((i : Int) + 1).toNat = i + 1 by omega]
            simpa [cellAt] using this
          generalize raw[i] = y1 at *
          generalize raw[i + 1] = y2 at *
          repeat (first | (refine OpsL.p (by subst_vars; decide) (by (first | (exact aop_pickT (by (first | (simp only [ASt.ev, tmPut, ↓reduceIte, reduceIte, Nat.reduceEqDiff, decide_true, decide_false, not_true_eq_false, not_false_eq_true, Bool.not_true, Bool.not_false, *]; done) | fail)) (by (first | (simp only [ASt.ev, tmPut, ↓reduceIte, reduceIte, Nat.reduceEqDiff, plain1, *]; rfl) | fail))) | fail)) ?_) | (refine OpsL.nil ?_; ((repeat (first | refine blockExit_eq ?_ | refine blockExit_ne (by decide) ?_ | refine blockExit_normal ?_ | refine blockExit_ret ?_ | refine blockExit_goto ?_)); first | (change Trip _ _ _ _ _) | dsimp only | skip)) | fail)
          refine Trip.iteB (b := true) (by (first | (simp only [ASt.ev, tmPut, ↓reduceIte, reduceIte, Nat.reduceEqDiff, decide_true, decide_false, not_true_eq_false, not_false_eq_true, Bool.not_true, Bool.not_false, *]; done) | fail)) (fun _ => ?_) (fun h => absurd h (by decide))
          repeat (first | (refine Trip.seq ?_) | (refine Trip.block ?_) | (refine Trip.skip ?_; ((repeat (first | refine blockExit_eq ?_ | refine blockExit_ne (by decide) ?_ | refine blockExit_normal ?_ | refine blockExit_ret ?_ | refine blockExit_goto ?_)); first | (change Trip _ _ _ _ _) | dsimp only | skip)) | fail)
          refine Trip.mono (Q := fun e st => e = .normal ∧ ∃ (tm' : Nat → Value) (nx5 : Nat) (H5 : Heap) (ob5 : Option (Nat × Nat)) (v5 : Value), st = ⟨tm', n, H5, nx5⟩ ∧ Ext nx0 H0 nx5 H5 ∧ OwnPairs H5 ob5 v5 (lp ++ [(y1, y2)]) ∧ (∀ b t, ob5 = some (b, t) → nx0 ≤ b ∧ b < nx5) ∧ tm' 1 = .slice (some p) raw.length rc ∧ tm' 2 = .int .i64 turn ∧ tm' 7 = v5 ∧ tm' 8 = .int .i64 i) ?_ ?_
          · refine OpsR.drawnW [11, 12, 13] (K := fun _ _ => True) mixedP (by kernel_rfl) (by kernel_rfl) [0, 1, 2, 3, 4, 5, 6, 7, 8, 9, 10, 11, 12, 13] (by kernel_rfl) trivial ?_
            refine OpsR.one rfl rfl rfl (by kernel_rfl) ?_
            repeat (first | (refine OpsL.p (by subst_vars; decide) (by (first | (exact aop_move (by (first | (simp only [ASt.ev, tmPut, ↓reduceIte, reduceIte, Nat.reduceEqDiff, plain1, *]; rfl) | fail))) | fail)) ?_) | (refine OpsL.nil ?_; ((repeat (first | refine blockExit_eq ?_ | refine blockExit_ne (by decide) ?_ | refine blockExit_normal ?_ | refine blockExit_ret ?_ | refine blockExit_goto ?_)); first | (change Trip _ _ _ _ _) | dsimp only | skip)) | fail)
            refine OpsR.one rfl rfl rfl (by kernel_rfl) ?_
            repeat (first | (refine OpsL.p (by subst_vars; decide) (by (first | (exact aop_move (by (first | (simp only [ASt.ev, tmPut, ↓reduceIte, reduceIte, Nat.reduceEqDiff, plain1, *]; rfl) | fail))) | fail)) ?_) | (refine OpsL.nil ?_; ((repeat (first | refine blockExit_eq ?_ | refine blockExit_ne (by decide) ?_ | refine blockExit_normal ?_ | refine blockExit_ret ?_ | refine blockExit_goto ?_)); first | (change Trip _ _ _ _ _) | dsimp only | skip)) | fail)
            refine OpsR.one rfl rfl rfl (by kernel_rfl) ?_
            repeat (first | (refine OpsL.p (by subst_vars; decide) (by (first | (exact aop_move (by (first | (simp only [ASt.ev, tmPut, ↓reduceIte, reduceIte, Nat.reduceEqDiff, plain1, *]; rfl) | fail))) | fail)) ?_) | (refine OpsL.nil ?_; ((repeat (first | refine blockExit_eq ?_ | refine blockExit_ne (by decide) ?_ | refine blockExit_normal ?_ | refine blockExit_ret ?_ | refine blockExit_goto ?_)); first | (change Trip _ _ _ _ _) | dsimp only | skip)) | fail)
            refine OpsR.one rfl rfl rfl (by kernel_rfl) ?_
            repeat (first | (refine OpsL.p (by subst_vars; decide) (by (first | (exact aop_indexAddr (by (first | (simp only [ASt.ev, tmPut, ↓reduceIte, reduceIte, Nat.reduceEqDiff, plain1, *]; rfl) | fail)) (by (first | (simp only [ASt.ev, tmPut, ↓reduceIte, reduceIte, Nat.reduceEqDiff, plain1, *]; rfl) | fail)) (by exact rfl) (by exact rfl) (by omega) (by omega)) | fail)) ?_) | (refine OpsL.nil ?_; ((repeat (first | refine blockExit_eq ?_ | refine blockExit_ne (by decide) ?_ | refine blockExit_normal ?_ | refine blockExit_ret ?_ | refine blockExit_goto ?_)); first | (change Trip _ _ _ _ _) | dsimp only | skip)) | fail)
            refine OpsR.one rfl rfl rfl (by kernel_rfl) ?_
            repeat (first | (refine OpsL.p (by subst_vars; decide) (by (first | (exact aop_load (by (first | (simp only [ASt.ev, tmPut, ↓reduceIte, reduceIte, Nat.reduceEqDiff, plain1, *]; rfl) | fail)) (by exact rfl) rfl (by assumption)) | fail)) ?_) | (refine OpsL.nil ?_; ((repeat (first | refine blockExit_eq ?_ | refine blockExit_ne (by decide) ?_ | refine blockExit_normal ?_ | refine blockExit_ret ?_ | refine blockExit_goto ?_)); first | (change Trip _ _ _ _ _) | dsimp only | skip)) | fail)
            refine OpsR.one rfl rfl rfl (by kernel_rfl) ?_
            repeat (first | (refine OpsL.p (by subst_vars; decide) (by (first | (exact aop_move (by (first | (simp only [ASt.ev, tmPut, ↓reduceIte, reduceIte, Nat.reduceEqDiff, plain1, *]; rfl) | fail))) | fail)) ?_) | (refine OpsL.nil ?_; ((repeat (first | refine blockExit_eq ?_ | refine blockExit_ne (by decide) ?_ | refine blockExit_normal ?_ | refine blockExit_ret ?_ | refine blockExit_goto ?_)); first | (change Trip _ _ _ _ _) | dsimp only | skip)) | fail)
            refine OpsR.one rfl rfl rfl (by kernel_rfl) ?_
            repeat (first | (refine OpsL.p (by subst_vars; decide) (by (first | (exact aop_move (by (first | (simp only [ASt.ev, tmPut, ↓reduceIte, reduceIte, Nat.reduceEqDiff, plain1, *]; rfl) | fail))) | fail)) ?_) | (refine OpsL.nil ?_; ((repeat (first | refine blockExit_eq ?_ | refine blockExit_ne (by decide) ?_ | refine blockExit_normal ?_ | refine blockExit_ret ?_ | refine blockExit_goto ?_)); first | (change Trip _ _ _ _ _) | dsimp only | skip)) | fail)
            refine OpsR.one rfl rfl rfl (by kernel_rfl) ?_
            repeat (first | (refine OpsL.p (by subst_vars; decide) (by (first | (exact aop_add (by (first | (simp only [ASt.ev, tmPut, ↓reduceIte, reduceIte, Nat.reduceEqDiff, plain1, *]; rfl) | fail)) (by (first | (simp only [ASt.ev, tmPut, ↓reduceIte, reduceIte, Nat.reduceEqDiff, plain1, *]; rfl) | fail)) (by omega)) | fail)) ?_) | (refine OpsL.nil ?_; ((repeat (first | refine blockExit_eq ?_ | refine blockExit_ne (by decide) ?_ | refine blockExit_normal ?_ | refine blockExit_ret ?_ | refine blockExit_goto ?_)); first | (change Trip _ _ _ _ _) | dsimp only | skip)) | fail)
            refine OpsR.one rfl rfl rfl (by kernel_rfl) ?_
            repeat (first | (refine OpsL.p (by subst_vars; decide) (by (first | (exact aop_indexAddr (by (first | (simp only [ASt.ev, tmPut, ↓reduceIte, reduceIte, Nat.reduceEqDiff, plain1, *]; rfl) | fail)) (by (first | (simp only [ASt.ev, tmPut, ↓reduceIte, reduceIte, Nat.reduceEqDiff, plain1, *]; rfl) | fail)) (by exact rfl) (by exact rfl) (by omega) (by omega)) | fail)) ?_) | (refine OpsL.nil ?_; ((repeat (first | refine blockExit_eq ?_ | refine blockExit_ne (by decide) ?_ | refine blockExit_normal ?_ | refine blockExit_ret ?_ | refine blockExit_goto ?_)); first | (change Trip _ _ _ _ _) | dsimp only | skip)) | fail)
            refine OpsR.one rfl rfl rfl (by kernel_rfl) ?_
            repeat (first | (refine OpsL.p (by subst_vars; decide) (by (first | (exact aop_load (by (first | (simp only [ASt.ev, tmPut, ↓reduceIte, reduceIte, Nat.reduceEqDiff, plain1, *]; rfl) | fail)) (by exact rfl) rfl (by assumption)) | fail)) ?_) | (refine OpsL.nil ?_; ((repeat (first | refine blockExit_eq ?_ | refine blockExit_ne (by decide) ?_ | refine blockExit_normal ?_ | refine blockExit_ret ?_ | refine blockExit_goto ?_)); first | (change Trip _ _ _ _ _) | dsimp only | skip)) | fail)
            refine OpsR.one rfl rfl rfl (by kernel_rfl) ?_
            refine OpsL.p (by subst_vars; decide) (aop_build (v := .agg #[.int .i64 y1, .int .i64 y2]) (l := [(0, .int .i64 y1), (1, .int .i64 y2)]) (by simp only [evParts, ASt.ev, tmPut, ↓reduceIte, reduceIte, Option.some.injEq, Nat.reduceEqDiff, *]) (by kernel_rfl)) ?_
            repeat (first | (refine OpsL.nil ?_; ((repeat (first | refine blockExit_eq ?_ | refine blockExit_ne (by decide) ?_ | refine blockExit_normal ?_ | refine blockExit_ret ?_ | refine blockExit_goto ?_)); first | (change Trip _ _ _ _ _) | dsimp only | skip)) | fail)
            refine OpsR.act (by kernel_rfl) (ActStep.walk rfl rfl ?_)
            refine OpsL.new (by subst_vars; decide) (aop_buildSlice (l := [(0, .agg #[.int .i64 y1, .int .i64 y2])]) (r := (.slice (some ⟨nx2, 0, none⟩) 1 1, .new (.cells [.int .i64 y1, .int .i64 y2] 2 none false (some 27)))) (by simp only [evParts, ASt.ev, tmPut, ↓reduceIte, reduceIte, Option.some.injEq, Nat.reduceEqDiff, *]) (by kernel_rfl)) ?_
            have x3 : Ext nx2 H2 (nx2 + 1) (H2.put nx2 (.cells [.int .i64 y1, .int .i64 y2] 2 none false (some 27))) := Ext.newPut
            have hone : PairsAt (H2.put nx2 (.cells [.int .i64 y1, .int .i64 y2] 2 none false (some 27))) (.slice (some ⟨nx2, 0, none⟩) 1 1) [(y1, y2)] := by
              refine .inr ⟨⟨nx2, 0, none⟩, 1, rfl, fun j hj => ?_⟩
              have : j = 0 := by simpa using hj
              subst this
              exact getc_own (by show 0 + 2 ≤ 2; decide)
            generalize (H2.put nx2 (.cells [.int .i64 y1, .int .i64 y2] 2 none false (some 27))) = H3 at *
            refine OpsL.nil ⟨trivial, ?_⟩
            refine OpsR.act (by kernel_rfl) (ActStep.walk rfl rfl ?_)
            refine OpsL.appendO (bytes := 16) (z := [.int .i64 0, .int .i64 0]) encP_len encP_one (by omega) (by subst_vars; decide) (hown.ext x3 (fun b t h => (hob b t h).2)) hone (by (first | (simp only [ASt.ev, tmPut, ↓reduceIte, reduceIte, Nat.reduceEqDiff, plain1, *]; done) | fail)) (by (first | (simp only [ASt.ev, tmPut, ↓reduceIte, reduceIte, Nat.reduceEqDiff, plain1, *]; done) | fail)) (fun b t h => by have := (hob b t h).2; omega) (by exact rfl) (by exact rfl) (by exact rfl) (by exact rfl) (by exact rfl) rfl (by simp; omega) (by omega) ?_
            intro v5 nx5 H5 ob5 hA
            refine OpsL.nil ⟨trivial, ?_⟩
            refine OpsR.act (by kernel_rfl) (ActStep.walk rfl rfl ?_)
            repeat (first | (refine OpsL.p (by subst_vars; decide) (by (first | (exact aop_assign (by (first | (simp only [ASt.ev, tmPut, ↓reduceIte, reduceIte, Nat.reduceEqDiff, plain1, *]; rfl) | fail))) | fail)) ?_) | (refine OpsL.nil ?_; ((repeat (first | refine blockExit_eq ?_ | refine blockExit_ne (by decide) ?_ | refine blockExit_normal ?_ | refine blockExit_ret ?_ | refine blockExit_goto ?_)); first | (change Trip _ _ _ _ _) | dsimp only | skip)) | fail)
            refine ⟨trivial, ?_⟩
            refine OpsR.nil ?_
            refine ⟨rfl, _, nx5, H5, ob5, v5, rfl, ⟨by have := x2.1; have := hA.le; omega, fun j hj => ?_⟩, hA.own, fun b t h => ?_, by simp [tmPut, *], by simp [tmPut, *], by simp [tmPut, *], by simp [tmPut, *]⟩
            · rw [hA.same j (by have := x2.1; omega) (fun b t h => by have := (hob b t h).1; omega), x3.2 j (by have := x2.1; omega), x2.2 j hj]
            · obtain ⟨r1, r2⟩ := hA.blk b t h
              refine ⟨?_, r1⟩
              rcases r2 with rfl | ⟨t', h'⟩
              · have := x2.1; omega
              · exact (hob _ _ h').1
          · clear e1 e2 e7 e8
            rintro e st ⟨rfl, tm', nx5, H5, ob5, v5, rfl, x5, hown5, hob5, e1, e2, e7, e8⟩
            ((repeat (first | refine blockExit_eq ?_ | refine blockExit_ne (by decide) ?_ | refine blockExit_normal ?_ | refine blockExit_ret ?_ | refine blockExit_goto ?_)); first | (change Trip _ _ _ _ _) | dsimp only | skip)
            repeat (first | (refine OpsL.p (by subst_vars; decide) (by (first | (exact aop_move (by (first | (simp only [ASt.ev, tmPut, ↓reduceIte, reduceIte, Nat.reduceEqDiff, plain1, *]; rfl) | fail))) | (exact aop_assign (by (first | (simp only [ASt.ev, tmPut, ↓reduceIte, reduceIte, Nat.reduceEqDiff, plain1, *]; rfl) | fail))) | (exact aop_add (by (first | (simp only [ASt.ev, tmPut, ↓reduceIte, reduceIte, Nat.reduceEqDiff, plain1, *]; rfl) | fail)) (by (first | (simp only [ASt.ev, tmPut, ↓reduceIte, reduceIte, Nat.reduceEqDiff, plain1, *]; rfl) | fail)) (by omega)) | fail)) ?_) | (refine Trip.ops ?_) | (refine OpsL.nil ?_; ((repeat (first | refine blockExit_eq ?_ | refine blockExit_ne (by decide) ?_ | refine blockExit_normal ?_ | refine blockExit_ret ?_ | refine blockExit_goto ?_)); first | (change Trip _ _ _ _ _) | dsimp only | skip)) | fail)
            exact ⟨i + 2, ⟨_, nx5, H5, ob5, v5, lp ++ [(y1, y2)], rfl, x5, hown5, hob5, by simp; omega, by simp [tmPut, *], by simp [tmPut, *], by simp [tmPut, *], by simp [tmPut, *], by omega⟩, by omega⟩
        · refine OpsL.p (by subst_vars; decide) (aop_lssF (by (first | (simp only [ASt.ev, tmPut, ↓reduceIte, reduceIte, Nat.reduceEqDiff, plain1, *]; rfl) | fail)) (by (first | (simp only [ASt.ev, tmPut, ↓reduceIte, reduceIte, Nat.reduceEqDiff, plain1, *]; rfl) | fail)) (by omega)) ?_
          repeat (first | (refine OpsL.p (by subst_vars; decide) (by (first | (exact aop_pickT (by (first | (simp only [ASt.ev, tmPut, ↓reduceIte, reduceIte, Nat.reduceEqDiff, decide_true, decide_false, not_true_eq_false, not_false_eq_true, Bool.not_true, Bool.not_false, *]; done) | fail)) (by (first | (simp only [ASt.ev, tmPut, ↓reduceIte, reduceIte, Nat.reduceEqDiff, plain1, *]; rfl) | fail))) | fail)) ?_) | (refine OpsL.nil ?_; ((repeat (first | refine blockExit_eq ?_ | refine blockExit_ne (by decide) ?_ | refine blockExit_normal ?_ | refine blockExit_ret ?_ | refine blockExit_goto ?_)); first | (change Trip _ _ _ _ _) | dsimp only | skip)) | fail)
          refine Trip.iteB (b := false) (by (first | (simp only [ASt.ev, tmPut, ↓reduceIte, reduceIte, Nat.reduceEqDiff, decide_true, decide_false, not_true_eq_false, not_false_eq_true, Bool.not_true, Bool.not_false, *]; done) | fail)) (fun h => absurd h (by decide)) (fun _ => ?_)
          repeat (first | (refine Trip.exit ?_; ((repeat (first | refine blockExit_eq ?_ | refine blockExit_ne (by decide) ?_ | refine blockExit_normal ?_ | refine blockExit_ret ?_ | refine blockExit_goto ?_)); first | (change Trip _ _ _ _ _) | dsimp only | skip)) | fail)
          exact ⟨rfl, _, nx2, H2, ob, v, lp, rfl, x2, k2, hown, hob, by omega, by simp [tmPut, *], by simp [tmPut, *], by simp [tmPut, *]⟩
      · repeat (first | (refine OpsL.p (by subst_vars; decide) (by (first | (exact aop_move (by (first | (simp only [ASt.ev, tmPut, ↓reduceIte, reduceIte, Nat.reduceEqDiff, plain1, *]; rfl) | fail))) | (exact aop_len (by (first | (simp only [ASt.ev, tmPut, ↓reduceIte, reduceIte, Nat.reduceEqDiff, plain1, *]; rfl) | fail)) (by exact rfl)) | (exact aop_add (by (first | (simp only [ASt.ev, tmPut, ↓reduceIte, reduceIte, Nat.reduceEqDiff, plain1, *]; rfl) | fail)) (by (first | (simp only [ASt.ev, tmPut, ↓reduceIte, reduceIte, Nat.reduceEqDiff, plain1, *]; rfl) | fail)) (by omega)) | fail)) ?_) | (refine Trip.seq ?_) | (refine Trip.ops ?_) | fail)
        refine OpsL.p (by subst_vars; decide) (aop_lssF (by (first | (simp only [ASt.ev, tmPut, ↓reduceIte, reduceIte, Nat.reduceEqDiff, plain1, *]; rfl) | fail)) (by (first | (simp only [ASt.ev, tmPut, ↓reduceIte, reduceIte, Nat.reduceEqDiff, plain1, *]; rfl) | fail)) (by omega)) ?_
        repeat (first | (refine OpsL.p (by subst_vars; decide) (by (first | (exact aop_move (by (first | (simp only [ASt.ev, tmPut, ↓reduceIte, reduceIte, Nat.reduceEqDiff, plain1, *]; rfl) | fail))) | (exact aop_pickF (by (first | (simp only [ASt.ev, tmPut, ↓reduceIte, reduceIte, Nat.reduceEqDiff, decide_true, decide_false, not_true_eq_false, not_false_eq_true, Bool.not_true, Bool.not_false, *]; done) | fail)) (by (first | (simp only [ASt.ev, tmPut, ↓reduceIte, reduceIte, Nat.reduceEqDiff, plain1, *]; rfl) | fail))) | fail)) ?_) | (refine OpsL.nil ?_; ((repeat (first | refine blockExit_eq ?_ | refine blockExit_ne (by decide) ?_ | refine blockExit_normal ?_ | refine blockExit_ret ?_ | refine blockExit_goto ?_)); first | (change Trip _ _ _ _ _) | dsimp only | skip)) | (refine OpsL.skipped (by exact rfl) (by (first | (simp only [ASt.ev, tmPut, ↓reduceIte, reduceIte, Nat.reduceEqDiff, decide_true, decide_false, not_true_eq_false, not_false_eq_true, Bool.not_true, Bool.not_false, *]; done) | fail)) (by subst_vars; decide) ?_) | fail)
        refine Trip.iteB (b := false) (by (first | (simp only [ASt.ev, tmPut, ↓reduceIte, reduceIte, Nat.reduceEqDiff, decide_true, decide_false, not_true_eq_false, not_false_eq_true, Bool.not_true, Bool.not_false, *]; done) | fail)) (fun h => absurd h (by decide)) (fun _ => ?_)
        repeat (first | (refine Trip.exit ?_; ((repeat (first | refine blockExit_eq ?_ | refine blockExit_ne (by decide) ?_ | refine blockExit_normal ?_ | refine blockExit_ret ?_ | refine blockExit_goto ?_)); first | (change Trip _ _ _ _ _) | dsimp only | skip)) | fail)
        exact ⟨rfl, _, nx2, H2, ob, v, lp, rfl, x2, k2, hown, hob, by omega, by simp [tmPut, *], by simp [tmPut, *], by simp [tmPut, *]⟩
  clear e0 e1 e2 x1 hop1 hob1 k1
  rintro e st ⟨rfl, tm, nx2, H2, ob, v, lp, rfl, x2, k2, hown, hob, hpl, e1, e2, e7⟩
  ((repeat (first | refine blockExit_eq ?_ | refine blockExit_ne (by decide) ?_ | refine blockExit_normal ?_ | refine blockExit_ret ?_ | refine blockExit_goto ?_)); first | (change Trip _ _ _ _ _) | dsimp only | skip)
  replace hr := ints_rows hr
  replace hr := RowsAt.ext x2 hok hr
  replace hrr := rowin_ext hrr x2 hok
  have hpr := hown.at encP_len
  obtain ⟨pa, pc, rfl⟩ := hpr.slice
  clear hn
  repeat (first | (refine OpsL.p (by subst_vars; decide) (by (first | (exact aop_move (by (first | (simp only [ASt.ev, tmPut, ↓reduceIte, reduceIte, Nat.reduceEqDiff, plain1, *]; rfl) | fail))) | (exact aop_add (by (first | (simp only [ASt.ev, tmPut, ↓reduceIte, reduceIte, Nat.reduceEqDiff, plain1, *]; rfl) | fail)) (by (first | (simp only [ASt.ev, tmPut, ↓reduceIte, reduceIte, Nat.reduceEqDiff, plain1, *]; rfl) | fail)) (by omega)) | (exact aop_len (by (first | (simp only [ASt.ev, tmPut, ↓reduceIte, reduceIte, Nat.reduceEqDiff, plain1, *]; rfl) | fail)) (by exact rfl)) | fail)) ?_) | (refine Trip.seq ?_) | (refine Trip.ops ?_) | fail)
  obtain ⟨k, hk, hkl⟩ : ∃ k : Nat, turn % ((raw.length : Int) + 1) = k ∧ k ≤ raw.length := ⟨(turn % ((raw.length : Int) + 1)).toNat, by have := Int.emod_nonneg turn (show ((raw.length : Int) + 1) ≠ 0 by omega); omega, by have := Int.emod_lt_of_pos turn (show 0 < ((raw.length : Int) + 1) by omega); omega⟩
  obtain ⟨j, hj, hjl⟩ : ∃ j : Nat, turn % ((lp.length : Int) + 1) = j ∧ j ≤ lp.length := ⟨(turn % ((lp.length : Int) + 1)).toNat, by have := Int.emod_nonneg turn (show ((lp.length : Int) + 1) ≠ 0 by omega); omega, by have := Int.emod_lt_of_pos turn (show 0 < ((lp.length : Int) + 1) by omega); omega⟩
  refine OpsL.call2 (by subst_vars; decide) (by (first | (simp only [ASt.ev, tmPut, ↓reduceIte, reduceIte, Nat.reduceEqDiff, plain1, *]; rfl) | fail)) (by (first | (simp only [ASt.ev, tmPut, ↓reduceIte, reduceIte, Nat.reduceEqDiff, plain1, *]; rfl) | fail)) entersWithin2 (withinC W0 _ _ (by omega) (by omega)) ?_
  rintro v nx3 H3 ⟨rfl, h1, h2⟩
  subst h1; subst h2
  rw [hk]
  repeat (first | (refine OpsL.p (by subst_vars; decide) (by (first | (exact aop_move (by (first | (simp only [ASt.ev, tmPut, ↓reduceIte, reduceIte, Nat.reduceEqDiff, plain1, *]; rfl) | fail))) | (exact aop_add (by (first | (simp only [ASt.ev, tmPut, ↓reduceIte, reduceIte, Nat.reduceEqDiff, plain1, *]; rfl) | fail)) (by (first | (simp only [ASt.ev, tmPut, ↓reduceIte, reduceIte, Nat.reduceEqDiff, plain1, *]; rfl) | fail)) (by omega)) | (exact aop_len (by (first | (simp only [ASt.ev, tmPut, ↓reduceIte, reduceIte, Nat.reduceEqDiff, plain1, *]; rfl) | fail)) (by exact rfl)) | fail)) ?_) | fail)
  refine OpsL.call2 (by subst_vars; decide) (by (first | (simp only [ASt.ev, tmPut, ↓reduceIte, reduceIte, Nat.reduceEqDiff, plain1, *]; rfl) | fail)) (by (first | (simp only [ASt.ev, tmPut, ↓reduceIte, reduceIte, Nat.reduceEqDiff, plain1, *]; rfl) | fail)) entersWithin2 (withinC W0 _ _ (by omega) (by omega)) ?_
  rintro v nx4 H4 ⟨rfl, h1, h2⟩
  subst h1; subst h2
  rw [hj]
  repeat (first | (refine OpsL.p (by subst_vars; decide) (by (first | (exact aop_move (by (first | (simp only [ASt.ev, tmPut, ↓reduceIte, reduceIte, Nat.reduceEqDiff, plain1, *]; rfl) | fail))) | (exact aop_assign (by (first | (simp only [ASt.ev, tmPut, ↓reduceIte, reduceIte, Nat.reduceEqDiff, plain1, *]; rfl) | fail))) | fail)) ?_) | (refine Trip.seq ?_) | (refine Trip.ops ?_) | (refine OpsL.nil ?_; ((repeat (first | refine blockExit_eq ?_ | refine blockExit_ne (by decide) ?_ | refine blockExit_normal ?_ | refine blockExit_ret ?_ | refine blockExit_goto ?_)); first | (change Trip _ _ _ _ _) | dsimp only | skip)) | fail)
  refine OpsL.call1 (by subst_vars; decide) (by (first | (simp only [ASt.ev, tmPut, ↓reduceIte, reduceIte, Nat.reduceEqDiff, plain1, *]; done) | fail)) entersIntsS (intsTC W0 hr (by omega)).ok ?_
  rintro av nx5 H5 ⟨⟨o5, A, sA, mA, lA, wA, x5, -⟩, k5⟩
  replace hown := OwnOf.ext x5 (fun b t h => (hob b t h).2) hown
  replace hpr := RowsAt.ext x5 k2 hpr
  replace hr := RowsAt.ext x5 k2 hr
  replace hrr := rowin_ext hrr x5 k2
  have hob5 : ∀ b t, ob = some (b, t) → b < nx5 := fun b t h => by have := hob b t h; have := x5.1; omega
  replace wA := wA.at encI_len
  clear x2 k2 hob
  repeat (first | (refine OpsL.p (by subst_vars; decide) (by (first | (exact aop_move (by (first | (simp only [ASt.ev, tmPut, ↓reduceIte, reduceIte, Nat.reduceEqDiff, plain1, *]; rfl) | fail))) | fail)) ?_) | fail)
  refine OpsL.call1 (by subst_vars; decide) (by (first | (simp only [ASt.ev, tmPut, ↓reduceIte, reduceIte, Nat.reduceEqDiff, plain1, *]; done) | fail)) entersPairsS (pairsC W0 hpr (by omega)).ok ?_
  rintro bv nx6 H6 ⟨⟨o6, B, sB, mB, lB, wB, x6, -⟩, k6⟩
  replace hown := OwnOf.ext x6 hob5 hown
  replace hpr := RowsAt.ext x6 k5 hpr
  replace hr := RowsAt.ext x6 k5 hr
  replace hrr := rowin_ext hrr x6 k5
  replace wA := RowsAt.ext x6 k5 wA
  replace wB := wB.at encP_len
  replace hob5 : ∀ b t, ob = some (b, t) → b < nx6 := fun b t h => by have := hob5 b t h; have := x6.1; omega
  clear x5 k5 x6
  repeat (first | (refine OpsL.p (by subst_vars; decide) (by (first | (exact aop_assign (by (first | (simp only [ASt.ev, tmPut, ↓reduceIte, reduceIte, Nat.reduceEqDiff, plain1, *]; rfl) | fail))) | fail)) ?_) | (refine Trip.seq ?_) | (refine OpsL.nil ?_; ((repeat (first | refine blockExit_eq ?_ | refine blockExit_ne (by decide) ?_ | refine blockExit_normal ?_ | refine blockExit_ret ?_ | refine blockExit_goto ?_)); first | (change Trip _ _ _ _ _) | dsimp only | skip)) | fail)
  obtain ⟨v2, hv2, p2⟩ := arg_behind (rows_ints hr) hrr hkl
  obtain ⟨v1, hv1, p1⟩ := arg_take (rows_ints hr) hrr hkl
  replace p1 := ints_rows p1
  replace p2 := ints_rows p2
  have hblk := rowin_blk hrr k6
  refine Trip.mono (Q := fun e st => e = .normal ∧ ∃ (tm' : Nat → Value) (nx7 : Nat) (H7 : Heap) (cv : Value) (C : List Int), st = ⟨tm', n, H7, nx7⟩ ∧ Ext nx6 H6 nx7 H7 ∧ (∀ id o, H7 id = some o → id < nx7) ∧ StrictI C ∧ (∀ z, z ∈ C ↔ z ∈ raw) ∧ C.length ≤ raw.length ∧ NumsIn H7 cv C ∧ tm' 1 = .slice ra raw.length rc ∧ tm' 7 = .slice pa lp.length pc ∧ tm' 9 = .int .i64 k ∧ tm' 10 = .int .i64 j ∧ tm' 11 = av ∧ tm' 12 = bv ∧ tm' 13 = cv) ?_ ?_
  · refine OpsR.drawn [0, 4, 8, 9] (K := fun nx1 H1 => Ext nx6 H6 nx1 H1) mixedP (by kernel_rfl) (by kernel_rfl) [1, 2, 3, 5, 6, 7, 0, 4, 8, 9, 10] (by kernel_rfl) Ext.refl ?_
    refine OpsR.one rfl rfl rfl (by kernel_rfl) ?_
    repeat (first | (refine OpsL.p (by subst_vars; decide) (by (first | (exact aop_move (by (first | (simp only [ASt.ev, tmPut, ↓reduceIte, reduceIte, Nat.reduceEqDiff, plain1, *]; rfl) | fail))) | fail)) ?_) | (refine OpsL.nil ?_; ((repeat (first | refine blockExit_eq ?_ | refine blockExit_ne (by decide) ?_ | refine blockExit_normal ?_ | refine blockExit_ret ?_ | refine blockExit_goto ?_)); first | (change Trip _ _ _ _ _) | dsimp only | skip)) | fail)
    refine OpsR.one rfl rfl rfl (by kernel_rfl) ?_
    repeat (first | (refine OpsL.p (by subst_vars; decide) (by (first | (exact aop_move (by (first | (simp only [ASt.ev, tmPut, ↓reduceIte, reduceIte, Nat.reduceEqDiff, plain1, *]; rfl) | fail))) | fail)) ?_) | (refine OpsL.nil ?_; ((repeat (first | refine blockExit_eq ?_ | refine blockExit_ne (by decide) ?_ | refine blockExit_normal ?_ | refine blockExit_ret ?_ | refine blockExit_goto ?_)); first | (change Trip _ _ _ _ _) | dsimp only | skip)) | fail)
    refine OpsR.sp (v := v2) rfl (by kernel_rfl) (by subst_vars; decide) Ext.refl (fun H2 nx2 hK => aop_slice (r := v2) (a := some (.int .i64 k)) (b := none) (c := none) (by (first | (simp only [ASt.ev, tmPut, ↓reduceIte, reduceIte, Nat.reduceEqDiff, plain1, *]; rfl) | fail)) (by simp only [evOpt, ASt.ev, tmPut, ↓reduceIte, reduceIte, Option.some.injEq, Nat.reduceEqDiff, Option.map_some, *]) rfl rfl (by rw [aSlice_told (fun q hq => hK.2 _ (hblk q hq))]; exact hv2)) ?_
    refine OpsR.one rfl rfl rfl (by kernel_rfl) ?_
    repeat (first | (refine OpsL.p (by subst_vars; decide) (by (first | (exact aop_move (by (first | (simp only [ASt.ev, tmPut, ↓reduceIte, reduceIte, Nat.reduceEqDiff, plain1, *]; rfl) | fail))) | fail)) ?_) | (refine OpsL.nil ?_; ((repeat (first | refine blockExit_eq ?_ | refine blockExit_ne (by decide) ?_ | refine blockExit_normal ?_ | refine blockExit_ret ?_ | refine blockExit_goto ?_)); first | (change Trip _ _ _ _ _) | dsimp only | skip)) | fail)
    refine OpsR.one rfl rfl rfl (by kernel_rfl) ?_
    repeat (first | (refine OpsL.p (by subst_vars; decide) (by (first | (exact aop_move (by (first | (simp only [ASt.ev, tmPut, ↓reduceIte, reduceIte, Nat.reduceEqDiff, plain1, *]; rfl) | fail))) | fail)) ?_) | (refine OpsL.nil ?_; ((repeat (first | refine blockExit_eq ?_ | refine blockExit_ne (by decide) ?_ | refine blockExit_normal ?_ | refine blockExit_ret ?_ | refine blockExit_goto ?_)); first | (change Trip _ _ _ _ _) | dsimp only | skip)) | fail)
    refine OpsR.sp (v := v1) rfl (by kernel_rfl) (by subst_vars; decide) Ext.refl (fun H2 nx2 hK => aop_slice (r := v1) (a := none) (b := some (.int .i64 k)) (c := none) (by (first | (simp only [ASt.ev, tmPut, ↓reduceIte, reduceIte, Nat.reduceEqDiff, plain1, *]; rfl) | fail)) rfl (by simp only [evOpt, ASt.ev, tmPut, ↓reduceIte, reduceIte, Option.some.injEq, Nat.reduceEqDiff, Option.map_some, *]) rfl (by rw [aSlice_told (fun q hq => hK.2 _ (hblk q hq))]; exact hv1)) ?_
    refine OpsR.act (by kernel_rfl) (ActStep.walk rfl rfl ?_)
    refine OpsL.new (by subst_vars; decide) (aop_buildSlice (l := []) (r := (.slice (some ⟨nx6, 0, none⟩) 0 0, .new (.cells [] 1 none false (some 3)))) (by simp only [evParts]) (by kernel_rfl)) ?_
    have y0 : Ext nx6 H6 (nx6 + 1) (H6.put nx6 (.cells [] 1 none false (some 3))) := Ext.newPut
    have q0 := ok_new (o := (.cells [] 1 none false (some 3))) k6
    have hE : RowE encI 1 3 (H6.put nx6 (.cells [] 1 none false (some 3))) none (.slice (some ⟨nx6, 0, none⟩) 0 0) ([] : List Int) := .inr ⟨rfl, rfl, nx6, 1, false, _, rfl, Heap.put_eq⟩
    generalize (H6.put nx6 (.cells [] 1 none false (some 3))) = G at *
    refine OpsL.nil ⟨y0, ?_⟩
    refine OpsR.act (by kernel_rfl) (ActStep.walk rfl rfl ?_)
    refine OpsL.appendE (bytes := 8) (z := [.int .i64 0]) encI_len encI_one (by omega) (by subst_vars; decide) hE (RowsAt.ext y0 k6 p2) (by (first | (simp only [ASt.ev, tmPut, ↓reduceIte, reduceIte, Nat.reduceEqDiff, plain1, *]; done) | fail)) (by (first | (simp only [ASt.ev, tmPut, ↓reduceIte, reduceIte, Nat.reduceEqDiff, plain1, *]; done) | fail)) (fun b t h => by cases h) (by exact rfl) (by exact rfl) (by exact rfl) (by exact rfl) (by exact rfl) rfl (by simp; omega) (by omega) ?_
    intro u1 m1 G1 o1 hA1
    have y1 : Ext nx6 H6 m1 G1 := y0.trans ⟨hA1.le, fun i hi => hA1.same i hi (fun b t h => by cases h)⟩
    have q1 := hA1.ok (fun b t h => by cases h) q0
    have h1' : ∀ b t, o1 = some (b, t) → nx6 ≤ b ∧ b < m1 := fun b t h => by
      obtain ⟨i1, i2⟩ := hA1.blk b t h
      rcases i2 with rfl | ⟨t', h'⟩
      · exact ⟨by omega, i1⟩
      · cases h'
    refine OpsL.nil ⟨y1, ?_⟩
    refine OpsR.act (by kernel_rfl) (ActStep.walk rfl rfl ?_)
    refine OpsL.appendE (bytes := 8) (z := [.int .i64 0]) encI_len encI_one (by omega) (by subst_vars; decide) hA1.own (RowsAt.ext y1 k6 p1) (by (first | (simp only [ASt.ev, tmPut, ↓reduceIte, reduceIte, Nat.reduceEqDiff, plain1, *]; done) | fail)) (by (first | (simp only [ASt.ev, tmPut, ↓reduceIte, reduceIte, Nat.reduceEqDiff, plain1, *]; done) | fail)) (fun b t h => (h1' b t h).2) (by exact rfl) (by exact rfl) (by exact rfl) (by exact rfl) (by exact rfl) rfl (by simp; omega) (by omega) ?_
    intro u2 m2 G2 o2 hA2
    have y2 : Ext nx6 H6 m2 G2 := ⟨by have := y1.1; have := hA2.le; omega, fun i hi => by rw [hA2.same i (by have := y1.1; omega) (fun b t h => by have := h1' b t h; omega), y1.2 i hi]⟩
    have q2 := hA2.ok (fun b t h => (h1' b t h).2) q1
    refine OpsL.nil ⟨y2, ?_⟩
    refine OpsR.act (by kernel_rfl) (ActStep.walk rfl rfl ?_)
    refine OpsL.call1 (by subst_vars; decide) (by (first | (simp only [ASt.ev, tmPut, ↓reduceIte, reduceIte, Nat.reduceEqDiff, plain1, *]; done) | fail)) entersIntsS (intsTC W0 (hA2.own.at encI_len) (by simp; omega)).ok ?_
    rintro v3 m3 G3 ⟨⟨o3, C, s3, t3, l3, w3, y3, -⟩, q3⟩
    refine OpsL.nil ⟨y2.trans y3, ?_⟩
    refine OpsR.one rfl rfl rfl (by kernel_rfl) ?_
    repeat (first | (refine OpsL.p (by subst_vars; decide) (by (first | (exact aop_assign (by (first | (simp only [ASt.ev, tmPut, ↓reduceIte, reduceIte, Nat.reduceEqDiff, plain1, *]; rfl) | fail))) | fail)) ?_) | (refine OpsL.nil ?_; ((repeat (first | refine blockExit_eq ?_ | refine blockExit_ne (by decide) ?_ | refine blockExit_normal ?_ | refine blockExit_ret ?_ | refine blockExit_goto ?_)); first | (change Trip _ _ _ _ _) | dsimp only | skip)) | fail)
    refine OpsR.nil ?_
    refine ⟨rfl, _, m3, G3, v3, C, rfl, y2.trans y3, q3, s3, fun z => ?_, ?_, w3.at encI_len, by simp [tmPut, *], by simp [tmPut, *], by simp [tmPut, *], by simp [tmPut, *], by simp [tmPut, *], by simp [tmPut, *], by simp [tmPut, *]⟩
    · rw [t3]
      have hz : z ∈ raw ↔ z ∈ raw.take k ∨ z ∈ raw.drop k := by rw [← List.mem_append, List.take_append_drop]
      simp only [List.nil_append, List.mem_append]
      rw [hz, or_comm]
    · have h := l3
      simp only [List.nil_append, List.length_append, List.length_take, List.length_drop] at h
      omega
  clear e1 e2 e7 hv1 hv2 p1 p2 v1 v2 hblk
  rintro e st ⟨rfl, tm, nx7, H7, cv, C, rfl, x7, k7, sC, mC, lC, wC, e1, e7, e9, e10, e11, e12, e13⟩
  ((repeat (first | refine blockExit_eq ?_ | refine blockExit_ne (by decide) ?_ | refine blockExit_normal ?_ | refine blockExit_ret ?_ | refine blockExit_goto ?_)); first | (change Trip _ _ _ _ _) | dsimp only | skip)
  replace hown := OwnOf.ext x7 hob5 hown
  replace hpr := RowsAt.ext x7 k6 hpr
  replace hr := RowsAt.ext x7 k6 hr
  replace wA := RowsAt.ext x7 k6 wA
  replace wB := RowsAt.ext x7 k6 wB
  clear x7 k6 hob5 hrr
  obtain ⟨nx8, rfl⟩ : ∃ m, m = nx7 := ⟨_, rfl⟩
  obtain ⟨H8, rfl⟩ : ∃ G, G = H7 := ⟨_, rfl⟩
  have k8 := k7
  clear k7
  repeat (first | (refine Trip.seq ?_) | fail)
  obtain ⟨⟨v1, hv1, p1⟩, ⟨v2, hv2, p2⟩⟩ := own_partsP (k := j) hown hjl
  have hblk := own_blkP hown k8
  refine Trip.mono (Q := fun e st => e = .normal ∧ ∃ (tm' : Nat → Value) (nx9 : Nat) (H9 : Heap) (dv : Value) (D : List (Int × Int)), st = ⟨tm', n, H9, nx9⟩ ∧ Ext nx8 H8 nx9 H9 ∧ (∀ id o, H9 id = some o → id < nx9) ∧ StrictP D ∧ (∀ z, z ∈ D ↔ z ∈ lp) ∧ D.length ≤ lp.length ∧ PairsAt H9 dv D ∧ tm' 1 = .slice ra raw.length rc ∧ tm' 7 = .slice pa lp.length pc ∧ tm' 9 = .int .i64 k ∧ tm' 10 = .int .i64 j ∧ tm' 11 = av ∧ tm' 12 = bv ∧ tm' 13 = cv ∧ tm' 14 = dv) ?_ ?_
  · refine OpsR.drawn [0, 4, 8, 9] (K := fun nx1 H1 => Ext nx8 H8 nx1 H1) mixedP (by kernel_rfl) (by kernel_rfl) [1, 2, 3, 5, 6, 7, 0, 4, 8, 9, 10] (by kernel_rfl) Ext.refl ?_
    refine OpsR.one rfl rfl rfl (by kernel_rfl) ?_
    repeat (first | (refine OpsL.p (by subst_vars; decide) (by (first | (exact aop_move (by (first | (simp only [ASt.ev, tmPut, ↓reduceIte, reduceIte, Nat.reduceEqDiff, plain1, *]; rfl) | fail))) | fail)) ?_) | (refine OpsL.nil ?_; ((repeat (first | refine blockExit_eq ?_ | refine blockExit_ne (by decide) ?_ | refine blockExit_normal ?_ | refine blockExit_ret ?_ | refine blockExit_goto ?_)); first | (change Trip _ _ _ _ _) | dsimp only | skip)) | fail)
    refine OpsR.one rfl rfl rfl (by kernel_rfl) ?_
    repeat (first | (refine OpsL.p (by subst_vars; decide) (by (first | (exact aop_move (by (first | (simp only [ASt.ev, tmPut, ↓reduceIte, reduceIte, Nat.reduceEqDiff, plain1, *]; rfl) | fail))) | fail)) ?_) | (refine OpsL.nil ?_; ((repeat (first | refine blockExit_eq ?_ | refine blockExit_ne (by decide) ?_ | refine blockExit_normal ?_ | refine blockExit_ret ?_ | refine blockExit_goto ?_)); first | (change Trip _ _ _ _ _) | dsimp only | skip)) | fail)
    refine OpsR.sp (v := v2) rfl (by kernel_rfl) (by subst_vars; decide) Ext.refl (fun H2 nx2 hK => aop_slice (r := v2) (a := some (.int .i64 j)) (b := none) (c := none) (by (first | (simp only [ASt.ev, tmPut, ↓reduceIte, reduceIte, Nat.reduceEqDiff, plain1, *]; rfl) | fail)) (by simp only [evOpt, ASt.ev, tmPut, ↓reduceIte, reduceIte, Option.some.injEq, Nat.reduceEqDiff, Option.map_some, *]) rfl rfl (by rw [aSlice_told (fun q hq => hK.2 _ (hblk q hq))]; exact hv2)) ?_
    refine OpsR.one rfl rfl rfl (by kernel_rfl) ?_
    repeat (first | (refine OpsL.p (by subst_vars; decide) (by (first | (exact aop_move (by (first | (simp only [ASt.ev, tmPut, ↓reduceIte, reduceIte, Nat.reduceEqDiff, plain1, *]; rfl) | fail))) | fail)) ?_) | (refine OpsL.nil ?_; ((repeat (first | refine blockExit_eq ?_ | refine blockExit_ne (by decide) ?_ | refine blockExit_normal ?_ | refine blockExit_ret ?_ | refine blockExit_goto ?_)); first | (change Trip _ _ _ _ _) | dsimp only | skip)) | fail)
    refine OpsR.one rfl rfl rfl (by kernel_rfl) ?_
    repeat (first | (refine OpsL.p (by subst_vars; decide) (by (first | (exact aop_move (by (first | (simp only [ASt.ev, tmPut, ↓reduceIte, reduceIte, Nat.reduceEqDiff, plain1, *]; rfl) | fail))) | fail)) ?_) | (refine OpsL.nil ?_; ((repeat (first | refine blockExit_eq ?_ | refine blockExit_ne (by decide) ?_ | refine blockExit_normal ?_ | refine blockExit_ret ?_ | refine blockExit_goto ?_)); first | (change Trip _ _ _ _ _) | dsimp only | skip)) | fail)
    refine OpsR.sp (v := v1) rfl (by kernel_rfl) (by subst_vars; decide) Ext.refl (fun H2 nx2 hK => aop_slice (r := v1) (a := none) (b := some (.int .i64 j)) (c := none) (by (first | (simp only [ASt.ev, tmPut, ↓reduceIte, reduceIte, Nat.reduceEqDiff, plain1, *]; rfl) | fail)) rfl (by simp only [evOpt, ASt.ev, tmPut, ↓reduceIte, reduceIte, Option.some.injEq, Nat.reduceEqDiff, Option.map_some, *]) rfl (by rw [aSlice_told (fun q hq => hK.2 _ (hblk q hq))]; exact hv1)) ?_
    refine OpsR.act (by kernel_rfl) (ActStep.walk rfl rfl ?_)
    refine OpsL.new (by subst_vars; decide) (aop_buildSlice (l := []) (r := (.slice (some ⟨nx8, 0, none⟩) 0 0, .new (.cells [] 2 none false (some 27)))) (by simp only [evParts]) (by kernel_rfl)) ?_
    have y0 : Ext nx8 H8 (nx8 + 1) (H8.put nx8 (.cells [] 2 none false (some 27))) := Ext.newPut
    have q0 := ok_new (o := (.cells [] 2 none false (some 27))) k8
    have hE : RowE encP 2 27 (H8.put nx8 (.cells [] 2 none false (some 27))) none (.slice (some ⟨nx8, 0, none⟩) 0 0) ([] : List (Int × Int)) := .inr ⟨rfl, rfl, nx8, 2, false, _, rfl, Heap.put_eq⟩
    generalize (H8.put nx8 (.cells [] 2 none false (some 27))) = G at *
    refine OpsL.nil ⟨y0, ?_⟩
    refine OpsR.act (by kernel_rfl) (ActStep.walk rfl rfl ?_)
    refine OpsL.appendE (bytes := 16) (z := [.int .i64 0, .int .i64 0]) encP_len encP_one (by omega) (by subst_vars; decide) hE (RowsAt.ext y0 k8 p2) (by (first | (simp only [ASt.ev, tmPut, ↓reduceIte, reduceIte, Nat.reduceEqDiff, plain1, *]; done) | fail)) (by (first | (simp only [ASt.ev, tmPut, ↓reduceIte, reduceIte, Nat.reduceEqDiff, plain1, *]; done) | fail)) (fun b t h => by cases h) (by exact rfl) (by exact rfl) (by exact rfl) (by exact rfl) (by exact rfl) rfl (by simp; omega) (by omega) ?_
    intro u1 m1 G1 o1 hA1
    have y1 : Ext nx8 H8 m1 G1 := y0.trans ⟨hA1.le, fun i hi => hA1.same i hi (fun b t h => by cases h)⟩
    have q1 := hA1.ok (fun b t h => by cases h) q0
    have h1' : ∀ b t, o1 = some (b, t) → nx8 ≤ b ∧ b < m1 := fun b t h => by
      obtain ⟨i1, i2⟩ := hA1.blk b t h
      rcases i2 with rfl | ⟨t', h'⟩
      · exact ⟨by omega, i1⟩
      · cases h'
    refine OpsL.nil ⟨y1, ?_⟩
    refine OpsR.act (by kernel_rfl) (ActStep.walk rfl rfl ?_)
    refine OpsL.appendE (bytes := 16) (z := [.int .i64 0, .int .i64 0]) encP_len encP_one (by omega) (by subst_vars; decide) hA1.own (RowsAt.ext y1 k8 p1) (by (first | (simp only [ASt.ev, tmPut, ↓reduceIte, reduceIte, Nat.reduceEqDiff, plain1, *]; done) | fail)) (by (first | (simp only [ASt.ev, tmPut, ↓reduceIte, reduceIte, Nat.reduceEqDiff, plain1, *]; done) | fail)) (fun b t h => (h1' b t h).2) (by exact rfl) (by exact rfl) (by exact rfl) (by exact rfl) (by exact rfl) rfl (by simp; omega) (by omega) ?_
    intro u2 m2 G2 o2 hA2
    have y2 : Ext nx8 H8 m2 G2 := ⟨by have := y1.1; have := hA2.le; omega, fun i hi => by rw [hA2.same i (by have := y1.1; omega) (fun b t h => by have := h1' b t h; omega), y1.2 i hi]⟩
    have q2 := hA2.ok (fun b t h => (h1' b t h).2) q1
    refine OpsL.nil ⟨y2, ?_⟩
    refine OpsR.act (by kernel_rfl) (ActStep.walk rfl rfl ?_)
    refine OpsL.call1 (by subst_vars; decide) (by (first | (simp only [ASt.ev, tmPut, ↓reduceIte, reduceIte, Nat.reduceEqDiff, plain1, *]; done) | fail)) entersPairsS (pairsC W0 (hA2.own.at encP_len) (by simp; omega)).ok ?_
    rintro v3 m3 G3 ⟨⟨o3, D, s3, t3, l3, w3, y3, -⟩, q3⟩
    refine OpsL.nil ⟨y2.trans y3, ?_⟩
    refine OpsR.one rfl rfl rfl (by kernel_rfl) ?_
    repeat (first | (refine OpsL.p (by subst_vars; decide) (by (first | (exact aop_assign (by (first | (simp only [ASt.ev, tmPut, ↓reduceIte, reduceIte, Nat.reduceEqDiff, plain1, *]; rfl) | fail))) | fail)) ?_) | (refine OpsL.nil ?_; ((repeat (first | refine blockExit_eq ?_ | refine blockExit_ne (by decide) ?_ | refine blockExit_normal ?_ | refine blockExit_ret ?_ | refine blockExit_goto ?_)); first | (change Trip _ _ _ _ _) | dsimp only | skip)) | fail)
    refine OpsR.nil ?_
    refine ⟨rfl, _, m3, G3, v3, D, rfl, y2.trans y3, q3, s3, fun z => ?_, ?_, w3.at encP_len, by simp [tmPut, *], by simp [tmPut, *], by simp [tmPut, *], by simp [tmPut, *], by simp [tmPut, *], by simp [tmPut, *], by simp [tmPut, *], by simp [tmPut, *]⟩
    · rw [t3]
      have hz : z ∈ lp ↔ z ∈ lp.take j ∨ z ∈ lp.drop j := by rw [← List.mem_append, List.take_append_drop]
      simp only [List.nil_append, List.mem_append]
      rw [hz, or_comm]
    · have h := l3
      simp only [List.nil_append, List.length_append, List.length_take, List.length_drop] at h
      omega
  clear e1 e7 e9 e10 e11 e12 e13 hv1 hv2 p1 p2 v1 v2 hblk hown
  rintro e st ⟨rfl, tm, nx9, H9, dv, D, rfl, x9, k9, sD, mD, lD, wD, e1, e7, e9, e10, e11, e12, e13, e14⟩
  ((repeat (first | refine blockExit_eq ?_ | refine blockExit_ne (by decide) ?_ | refine blockExit_normal ?_ | refine blockExit_ret ?_ | refine blockExit_goto ?_)); first | (change Trip _ _ _ _ _) | dsimp only | skip)
  replace hpr := RowsAt.ext x9 k8 hpr
  replace hr := RowsAt.ext x9 k8 hr
  replace wA := RowsAt.ext x9 k8 wA
  replace wB := RowsAt.ext x9 k8 wB
  replace wC := RowsAt.ext x9 k8 wC
  clear x9 k8 e9 e10
  obtain ⟨aa, ac, rfl⟩ := wA.slice
  repeat (first | (refine OpsL.p (by subst_vars; decide) (by (first | (exact aop_assign (by (first | (simp only [ASt.ev, tmPut, ↓reduceIte, reduceIte, Nat.reduceEqDiff, plain1, *]; rfl) | fail))) | fail)) ?_) | (refine Trip.seq ?_) | (refine Trip.ops ?_) | (refine Trip.block ?_) | (refine OpsL.nil ?_; ((repeat (first | refine blockExit_eq ?_ | refine blockExit_ne (by decide) ?_ | refine blockExit_normal ?_ | refine blockExit_ret ?_ | refine blockExit_goto ?_)); first | (change Trip _ _ _ _ _) | dsimp only | skip)) | fail)
  -- in order, each once
  refine Trip.inv (fun (i : Nat) st => ∃ (tm : Nat → Value), st = ⟨tm, n, H9, nx9⟩ ∧ 1 ≤ i ∧ i ≤ A.length + 1 ∧ tm 1 = .slice ra raw.length rc ∧ tm 7 = .slice pa lp.length pc ∧ tm 11 = .slice aa A.length ac ∧ tm 12 = bv ∧ tm 13 = cv ∧ tm 14 = dv ∧ tm 15 = .int .i64 i) (fun i => A.length + 1 - i) 1 ?_ ?_
  · exact ⟨_, rfl, Nat.le_refl _, by omega, by simp [tmPut, *], by simp [tmPut, *], by simp [tmPut, *], by simp [tmPut, *], by simp [tmPut, *], by simp [tmPut, *], by simp [tmPut, *]⟩
  · clear e1 e7 e11 e12 e13 e14
    rintro i st ⟨tm, rfl, h1i, hi, e1, e7, e11, e12, e13, e14, e15⟩
    by_cases hlt : i < A.length
    · obtain ⟨p, rfl, g1⟩ := rows_at wA hlt
      obtain ⟨p', hp', g2⟩ := rows_prev wA (show 0 < i by omega) (by omega)
      cases Option.some.inj hp'
      have hab : A[i - 1] < A[i] := List.pairwise_iff_getElem.1 sA (i - 1) i (by omega) hlt (by omega)
      replace g1 : cellAt H9 ⟨p.block, p.off + (i : Int).toNat * 1, p.spot⟩ (.int .i64 A[i]) := g1
      replace g2 : cellAt H9 ⟨p.block, p.off + ((i : Int) - 1).toNat * 1, p.spot⟩ (.int .i64 A[i - 1]) := g2
      generalize A[i] = y1 at *
      generalize A[i - 1] = y2 at *
      repeat (first | (refine OpsL.p (by subst_vars; decide) (by (first | (exact aop_move (by (first | (simp only [ASt.ev, tmPut, ↓reduceIte, reduceIte, Nat.reduceEqDiff, plain1, *]; rfl) | fail))) | (exact aop_len (by (first | (simp only [ASt.ev, tmPut, ↓reduceIte, reduceIte, Nat.reduceEqDiff, plain1, *]; rfl) | fail)) (by exact rfl)) | fail)) ?_) | (refine Trip.seq ?_) | (refine Trip.ops ?_) | fail)
      refine OpsL.p (by subst_vars; decide) (aop_lssT (by (first | (simp only [ASt.ev, tmPut, ↓reduceIte, reduceIte, Nat.reduceEqDiff, plain1, *]; rfl) | fail)) (by (first | (simp only [ASt.ev, tmPut, ↓reduceIte, reduceIte, Nat.reduceEqDiff, plain1, *]; rfl) | fail)) (by omega)) ?_
      repeat (first | (refine OpsL.nil ?_; ((repeat (first | refine blockExit_eq ?_ | refine blockExit_ne (by decide) ?_ | refine blockExit_normal ?_ | refine blockExit_ret ?_ | refine blockExit_goto ?_)); first | (change Trip _ _ _ _ _) | dsimp only | skip)) | fail)
      refine Trip.iteB (b := true) (by (first | (simp only [ASt.ev, tmPut, ↓reduceIte, reduceIte, Nat.reduceEqDiff, decide_true, decide_false, not_true_eq_false, not_false_eq_true, Bool.not_true, Bool.not_false, *]; done) | fail)) (fun _ => ?_) (fun h => absurd h (by decide))
      repeat (first | (refine Trip.seq ?_) | (refine Trip.block ?_) | (refine Trip.skip ?_; ((repeat (first | refine blockExit_eq ?_ | refine blockExit_ne (by decide) ?_ | refine blockExit_normal ?_ | refine blockExit_ret ?_ | refine blockExit_goto ?_)); first | (change Trip _ _ _ _ _) | dsimp only | skip)) | fail)
      refine Trip.mono (Q := fun e st => e = .normal ∧ ∃ (tm' : Nat → Value), st = ⟨tm', n, H9, nx9⟩ ∧ tm' 1 = .slice ra raw.length rc ∧ tm' 7 = .slice pa lp.length pc ∧ tm' 11 = .slice (some p) A.length ac ∧ tm' 12 = bv ∧ tm' 13 = cv ∧ tm' 14 = dv ∧ tm' 15 = .int .i64 i ∧ tm' 101 = .bool false) ?_ ?_
      · refine OpsK.drawn (K := fun _ _ => True) mixedP (by kernel_rfl) (by kernel_rfl) trivial ?_
        refine OpsK.one rfl (by kernel_rfl) ?_
        repeat (first | (refine OpsL.p (by subst_vars; decide) (by (first | (exact aop_move (by (first | (simp only [ASt.ev, tmPut, ↓reduceIte, reduceIte, Nat.reduceEqDiff, plain1, *]; rfl) | fail))) | fail)) ?_) | (refine OpsL.nil ?_; ((repeat (first | refine blockExit_eq ?_ | refine blockExit_ne (by decide) ?_ | refine blockExit_normal ?_ | refine blockExit_ret ?_ | refine blockExit_goto ?_)); first | (change Trip _ _ _ _ _) | dsimp only | skip)) | fail)
        refine OpsK.one rfl (by kernel_rfl) ?_
        repeat (first | (refine OpsL.p (by subst_vars; decide) (by (first | (exact aop_move (by (first | (simp only [ASt.ev, tmPut, ↓reduceIte, reduceIte, Nat.reduceEqDiff, plain1, *]; rfl) | fail))) | fail)) ?_) | (refine OpsL.nil ?_; ((repeat (first | refine blockExit_eq ?_ | refine blockExit_ne (by decide) ?_ | refine blockExit_normal ?_ | refine blockExit_ret ?_ | refine blockExit_goto ?_)); first | (change Trip _ _ _ _ _) | dsimp only | skip)) | fail)
        refine OpsK.one rfl (by kernel_rfl) ?_
        repeat (first | (refine OpsL.p (by subst_vars; decide) (by (first | (exact aop_sub (by (first | (simp only [ASt.ev, tmPut, ↓reduceIte, reduceIte, Nat.reduceEqDiff, plain1, *]; rfl) | fail)) (by (first | (simp only [ASt.ev, tmPut, ↓reduceIte, reduceIte, Nat.reduceEqDiff, plain1, *]; rfl) | fail)) (by omega)) | fail)) ?_) | (refine OpsL.nil ?_; ((repeat (first | refine blockExit_eq ?_ | refine blockExit_ne (by decide) ?_ | refine blockExit_normal ?_ | refine blockExit_ret ?_ | refine blockExit_goto ?_)); first | (change Trip _ _ _ _ _) | dsimp only | skip)) | fail)
        refine OpsK.one rfl (by kernel_rfl) ?_
        repeat (first | (refine OpsL.p (by subst_vars; decide) (by (first | (exact aop_indexAddr (by (first | (simp only [ASt.ev, tmPut, ↓reduceIte, reduceIte, Nat.reduceEqDiff, plain1, *]; rfl) | fail)) (by (first | (simp only [ASt.ev, tmPut, ↓reduceIte, reduceIte, Nat.reduceEqDiff, plain1, *]; rfl) | fail)) (by exact rfl) (by exact rfl) (by omega) (by omega)) | fail)) ?_) | (refine OpsL.nil ?_; ((repeat (first | refine blockExit_eq ?_ | refine blockExit_ne (by decide) ?_ | refine blockExit_normal ?_ | refine blockExit_ret ?_ | refine blockExit_goto ?_)); first | (change Trip _ _ _ _ _) | dsimp only | skip)) | fail)
        refine OpsK.one rfl (by kernel_rfl) ?_
        repeat (first | (refine OpsL.p (by subst_vars; decide) (by (first | (exact aop_load (by (first | (simp only [ASt.ev, tmPut, ↓reduceIte, reduceIte, Nat.reduceEqDiff, plain1, *]; rfl) | fail)) (by exact rfl) rfl (by assumption)) | fail)) ?_) | (refine OpsL.nil ?_; ((repeat (first | refine blockExit_eq ?_ | refine blockExit_ne (by decide) ?_ | refine blockExit_normal ?_ | refine blockExit_ret ?_ | refine blockExit_goto ?_)); first | (change Trip _ _ _ _ _) | dsimp only | skip)) | fail)
        refine OpsK.one rfl (by kernel_rfl) ?_
        repeat (first | (refine OpsL.p (by subst_vars; decide) (by (first | (exact aop_move (by (first | (simp only [ASt.ev, tmPut, ↓reduceIte, reduceIte, Nat.reduceEqDiff, plain1, *]; rfl) | fail))) | fail)) ?_) | (refine OpsL.nil ?_; ((repeat (first | refine blockExit_eq ?_ | refine blockExit_ne (by decide) ?_ | refine blockExit_normal ?_ | refine blockExit_ret ?_ | refine blockExit_goto ?_)); first | (change Trip _ _ _ _ _) | dsimp only | skip)) | fail)
        refine OpsK.one rfl (by kernel_rfl) ?_
        repeat (first | (refine OpsL.p (by subst_vars; decide) (by (first | (exact aop_move (by (first | (simp only [ASt.ev, tmPut, ↓reduceIte, reduceIte, Nat.reduceEqDiff, plain1, *]; rfl) | fail))) | fail)) ?_) | (refine OpsL.nil ?_; ((repeat (first | refine blockExit_eq ?_ | refine blockExit_ne (by decide) ?_ | refine blockExit_normal ?_ | refine blockExit_ret ?_ | refine blockExit_goto ?_)); first | (change Trip _ _ _ _ _) | dsimp only | skip)) | fail)
        refine OpsK.one rfl (by kernel_rfl) ?_
        repeat (first | (refine OpsL.p (by subst_vars; decide) (by (first | (exact aop_indexAddr (by (first | (simp only [ASt.ev, tmPut, ↓reduceIte, reduceIte, Nat.reduceEqDiff, plain1, *]; rfl) | fail)) (by (first | (simp only [ASt.ev, tmPut, ↓reduceIte, reduceIte, Nat.reduceEqDiff, plain1, *]; rfl) | fail)) (by exact rfl) (by exact rfl) (by omega) (by omega)) | fail)) ?_) | (refine OpsL.nil ?_; ((repeat (first | refine blockExit_eq ?_ | refine blockExit_ne (by decide) ?_ | refine blockExit_normal ?_ | refine blockExit_ret ?_ | refine blockExit_goto ?_)); first | (change Trip _ _ _ _ _) | dsimp only | skip)) | fail)
        refine OpsK.one rfl (by kernel_rfl) ?_
        repeat (first | (refine OpsL.p (by subst_vars; decide) (by (first | (exact aop_load (by (first | (simp only [ASt.ev, tmPut, ↓reduceIte, reduceIte, Nat.reduceEqDiff, plain1, *]; rfl) | fail)) (by exact rfl) rfl (by assumption)) | fail)) ?_) | (refine OpsL.nil ?_; ((repeat (first | refine blockExit_eq ?_ | refine blockExit_ne (by decide) ?_ | refine blockExit_normal ?_ | refine blockExit_ret ?_ | refine blockExit_goto ?_)); first | (change Trip _ _ _ _ _) | dsimp only | skip)) | fail)
        refine OpsK.one rfl (by kernel_rfl) ?_
        refine OpsL.p (by subst_vars; decide) (aop_geqF (by (first | (simp only [ASt.ev, tmPut, ↓reduceIte, reduceIte, Nat.reduceEqDiff, plain1, *]; rfl) | fail)) (by (first | (simp only [ASt.ev, tmPut, ↓reduceIte, reduceIte, Nat.reduceEqDiff, plain1, *]; rfl) | fail)) (by omega)) ?_
        repeat (first | (refine OpsL.nil ?_; ((repeat (first | refine blockExit_eq ?_ | refine blockExit_ne (by decide) ?_ | refine blockExit_normal ?_ | refine blockExit_ret ?_ | refine blockExit_goto ?_)); first | (change Trip _ _ _ _ _) | dsimp only | skip)) | fail)
        refine OpsK.nil ?_
        exact ⟨rfl, _, rfl, by simp [tmPut, *], by simp [tmPut, *], by simp [tmPut, *], by simp [tmPut, *], by simp [tmPut, *], by simp [tmPut, *], by simp [tmPut, *], by simp [tmPut]⟩
      · clear e1 e7 e11 e12 e13 e14 e15
        rintro e st ⟨rfl, tm', rfl, e1, e7, e11, e12, e13, e14, e15, e101⟩
        ((repeat (first | refine blockExit_eq ?_ | refine blockExit_ne (by decide) ?_ | refine blockExit_normal ?_ | refine blockExit_ret ?_ | refine blockExit_goto ?_)); first | (change Trip _ _ _ _ _) | dsimp only | skip)
        repeat fail
        refine Trip.iteB (b := false) (by (first | (simp only [ASt.ev, tmPut, ↓reduceIte, reduceIte, Nat.reduceEqDiff, decide_true, decide_false, not_true_eq_false, not_false_eq_true, Bool.not_true, Bool.not_false, *]; done) | fail)) (fun h => absurd h (by decide)) (fun _ => ?_)
        repeat (first | (refine OpsL.p (by subst_vars; decide) (by (first | (exact aop_move (by (first | (simp only [ASt.ev, tmPut, ↓reduceIte, reduceIte, Nat.reduceEqDiff, plain1, *]; rfl) | fail))) | (exact aop_assign (by (first | (simp only [ASt.ev, tmPut, ↓reduceIte, reduceIte, Nat.reduceEqDiff, plain1, *]; rfl) | fail))) | (exact aop_add (by (first | (simp only [ASt.ev, tmPut, ↓reduceIte, reduceIte, Nat.reduceEqDiff, plain1, *]; rfl) | fail)) (by (first | (simp only [ASt.ev, tmPut, ↓reduceIte, reduceIte, Nat.reduceEqDiff, plain1, *]; rfl) | fail)) (by omega)) | fail)) ?_) | (refine Trip.ops ?_) | (refine Trip.skip ?_; ((repeat (first | refine blockExit_eq ?_ | refine blockExit_ne (by decide) ?_ | refine blockExit_normal ?_ | refine blockExit_ret ?_ | refine blockExit_goto ?_)); first | (change Trip _ _ _ _ _) | dsimp only | skip)) | (refine OpsL.nil ?_; ((repeat (first | refine blockExit_eq ?_ | refine blockExit_ne (by decide) ?_ | refine blockExit_normal ?_ | refine blockExit_ret ?_ | refine blockExit_goto ?_)); first | (change Trip _ _ _ _ _) | dsimp only | skip)) | fail)
        exact ⟨i + 1, ⟨_, rfl, by omega, by omega, by simp [tmPut, *], by simp [tmPut, *], by simp [tmPut, *], by simp [tmPut, *], by simp [tmPut, *], by simp [tmPut, *], by simp [tmPut, *]⟩, by omega⟩
    · repeat (first | (refine OpsL.p (by subst_vars; decide) (by (first | (exact aop_move (by (first | (simp only [ASt.ev, tmPut, ↓reduceIte, reduceIte, Nat.reduceEqDiff, plain1, *]; rfl) | fail))) | (exact aop_len (by (first | (simp only [ASt.ev, tmPut, ↓reduceIte, reduceIte, Nat.reduceEqDiff, plain1, *]; rfl) | fail)) (by exact rfl)) | fail)) ?_) | (refine Trip.seq ?_) | (refine Trip.ops ?_) | fail)
      refine OpsL.p (by subst_vars; decide) (aop_lssF (by (first | (simp only [ASt.ev, tmPut, ↓reduceIte, reduceIte, Nat.reduceEqDiff, plain1, *]; rfl) | fail)) (by (first | (simp only [ASt.ev, tmPut, ↓reduceIte, reduceIte, Nat.reduceEqDiff, plain1, *]; rfl) | fail)) (by omega)) ?_
      repeat (first | (refine OpsL.nil ?_; ((repeat (first | refine blockExit_eq ?_ | refine blockExit_ne (by decide) ?_ | refine blockExit_normal ?_ | refine blockExit_ret ?_ | refine blockExit_goto ?_)); first | (change Trip _ _ _ _ _) | dsimp only | skip)) | fail)
      refine Trip.iteB (b := false) (by (first | (simp only [ASt.ev, tmPut, ↓reduceIte, reduceIte, Nat.reduceEqDiff, decide_true, decide_false, not_true_eq_false, not_false_eq_true, Bool.not_true, Bool.not_false, *]; done) | fail)) (fun h => absurd h (by decide)) (fun _ => ?_)
      repeat (first | (refine OpsL.p (by subst_vars; decide) (by (first | (exact aop_move (by (first | (simp only [ASt.ev, tmPut, ↓reduceIte, reduceIte, Nat.reduceEqDiff, plain1, *]; rfl) | fail))) | fail)) ?_) | (refine Trip.seq ?_) | (refine Trip.ops ?_) | (refine Trip.exit ?_; ((repeat (first | refine blockExit_eq ?_ | refine blockExit_ne (by decide) ?_ | refine blockExit_normal ?_ | refine blockExit_ret ?_ | refine blockExit_goto ?_)); first | (change Trip _ _ _ _ _) | dsimp only | skip)) | fail)
      refine OpsL.call1 (by subst_vars; decide) (by (first | (simp only [ASt.ev, tmPut, ↓reduceIte, reduceIte, Nat.reduceEqDiff, plain1, *]; done) | fail)) entersIntsR (rintsC W0 hr (by omega)).ok ?_
      rintro v10 nx10 H10 ⟨⟨o10, R, sR, mR, lR, wR, x10, -⟩, k10⟩
      replace hpr := RowsAt.ext x10 k9 hpr
      replace wA := RowsAt.ext x10 k9 wA
      replace wB := RowsAt.ext x10 k9 wB
      replace wC := RowsAt.ext x10 k9 wC
      replace wD := RowsAt.ext x10 k9 wD
      clear x10 k9 hr
      repeat fail
      refine OpsL.call2 (by subst_vars; decide) (by (first | (simp only [ASt.ev, tmPut, ↓reduceIte, reduceIte, Nat.reduceEqDiff, plain1, *]; done) | fail)) (by (first | (simp only [ASt.ev, tmPut, ↓reduceIte, reduceIte, Nat.reduceEqDiff, plain1, *]; done) | fail)) entersLInts (lintsC W0 wA (wR.at encI_len) (by omega) (by omega)) ?_
      rintro _ _ _ ⟨rfl, rfl, rfl⟩
      rw [decide_eq_true (strictI_ext A R sA sR fun z => by rw [mA, mR])]
      repeat (first | (refine OpsL.p (by subst_vars; decide) (by (first | (exact aop_move (by (first | (simp only [ASt.ev, tmPut, ↓reduceIte, reduceIte, Nat.reduceEqDiff, plain1, *]; rfl) | fail))) | fail)) ?_) | (refine OpsL.unguard (by exact rfl) (by (first | (simp only [ASt.ev, tmPut, ↓reduceIte, reduceIte, Nat.reduceEqDiff, decide_true, decide_false, not_true_eq_false, not_false_eq_true, Bool.not_true, Bool.not_false, *]; done) | fail)) ?_) | fail)
      refine OpsL.call2 (by subst_vars; decide) (by (first | (simp only [ASt.ev, tmPut, ↓reduceIte, reduceIte, Nat.reduceEqDiff, plain1, *]; done) | fail)) (by (first | (simp only [ASt.ev, tmPut, ↓reduceIte, reduceIte, Nat.reduceEqDiff, plain1, *]; done) | fail)) entersLInts (lintsC W0 wA wC (by omega) (by omega)) ?_
      rintro _ _ _ ⟨rfl, rfl, rfl⟩
      rw [decide_eq_true (strictI_ext A C sA sC fun z => by rw [mA, mC])]
      repeat (first | (refine OpsL.p (by subst_vars; decide) (by (first | (exact aop_move (by (first | (simp only [ASt.ev, tmPut, ↓reduceIte, reduceIte, Nat.reduceEqDiff, plain1, *]; rfl) | fail))) | (exact aop_pickT (by (first | (simp only [ASt.ev, tmPut, ↓reduceIte, reduceIte, Nat.reduceEqDiff, decide_true, decide_false, not_true_eq_false, not_false_eq_true, Bool.not_true, Bool.not_false, *]; done) | fail)) (by (first | (simp only [ASt.ev, tmPut, ↓reduceIte, reduceIte, Nat.reduceEqDiff, plain1, *]; rfl) | fail))) | fail)) ?_) | (refine OpsL.unguard (by exact rfl) (by (first | (simp only [ASt.ev, tmPut, ↓reduceIte, reduceIte, Nat.reduceEqDiff, decide_true, decide_false, not_true_eq_false, not_false_eq_true, Bool.not_true, Bool.not_false, *]; done) | fail)) ?_) | fail)
      refine OpsL.call1 (by subst_vars; decide) (by (first | (simp only [ASt.ev, tmPut, ↓reduceIte, reduceIte, Nat.reduceEqDiff, plain1, *]; done) | fail)) entersPairsR (rpairsC W0 hpr (by omega)).ok ?_
      rintro v11 nx11 H11 ⟨⟨o11, Q, sQ, mQ, lQ, wQ, x11, -⟩, k11⟩
      replace wB := RowsAt.ext x11 k10 wB
      replace wD := RowsAt.ext x11 k10 wD
      clear x11 k10
      repeat (first | (refine OpsL.unguard (by exact rfl) (by (first | (simp only [ASt.ev, tmPut, ↓reduceIte, reduceIte, Nat.reduceEqDiff, decide_true, decide_false, not_true_eq_false, not_false_eq_true, Bool.not_true, Bool.not_false, *]; done) | fail)) ?_) | fail)
      refine OpsL.call2 (by subst_vars; decide) (by (first | (simp only [ASt.ev, tmPut, ↓reduceIte, reduceIte, Nat.reduceEqDiff, plain1, *]; done) | fail)) (by (first | (simp only [ASt.ev, tmPut, ↓reduceIte, reduceIte, Nat.reduceEqDiff, plain1, *]; done) | fail)) entersSameR (sameC W0 wB (wQ.at encP_len) (by omega) (by omega)) ?_
      rintro _ _ _ ⟨rfl, rfl, rfl⟩
      rw [decide_eq_true (strict_ext B Q sB sQ fun z => by rw [mB, mQ])]
      repeat (first | (refine OpsL.p (by subst_vars; decide) (by (first | (exact aop_move (by (first | (simp only [ASt.ev, tmPut, ↓reduceIte, reduceIte, Nat.reduceEqDiff, plain1, *]; rfl) | fail))) | (exact aop_pickT (by (first | (simp only [ASt.ev, tmPut, ↓reduceIte, reduceIte, Nat.reduceEqDiff, decide_true, decide_false, not_true_eq_false, not_false_eq_true, Bool.not_true, Bool.not_false, *]; done) | fail)) (by (first | (simp only [ASt.ev, tmPut, ↓reduceIte, reduceIte, Nat.reduceEqDiff, plain1, *]; rfl) | fail))) | fail)) ?_) | (refine OpsL.unguard (by exact rfl) (by (first | (simp only [ASt.ev, tmPut, ↓reduceIte, reduceIte, Nat.reduceEqDiff, decide_true, decide_false, not_true_eq_false, not_false_eq_true, Bool.not_true, Bool.not_false, *]; done) | fail)) ?_) | fail)
      refine OpsL.call2 (by subst_vars; decide) (by (first | (simp only [ASt.ev, tmPut, ↓reduceIte, reduceIte, Nat.reduceEqDiff, plain1, *]; done) | fail)) (by (first | (simp only [ASt.ev, tmPut, ↓reduceIte, reduceIte, Nat.reduceEqDiff, plain1, *]; done) | fail)) entersSameR (sameC W0 wB wD (by omega) (by omega)) ?_
      rintro _ _ _ ⟨rfl, rfl, rfl⟩
      rw [decide_eq_true (strict_ext B D sB sD fun z => by rw [mB, mD])]
      repeat (first | (refine OpsL.p (by subst_vars; decide) (by (first | (exact aop_assign (by (first | (simp only [ASt.ev, tmPut, ↓reduceIte, reduceIte, Nat.reduceEqDiff, plain1, *]; rfl) | fail))) | (exact aop_pickT (by (first | (simp only [ASt.ev, tmPut, ↓reduceIte, reduceIte, Nat.reduceEqDiff, decide_true, decide_false, not_true_eq_false, not_false_eq_true, Bool.not_true, Bool.not_false, *]; done) | fail)) (by (first | (simp only [ASt.ev, tmPut, ↓reduceIte, reduceIte, Nat.reduceEqDiff, plain1, *]; rfl) | fail))) | fail)) ?_) | (refine Trip.ret ?_; ((repeat (first | refine blockExit_eq ?_ | refine blockExit_ne (by decide) ?_ | refine blockExit_normal ?_ | refine blockExit_ret ?_ | refine blockExit_goto ?_)); first | (change Trip _ _ _ _ _) | dsimp only | skip)) | (refine OpsL.nil ?_; ((repeat (first | refine blockExit_eq ?_ | refine blockExit_ne (by decide) ?_ | refine blockExit_normal ?_ | refine blockExit_ret ?_ | refine blockExit_goto ?_)); first | (change Trip _ _ _ _ _) | dsimp only | skip)) | fail)
      exact ⟨.inr rfl, _, res_tmp, by simp [tmPut]⟩

theorem core (W0 : World) (nx : Nat) (H : Heap) (x0 : List Int) (w0 : ∀ x ∈ x0, (Lit.int .i64 x).wf = true) (x1 : List Int) (w1 : ∀ x ∈ x1, (Lit.int .i64 x).wf = true) (a2 : Int) (w2 : (Lit.int .i64 a2).wf = true) (us : List Value)
    (hat : All2 (Arg.at H) [.ints .i64 x0, .ints .i64 x1, .plain (.int .i64 a2)] us) (_ : ∀ id o, H id = some o → id < nx) : ACalls Try.prog W0 3 us nx H fun v _ _ => v = .bool true := by
  obtain ⟨u0, us, rfl, h0, hat⟩ := hat.cons
  obtain ⟨u1, us, rfl, h1, hat⟩ := hat.cons
  obtain ⟨u2, us, rfl, h2, hat⟩ := hat.cons
  obtain rfl := hat.nil
  obtain rfl : u2 = _ := h2
  exact law W0 h0.1 h1.1 h1.2

theorem own : ownKnob Try.prog.godebug = none := by kernel_rfl
theorem laidOut : laidOutB Try.prog = true := by kernel_rfl
theorem cells_ints : Try.prog.cellsOf 3 = 1 := by kernel_rfl

set_option maxRecDepth 100000 in
theorem lifted (os : Os) (started : os.Started) (H : Type) (enc : TypeId × Value → H) :
    ReturnsInHanded {} Try.checked os 3 .any (Rows.setsRowsSpec.pre6 enc Try.prog Try.f3 Rows.setsRowsRow.domain false) (Rows.setsRowsSpec.post enc Try.prog Try.f3 false true false false) := by
  refine returnsInHanded_of_change (C := Try.checked) own started (by kernel_rfl) Try.func3
    (ChangeSpec.witness6 (enc := enc) (C := Try.checked) false ⟨#[], #[.slice none 0 0, .slice none 0 0, .int .i64 0], []⟩ 8 (by kernel_rfl) (by kernel_rfl) (by kernel_rfl) (by kernel_rfl)) ?_
  intro W base args ds gs before hval0 hW _ _
  have hval : ∀ (j : Nat) t v, Try.f3.params[j]? = some t → args[j]? = some v → Value.okWide Try.prog W .any base t v := hval0
  have hW' := hW
  obtain ⟨p, q, hA0, hV, rfl, _, _⟩ := hW
  have hA : DataW.TrodAll enc Try.prog W 0 (fun _ => true) true Try.f3.params.toList args.toList ds p := hA0
  rw [Try.params3] at hA hval
  obtain ⟨v0, vs0, d0, ds0, p0, q0, hargs, rfl, rfl, h0, r0⟩ := trodAll_cons hA
  obtain ⟨v1, vs1, d1, ds1, p1, q1, rfl, rfl, rfl, h1, r1⟩ := trodAll_cons r0
  obtain ⟨v2, vs2, d2, ds2, p2, q2, rfl, rfl, rfl, h2, r2⟩ := trodAll_cons r1
  obtain ⟨rfl, rfl, rfl⟩ := trodAll_nil r2
  obtain rfl : args = #[v0, v1, v2] := by cases args; simp_all
  obtain ⟨rfl, rfl⟩ := trodVars_none hV
  obtain ⟨x0, c0, w0⟩ := came_ints Try.underlying22 Try.underlying3 cells_ints (hval 0 22 v0 rfl rfl) h0
  obtain ⟨x1, c1, w1⟩ := came_ints Try.underlying22 Try.underlying3 cells_ints (hval 1 22 v1 rfl rfl) h1
  obtain ⟨a2, rfl, rfl, rfl, w2⟩ := open_int Try.underlying3 (hval 2 3 v2 rfl rfl) h2
  clear hA0 hval0
  refine (law_calls (ars := [.ints .i64 x0, .ints .i64 x1, .plain (.int .i64 a2)]) (vs := [_, _, _]) ⟨c0, c1, ⟨rfl, rfl⟩, trivial⟩ (fun nx H us hat hok => core W nx H x0 w0 x1 w1 a2 w2 us hat hok)).mono fun e W' ⟨he, hg⟩ => ?_
  subst he
  exact ⟨_, rfl, law_post laidOut (by kernel_rfl) rfl Try.underlying4 rfl hW' rfl hg⟩

theorem over : Rows.setsRowsRow.holds Try.pinned (OpenSpec.ofChange Rows.setsRowsSpec) :=
  OpenClaim.holds_of_wide 3 Try.f3 rfl rfl rfl rfl rfl rfl rfl ⟨rfl, rfl, rfl, rfl, rfl⟩ rfl rfl rfl rfl rfl (by kernel_rfl) Try.func3 (by kernel_rfl)
    (of_decide_eq_true (by kernel_rfl)) (by unfold Func.isWrapper; first | (rw [if_pos (by decide +kernel)]; kernel_rfl) | (rw [if_neg (by decide +kernel)]; exact ⟨rfl, rfl⟩))
    (fun os started H enc _ => lifted os started H enc)

theorem proved : Rows.SetsRowsSaid := over
#print axioms proved

end Go.Proofs.Ytigincejpjajpaa.setsRows
