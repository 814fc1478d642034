/-
  Chapter 2 said a second time: Ints.
-/
import Derived.Test.YtigincejpjajpaaRefB2
import Derived.Test.YtigincejpjajpaaTidyI2
import Derived.Test.YtigincejpjajpaaAmZT
namespace Go.Proofs.Ytigincejpjajpaa
set_option linter.unusedSimpArgs false
set_option linter.unusedVariables false
open Go.RowKit Go.Am
attribute [local irreducible] aop OpsL Trip blockExit OpsD OpsK OpsR

instance decI (x y : Int) : Decidable (ltI x y) := by unfold ltI; infer_instance
theorem ins_strictI {r : List Int} {k : Nat} {x : Int} (h : StrictI r) (hk : k ≤ r.length) (h1 : ∀ j (hj : j < r.length), k ≤ j → ltI x r[j]) (h2 : k = 0 ∨ ∃ h : k - 1 < r.length, ltI r[k - 1] x) : StrictI (r.take k ++ x :: r.drop k) := by
  unfold StrictI at *
  have hp : (r.take k ++ r.drop k).Pairwise ltI := by rw [List.take_append_drop]; exact h
  obtain ⟨p1, p2, p3⟩ := List.pairwise_append.1 hp
  have hxd : ∀ y ∈ r.drop k, ltI x y := fun y hy => by
    obtain ⟨i, hi, rfl⟩ := List.getElem_of_mem hy
    rw [List.length_drop] at hi
    rw [List.getElem_drop]
    exact h1 _ (by omega) (by omega)
  refine List.pairwise_append.2 ⟨p1, List.pairwise_cons.2 ⟨hxd, p2⟩, fun a ha b hb => ?_⟩
  have hax : ltI a x := by
    obtain ⟨i, hi, rfl⟩ := List.getElem_of_mem ha
    rw [List.length_take] at hi
    rw [List.getElem_take]
    rcases h2 with h2 | ⟨hlt, h2⟩
    · omega
    · by_cases hik : i = k - 1
      · subst hik; exact h2
      · exact ltI_trans (List.pairwise_iff_getElem.1 h i (k - 1) (by omega) hlt (by omega)) h2
  rcases List.mem_cons.1 hb with rfl | hb
  · exact hax
  · exact ltI_trans hax (hxd b hb)
theorem ins_memI {r : List Int} {k : Nat} {x y : Int} : y ∈ r.take k ++ x :: r.drop k ↔ y ∈ r ∨ y = x := by
  have : y ∈ r ↔ y ∈ r.take k ∨ y ∈ r.drop k := by rw [← List.mem_append, List.take_append_drop]
  rw [List.mem_append, List.mem_cons, this]
  constructor
  · rintro (h | h | h)
    · exact .inl (.inl h)
    · exact .inr h
    · exact .inl (.inr h)
  · rintro ((h | h) | h)
    · exact .inl h
    · exact .inr (.inr h)
    · exact .inr (.inl h)

set_option maxRecDepth 20000 in
/-- The front of a row, and what is behind it. -/
theorem own_partsI {H : Heap} {ob : Option (Nat × Nat)} {v : Value} {l : List Int} {k : Nat} (h : OwnNums H ob v l) (hk : k ≤ l.length) :
    (∃ r, aSlice Try.prog H 22 v none (some (.int .i64 k)) none = some r ∧ NumsIn H r (l.take k)) ∧ ∃ r, aSlice Try.prog H 22 v (some (.int .i64 k)) none none = some r ∧ NumsIn H r (l.drop k) := by
  cases ob with
  | none =>
    obtain ⟨rfl, _, h2⟩ := h
    have hl : l = [] := List.eq_nil_of_length_eq_zero h2
    subst hl
    have hk0 : k = 0 := by simpa using hk
    subst hk0
    exact ⟨⟨_, aSlice_nil (by exact rfl) (sz := 1) (by exact rfl) (.inl ⟨rfl, rfl⟩) (.inr ⟨.i64, rfl⟩), .inl ⟨0, rfl, rfl⟩⟩, ⟨_, aSlice_nil (by exact rfl) (sz := 1) (by exact rfl) (.inr ⟨.i64, rfl⟩) (.inl ⟨rfl, rfl⟩), .inl ⟨0, rfl, rfl⟩⟩⟩
  | some bt =>
    obtain ⟨b, t⟩ := bt
    obtain ⟨rfl, _, rest, ho⟩ := h
    refine ⟨⟨_, aSlice_tagged (el := 3) (sz := 1) (a := ⟨b, 0, some t⟩) (l := 0) (h := k) (by exact rfl) (by exact rfl) ho rfl rfl rfl (.inl ⟨rfl, rfl⟩) (.inr ⟨.i64, rfl⟩) (Nat.zero_le _) hk, ?_⟩, ⟨_, aSlice_tagged (el := 3) (sz := 1) (a := ⟨b, 0, some t⟩) (l := k) (h := l.length) (by exact rfl) (by exact rfl) ho rfl rfl rfl (.inr ⟨.i64, rfl⟩) (.inl ⟨rfl, rfl⟩) hk (Nat.le_refl _), ?_⟩⟩
    · rw [if_neg (by omega)]
      refine .inr ⟨⟨b, 0 + 0 * 1, some t⟩, k - 0, by rw [List.length_take, Nat.min_eq_left hk, Nat.sub_zero], fun i hi => ?_⟩
      rw [List.length_take] at hi
      have := getc_flat (i := i) encI_len ho (by omega)
      rw [List.getElem_take]
      show getc H ⟨b, 0 + 0 * 1 + i * 1, some t⟩ 1 = _
      rw [show 0 + 0 * 1 + i * 1 = 0 + i * 1 by omega]
      exact this
    · refine .inr ⟨⟨b, 0 + k * 1, if k = l.length ∧ 0 < k then none else some t⟩, l.length - k, by rw [List.length_drop], fun i hi => ?_⟩
      rw [List.length_drop] at hi
      rw [if_neg (by omega)]
      have := getc_flat (i := k + i) encI_len ho (by omega)
      rw [List.getElem_drop]
      show getc H ⟨b, 0 + k * 1 + i * 1, some t⟩ 1 = _
      rw [show 0 + k * 1 + i * 1 = 0 + (k + i) * 1 by omega]
      exact this


theorem own_blkI {H : Heap} {ob : Option (Nat × Nat)} {a : Option Addr} {m c : Nat} {l : List Int} {nx : Nat} (h : OwnNums H ob (.slice a m c) l) (hok : ∀ id o, H id = some o → id < nx) : ∀ p, a = some p → p.block < nx := by
  intro p hp
  subst hp
  cases ob with
  | none => obtain ⟨h1, _⟩ := h; cases h1
  | some bt =>
    obtain ⟨b, t⟩ := bt
    obtain ⟨h1, _, rest, hH⟩ := h
    obtain ⟨h3, _, _⟩ := Value.slice.inj h1
    cases Option.some.inj h3
    exact hok _ _ hH

theorem entersIntsR : Am.Enters Try.prog 18 := ⟨Try.f18, Try.func18, by kernel_rfl, by kernel_rfl⟩

set_option maxRecDepth 20000 in
set_option maxHeartbeats 4000000 in
theorem rintsC (W0 : World) {nx : Nat} {H : Heap} {v : Value} {l : List Int} (hr : NumsIn H v l) (hm : l.length ≤ 100000) :
    ACalls Try.prog W0 18 [v] nx H fun v nx' H' => ∃ ob r, StrictI r ∧ (∀ x, x ∈ r ↔ x ∈ l) ∧ r.length ≤ l.length ∧ OwnNums H' ob v r ∧ Fresh nx H nx' H' ob := by
  obtain ⟨va, vc, rfl⟩ := hr.slice
  refine ACalls.by_trip (fn := Try.f18) (c := _) Try.func18 rfl (fun tm n hn0 htm => ?_)
  have e0 : tm 0 = .slice va l.length vc := htm 0
  clear htm
  replace hn0 : n = 60 := hn0
  refine Trip.ok fun hok => ?_
  replace hok : ∀ id o, H id = some o → id < nx := hok
  repeat (first | (refine OpsL.p (by subst_vars; decide) (by (first | (exact aop_assign (by (first | (simp only [ASt.ev, tmPut, ↓reduceIte, reduceIte, Nat.reduceEqDiff, plain1, *]; rfl) | fail))) | fail)) ?_) | (refine Trip.seq ?_) | (refine Trip.ops ?_) | (refine Trip.block ?_) | (refine OpsL.nil ?_; ((repeat (first | refine blockExit_eq ?_ | refine blockExit_ne (by decide) ?_ | refine blockExit_normal ?_ | refine blockExit_ret ?_ | refine blockExit_goto ?_)); first | (change Trip _ _ _ _ _) | dsimp only | skip)) | fail)
  refine Trip.inv (fun (i : Nat) st => ∃ (tm : Nat → Value) (nx' : Nat) (H' : Heap) (ob : Option (Nat × Nat)) (v : Value) (r : List Int), st = ⟨tm, n, H', nx'⟩ ∧ Fresh nx H nx' H' ob ∧ OwnNums H' ob v r ∧ StrictI r ∧ (∀ x, x ∈ r ↔ x ∈ l.take i) ∧ r.length ≤ i ∧ tm 0 = .slice va l.length vc ∧ tm 3 = v ∧ tm 4 = .int .i64 i ∧ i ≤ l.length) (fun i => l.length - i) 0 ?_ ?_
  · exact ⟨_, _, _, none, _, [], rfl, ⟨Ext.refl, fun _ _ h => (by cases h)⟩, ⟨rfl, rfl, rfl⟩, List.Pairwise.nil, fun x => by simp, Nat.le_refl _, by simp [tmPut, *], by simp [tmPut, *], by simp [tmPut, *], by omega⟩
  · clear e0
    rintro i st ⟨tm, nx', H', ob, v, r, rfl, ⟨hx, hob⟩, hown, hst, hmem, hrl, e0, e3, e4, hi⟩
    refine Trip.ok fun hok' => ?_
    replace hok' : ∀ id o, H' id = some o → id < nx' := hok'
    by_cases hlt : i < l.length
    · obtain ⟨p, rfl, g0⟩ := rows_at hr hlt
      have g1 : cellAt H' ⟨p.block, p.off + (i : Int).toNat * 1, p.spot⟩ (.int .i64 l[i]) := getc_ext hx hok g0
      have hor := hown.at encI_len
      have hrb : ∀ q c m, v = .slice (some q) m c → q.block < nx' := fun q c m e => own_blkI (by rw [← e]; exact hown) hok' q rfl
      obtain ⟨ra, rc, rfl⟩ := hor.slice
      have hmt : ∀ x, x ∈ l.take (i + 1) ↔ x ∈ r ∨ x = l[i] := fun x => by rw [List.take_add_one, List.getElem?_eq_getElem hlt, Option.toList_some, List.mem_append, List.mem_singleton, hmem]
      generalize l[i] = x at *
      repeat (first | (refine OpsL.p (by subst_vars; decide) (by (first | (exact aop_move (by (first | (simp only [ASt.ev, tmPut, ↓reduceIte, reduceIte, Nat.reduceEqDiff, plain1, *]; rfl) | fail))) | (exact aop_len (by (first | (simp only [ASt.ev, tmPut, ↓reduceIte, reduceIte, Nat.reduceEqDiff, plain1, *]; rfl) | fail)) (by exact rfl)) | fail)) ?_) | (refine Trip.seq ?_) | (refine Trip.ops ?_) | fail)
      refine OpsL.p (by subst_vars; decide) (aop_lssT (by (first | (simp only [ASt.ev, tmPut, ↓reduceIte, reduceIte, Nat.reduceEqDiff, plain1, *]; rfl) | fail)) (by (first | (simp only [ASt.ev, tmPut, ↓reduceIte, reduceIte, Nat.reduceEqDiff, plain1, *]; rfl) | fail)) (by omega)) ?_
      repeat (first | (refine OpsL.nil ?_; ((repeat (first | refine blockExit_eq ?_ | refine blockExit_ne (by decide) ?_ | refine blockExit_normal ?_ | refine blockExit_ret ?_ | refine blockExit_goto ?_)); first | (change Trip _ _ _ _ _) | dsimp only | skip)) | fail)
      refine Trip.iteB (b := true) (by (first | (simp only [ASt.ev, tmPut, ↓reduceIte, reduceIte, Nat.reduceEqDiff, decide_true, decide_false, not_true_eq_false, not_false_eq_true, Bool.not_true, Bool.not_false, *]; done) | fail)) (fun _ => ?_) (fun h => absurd h (by decide))
      repeat (first | (refine OpsL.p (by subst_vars; decide) (by (first | (exact aop_move (by (first | (simp only [ASt.ev, tmPut, ↓reduceIte, reduceIte, Nat.reduceEqDiff, plain1, *]; rfl) | fail))) | (exact aop_assign (by (first | (simp only [ASt.ev, tmPut, ↓reduceIte, reduceIte, Nat.reduceEqDiff, plain1, *]; rfl) | fail))) | (exact aop_len (by (first | (simp only [ASt.ev, tmPut, ↓reduceIte, reduceIte, Nat.reduceEqDiff, plain1, *]; rfl) | fail)) (by exact rfl)) | fail)) ?_) | (refine Trip.seq ?_) | (refine Trip.ops ?_) | (refine Trip.block ?_) | (refine Trip.skip ?_; ((repeat (first | refine blockExit_eq ?_ | refine blockExit_ne (by decide) ?_ | refine blockExit_normal ?_ | refine blockExit_ret ?_ | refine blockExit_goto ?_)); first | (change Trip _ _ _ _ _) | dsimp only | skip)) | (refine OpsL.nil ?_; ((repeat (first | refine blockExit_eq ?_ | refine blockExit_ne (by decide) ?_ | refine blockExit_normal ?_ | refine blockExit_ret ?_ | refine blockExit_goto ?_)); first | (change Trip _ _ _ _ _) | dsimp only | skip)) | fail)
      -- where it belongs
      refine Trip.mono (Q := fun e st => e = .exit 2 ∧ ∃ (tm' : Nat → Value) (k : Nat), st = ⟨tm', n, H', nx'⟩ ∧ k ≤ r.length ∧ (∀ j (hj : j < r.length), k ≤ j → ltI x r[j]) ∧ (k = 0 ∨ ∃ h : k - 1 < r.length, 0 < k ∧ ¬ ltI x r[k - 1]) ∧ tm' 0 = .slice (some p) l.length vc ∧ tm' 3 = .slice ra r.length rc ∧ tm' 4 = .int .i64 i ∧ tm' 5 = .int .i64 k) ?_ ?_
      · refine Trip.inv (fun (k : Nat) st => ∃ (tm : Nat → Value), st = ⟨tm, n, H', nx'⟩ ∧ k ≤ r.length ∧ (∀ j (hj : j < r.length), k ≤ j → ltI x r[j]) ∧ tm 0 = .slice (some p) l.length vc ∧ tm 3 = .slice ra r.length rc ∧ tm 4 = .int .i64 i ∧ tm 5 = .int .i64 k) (fun k => k) r.length ?_ ?_
        · exact ⟨_, rfl, Nat.le_refl _, fun j hj h => by omega, by simp [tmPut, *], by simp [tmPut, *], by simp [tmPut, *], by simp [tmPut, *]⟩
        · clear e0 e3 e4
          rintro k st ⟨tm, rfl, hk, hgt, e0, e3, e4, e5⟩
          by_cases hk0 : 0 < k
          · obtain ⟨q, rfl, g2⟩ := rows_prev hor hk0 hk
            replace g2 : cellAt H' ⟨q.block, q.off + ((k : Int) - 1).toNat * 1, q.spot⟩ (.int .i64 (r[k - 1]'(by omega))) := g2
            repeat (first | (refine Trip.seq ?_) | fail)
            refine Trip.mono (Q := fun e st => e = .normal ∧ ∃ (tm' : Nat → Value), st = ⟨tm', n, H', nx'⟩ ∧ tm' 0 = .slice (some p) l.length vc ∧ tm' 3 = .slice (some q) r.length rc ∧ tm' 4 = .int .i64 i ∧ tm' 5 = .int .i64 k ∧ tm' 27 = .bool (decide (ltI x (r[k - 1]'(by omega))))) ?_ ?_
            · refine OpsK.drawn (K := fun _ _ => True) mixedP (by kernel_rfl) (by kernel_rfl) trivial ?_
              refine OpsK.one rfl (by kernel_rfl) ?_
              repeat (first | (refine OpsL.p (by subst_vars; decide) (by (first | (exact aop_move (by (first | (simp only [ASt.ev, tmPut, ↓reduceIte, reduceIte, Nat.reduceEqDiff, plain1, *]; rfl) | fail))) | fail)) ?_) | (refine OpsL.nil ?_; ((repeat (first | refine blockExit_eq ?_ | refine blockExit_ne (by decide) ?_ | refine blockExit_normal ?_ | refine blockExit_ret ?_ | refine blockExit_goto ?_)); first | (change Trip _ _ _ _ _) | dsimp only | skip)) | fail)
              refine OpsK.one rfl (by kernel_rfl) ?_
              refine OpsL.p (by subst_vars; decide) (aop_gtrT (by (first | (simp only [ASt.ev, tmPut, ↓reduceIte, reduceIte, Nat.reduceEqDiff, plain1, *]; rfl) | fail)) (by (first | (simp only [ASt.ev, tmPut, ↓reduceIte, reduceIte, Nat.reduceEqDiff, plain1, *]; rfl) | fail)) (by omega)) ?_
              repeat (first | (refine OpsL.nil ?_; ((repeat (first | refine blockExit_eq ?_ | refine blockExit_ne (by decide) ?_ | refine blockExit_normal ?_ | refine blockExit_ret ?_ | refine blockExit_goto ?_)); first | (change Trip _ _ _ _ _) | dsimp only | skip)) | fail)
              refine OpsK.one rfl (by kernel_rfl) ?_
              repeat (first | (refine OpsL.p (by subst_vars; decide) (by (first | (exact aop_move (by (first | (simp only [ASt.ev, tmPut, ↓reduceIte, reduceIte, Nat.reduceEqDiff, plain1, *]; rfl) | fail))) | fail)) ?_) | (refine OpsL.nil ?_; ((repeat (first | refine blockExit_eq ?_ | refine blockExit_ne (by decide) ?_ | refine blockExit_normal ?_ | refine blockExit_ret ?_ | refine blockExit_goto ?_)); first | (change Trip _ _ _ _ _) | dsimp only | skip)) | fail)
              refine OpsK.one rfl (by kernel_rfl) ?_
              repeat (first | (refine OpsL.p (by subst_vars; decide) (by (first | (exact aop_move (by (first | (simp only [ASt.ev, tmPut, ↓reduceIte, reduceIte, Nat.reduceEqDiff, plain1, *]; rfl) | fail))) | fail)) ?_) | (refine OpsL.nil ?_; ((repeat (first | refine blockExit_eq ?_ | refine blockExit_ne (by decide) ?_ | refine blockExit_normal ?_ | refine blockExit_ret ?_ | refine blockExit_goto ?_)); first | (change Trip _ _ _ _ _) | dsimp only | skip)) | (refine OpsL.unguard (by exact rfl) (by (first | (simp only [ASt.ev, tmPut, ↓reduceIte, reduceIte, Nat.reduceEqDiff, decide_true, decide_false, not_true_eq_false, not_false_eq_true, Bool.not_true, Bool.not_false, *]; done) | fail)) ?_) | fail)
              refine OpsK.one rfl (by kernel_rfl) ?_
              repeat (first | (refine OpsL.p (by subst_vars; decide) (by (first | (exact aop_move (by (first | (simp only [ASt.ev, tmPut, ↓reduceIte, reduceIte, Nat.reduceEqDiff, plain1, *]; rfl) | fail))) | fail)) ?_) | (refine OpsL.nil ?_; ((repeat (first | refine blockExit_eq ?_ | refine blockExit_ne (by decide) ?_ | refine blockExit_normal ?_ | refine blockExit_ret ?_ | refine blockExit_goto ?_)); first | (change Trip _ _ _ _ _) | dsimp only | skip)) | (refine OpsL.unguard (by exact rfl) (by (first | (simp only [ASt.ev, tmPut, ↓reduceIte, reduceIte, Nat.reduceEqDiff, decide_true, decide_false, not_true_eq_false, not_false_eq_true, Bool.not_true, Bool.not_false, *]; done) | fail)) ?_) | fail)
              refine OpsK.one rfl (by kernel_rfl) ?_
              repeat (first | (refine OpsL.p (by subst_vars; decide) (by (first | (exact aop_indexAddr (by (first | (simp only [ASt.ev, tmPut, ↓reduceIte, reduceIte, Nat.reduceEqDiff, plain1, *]; rfl) | fail)) (by (first | (simp only [ASt.ev, tmPut, ↓reduceIte, reduceIte, Nat.reduceEqDiff, plain1, *]; rfl) | fail)) (by exact rfl) (by exact rfl) (by omega) (by omega)) | fail)) ?_) | (refine OpsL.nil ?_; ((repeat (first | refine blockExit_eq ?_ | refine blockExit_ne (by decide) ?_ | refine blockExit_normal ?_ | refine blockExit_ret ?_ | refine blockExit_goto ?_)); first | (change Trip _ _ _ _ _) | dsimp only | skip)) | (refine OpsL.unguard (by exact rfl) (by (first | (simp only [ASt.ev, tmPut, ↓reduceIte, reduceIte, Nat.reduceEqDiff, decide_true, decide_false, not_true_eq_false, not_false_eq_true, Bool.not_true, Bool.not_false, *]; done) | fail)) ?_) | fail)
              refine OpsK.one rfl (by kernel_rfl) ?_
              repeat (first | (refine OpsL.p (by subst_vars; decide) (by (first | (exact aop_load (by (first | (simp only [ASt.ev, tmPut, ↓reduceIte, reduceIte, Nat.reduceEqDiff, plain1, *]; rfl) | fail)) (by exact rfl) rfl (by assumption)) | fail)) ?_) | (refine OpsL.nil ?_; ((repeat (first | refine blockExit_eq ?_ | refine blockExit_ne (by decide) ?_ | refine blockExit_normal ?_ | refine blockExit_ret ?_ | refine blockExit_goto ?_)); first | (change Trip _ _ _ _ _) | dsimp only | skip)) | (refine OpsL.unguard (by exact rfl) (by (first | (simp only [ASt.ev, tmPut, ↓reduceIte, reduceIte, Nat.reduceEqDiff, decide_true, decide_false, not_true_eq_false, not_false_eq_true, Bool.not_true, Bool.not_false, *]; done) | fail)) ?_) | fail)
              refine OpsK.one rfl (by kernel_rfl) ?_
              repeat (first | (refine OpsL.p (by subst_vars; decide) (by (first | (exact aop_move (by (first | (simp only [ASt.ev, tmPut, ↓reduceIte, reduceIte, Nat.reduceEqDiff, plain1, *]; rfl) | fail))) | fail)) ?_) | (refine OpsL.nil ?_; ((repeat (first | refine blockExit_eq ?_ | refine blockExit_ne (by decide) ?_ | refine blockExit_normal ?_ | refine blockExit_ret ?_ | refine blockExit_goto ?_)); first | (change Trip _ _ _ _ _) | dsimp only | skip)) | (refine OpsL.unguard (by exact rfl) (by (first | (simp only [ASt.ev, tmPut, ↓reduceIte, reduceIte, Nat.reduceEqDiff, decide_true, decide_false, not_true_eq_false, not_false_eq_true, Bool.not_true, Bool.not_false, *]; done) | fail)) ?_) | fail)
              refine OpsK.one rfl (by kernel_rfl) ?_
              repeat (first | (refine OpsL.p (by subst_vars; decide) (by (first | (exact aop_move (by (first | (simp only [ASt.ev, tmPut, ↓reduceIte, reduceIte, Nat.reduceEqDiff, plain1, *]; rfl) | fail))) | fail)) ?_) | (refine OpsL.nil ?_; ((repeat (first | refine blockExit_eq ?_ | refine blockExit_ne (by decide) ?_ | refine blockExit_normal ?_ | refine blockExit_ret ?_ | refine blockExit_goto ?_)); first | (change Trip _ _ _ _ _) | dsimp only | skip)) | (refine OpsL.unguard (by exact rfl) (by (first | (simp only [ASt.ev, tmPut, ↓reduceIte, reduceIte, Nat.reduceEqDiff, decide_true, decide_false, not_true_eq_false, not_false_eq_true, Bool.not_true, Bool.not_false, *]; done) | fail)) ?_) | fail)
              refine OpsK.one rfl (by kernel_rfl) ?_
              repeat (first | (refine OpsL.p (by subst_vars; decide) (by (first | (exact aop_sub (by (first | (simp only [ASt.ev, tmPut, ↓reduceIte, reduceIte, Nat.reduceEqDiff, plain1, *]; rfl) | fail)) (by (first | (simp only [ASt.ev, tmPut, ↓reduceIte, reduceIte, Nat.reduceEqDiff, plain1, *]; rfl) | fail)) (by omega)) | fail)) ?_) | (refine OpsL.nil ?_; ((repeat (first | refine blockExit_eq ?_ | refine blockExit_ne (by decide) ?_ | refine blockExit_normal ?_ | refine blockExit_ret ?_ | refine blockExit_goto ?_)); first | (change Trip _ _ _ _ _) | dsimp only | skip)) | (refine OpsL.unguard (by exact rfl) (by (first | (simp only [ASt.ev, tmPut, ↓reduceIte, reduceIte, Nat.reduceEqDiff, decide_true, decide_false, not_true_eq_false, not_false_eq_true, Bool.not_true, Bool.not_false, *]; done) | fail)) ?_) | fail)
              refine OpsK.one rfl (by kernel_rfl) ?_
              repeat (first | (refine OpsL.p (by subst_vars; decide) (by (first | (exact aop_indexAddr (by (first | (simp only [ASt.ev, tmPut, ↓reduceIte, reduceIte, Nat.reduceEqDiff, plain1, *]; rfl) | fail)) (by (first | (simp only [ASt.ev, tmPut, ↓reduceIte, reduceIte, Nat.reduceEqDiff, plain1, *]; rfl) | fail)) (by exact rfl) (by exact rfl) (by omega) (by omega)) | fail)) ?_) | (refine OpsL.nil ?_; ((repeat (first | refine blockExit_eq ?_ | refine blockExit_ne (by decide) ?_ | refine blockExit_normal ?_ | refine blockExit_ret ?_ | refine blockExit_goto ?_)); first | (change Trip _ _ _ _ _) | dsimp only | skip)) | (refine OpsL.unguard (by exact rfl) (by (first | (simp only [ASt.ev, tmPut, ↓reduceIte, reduceIte, Nat.reduceEqDiff, decide_true, decide_false, not_true_eq_false, not_false_eq_true, Bool.not_true, Bool.not_false, *]; done) | fail)) ?_) | fail)
              refine OpsK.one rfl (by kernel_rfl) ?_
              repeat (first | (refine OpsL.p (by subst_vars; decide) (by (first | (exact aop_load (by (first | (simp only [ASt.ev, tmPut, ↓reduceIte, reduceIte, Nat.reduceEqDiff, plain1, *]; rfl) | fail)) (by exact rfl) rfl (by assumption)) | fail)) ?_) | (refine OpsL.nil ?_; ((repeat (first | refine blockExit_eq ?_ | refine blockExit_ne (by decide) ?_ | refine blockExit_normal ?_ | refine blockExit_ret ?_ | refine blockExit_goto ?_)); first | (change Trip _ _ _ _ _) | dsimp only | skip)) | (refine OpsL.unguard (by exact rfl) (by (first | (simp only [ASt.ev, tmPut, ↓reduceIte, reduceIte, Nat.reduceEqDiff, decide_true, decide_false, not_true_eq_false, not_false_eq_true, Bool.not_true, Bool.not_false, *]; done) | fail)) ?_) | fail)
              refine OpsK.one rfl (by kernel_rfl) ?_
              repeat (first | (refine OpsL.unguard (by exact rfl) (by (first | (simp only [ASt.ev, tmPut, ↓reduceIte, reduceIte, Nat.reduceEqDiff, decide_true, decide_false, not_true_eq_false, not_false_eq_true, Bool.not_true, Bool.not_false, *]; done) | fail)) ?_) | fail)
              refine OpsL.p (by subst_vars; decide) (aop_lss (by (first | (simp only [ASt.ev, tmPut, ↓reduceIte, reduceIte, Nat.reduceEqDiff, plain1, *]; rfl) | fail)) (by (first | (simp only [ASt.ev, tmPut, ↓reduceIte, reduceIte, Nat.reduceEqDiff, plain1, *]; rfl) | fail))) ?_
              repeat (first | (refine OpsL.nil ?_; ((repeat (first | refine blockExit_eq ?_ | refine blockExit_ne (by decide) ?_ | refine blockExit_normal ?_ | refine blockExit_ret ?_ | refine blockExit_goto ?_)); first | (change Trip _ _ _ _ _) | dsimp only | skip)) | fail)
              refine OpsK.one rfl (by kernel_rfl) ?_
              repeat (first | (refine OpsL.p (by subst_vars; decide) (by (first | (exact aop_pickT (by (first | (simp only [ASt.ev, tmPut, ↓reduceIte, reduceIte, Nat.reduceEqDiff, decide_true, decide_false, not_true_eq_false, not_false_eq_true, Bool.not_true, Bool.not_false, *]; done) | fail)) (by (first | (simp only [ASt.ev, tmPut, ↓reduceIte, reduceIte, Nat.reduceEqDiff, plain1, *]; rfl) | fail))) | fail)) ?_) | (refine OpsL.nil ?_; ((repeat (first | refine blockExit_eq ?_ | refine blockExit_ne (by decide) ?_ | refine blockExit_normal ?_ | refine blockExit_ret ?_ | refine blockExit_goto ?_)); first | (change Trip _ _ _ _ _) | dsimp only | skip)) | fail)
              refine OpsK.nil ?_
              exact ⟨rfl, _, rfl, by simp [tmPut, *], by simp [tmPut, *], by simp [tmPut, *], by simp [tmPut, *], by simp [tmPut, ltI]⟩
            · clear e0 e3 e4 e5
              rintro e st ⟨rfl, tm', rfl, e0, e3, e4, e5, e27⟩
              ((repeat (first | refine blockExit_eq ?_ | refine blockExit_ne (by decide) ?_ | refine blockExit_normal ?_ | refine blockExit_ret ?_ | refine blockExit_goto ?_)); first | (change Trip _ _ _ _ _) | dsimp only | skip)
              by_cases hxl : ltI x (r[k - 1]'(by omega))
              · rw [decide_eq_true hxl] at e27
                repeat fail
                refine Trip.iteB (b := true) (by (first | (simp only [ASt.ev, tmPut, ↓reduceIte, reduceIte, Nat.reduceEqDiff, decide_true, decide_false, not_true_eq_false, not_false_eq_true, Bool.not_true, Bool.not_false, *]; done) | fail)) (fun _ => ?_) (fun h => absurd h (by decide))
                repeat (first | (refine OpsL.p (by subst_vars; decide) (by (first | (exact aop_move (by (first | (simp only [ASt.ev, tmPut, ↓reduceIte, reduceIte, Nat.reduceEqDiff, plain1, *]; rfl) | fail))) | (exact aop_assign (by (first | (simp only [ASt.ev, tmPut, ↓reduceIte, reduceIte, Nat.reduceEqDiff, plain1, *]; rfl) | fail))) | (exact aop_sub (by (first | (simp only [ASt.ev, tmPut, ↓reduceIte, reduceIte, Nat.reduceEqDiff, plain1, *]; rfl) | fail)) (by (first | (simp only [ASt.ev, tmPut, ↓reduceIte, reduceIte, Nat.reduceEqDiff, plain1, *]; rfl) | fail)) (by omega)) | fail)) ?_) | (refine Trip.ops ?_) | (refine Trip.block ?_) | (refine Trip.skip ?_; ((repeat (first | refine blockExit_eq ?_ | refine blockExit_ne (by decide) ?_ | refine blockExit_normal ?_ | refine blockExit_ret ?_ | refine blockExit_goto ?_)); first | (change Trip _ _ _ _ _) | dsimp only | skip)) | (refine OpsL.nil ?_; ((repeat (first | refine blockExit_eq ?_ | refine blockExit_ne (by decide) ?_ | refine blockExit_normal ?_ | refine blockExit_ret ?_ | refine blockExit_goto ?_)); first | (change Trip _ _ _ _ _) | dsimp only | skip)) | fail)
                refine ⟨k - 1, ⟨_, rfl, by omega, fun j hj h => ?_, by simp [tmPut, *], by simp [tmPut, *], by simp [tmPut, *], by simp [tmPut, *]; omega⟩, by omega⟩
                by_cases hjk : j = k - 1
                · subst hjk; exact hxl
                · exact hgt j hj (by omega)
              · rw [decide_eq_false hxl] at e27
                repeat fail
                refine Trip.iteB (b := false) (by (first | (simp only [ASt.ev, tmPut, ↓reduceIte, reduceIte, Nat.reduceEqDiff, decide_true, decide_false, not_true_eq_false, not_false_eq_true, Bool.not_true, Bool.not_false, *]; done) | fail)) (fun h => absurd h (by decide)) (fun _ => ?_)
                repeat (first | (refine Trip.exit ?_; ((repeat (first | refine blockExit_eq ?_ | refine blockExit_ne (by decide) ?_ | refine blockExit_normal ?_ | refine blockExit_ret ?_ | refine blockExit_goto ?_)); first | (change Trip _ _ _ _ _) | dsimp only | skip)) | fail)
                exact ⟨rfl, _, k, rfl, hk, hgt, .inr ⟨by omega, hk0, hxl⟩, by simp [tmPut, *], by simp [tmPut, *], by simp [tmPut, *], by simp [tmPut, *]⟩
          · have hk00 : k = 0 := by omega
            subst hk00
            repeat (first | (refine Trip.seq ?_) | fail)
            refine Trip.mono (Q := fun e st => e = .normal ∧ ∃ (tm' : Nat → Value), st = ⟨tm', n, H', nx'⟩ ∧ tm' 0 = .slice (some p) l.length vc ∧ tm' 3 = .slice ra r.length rc ∧ tm' 4 = .int .i64 i ∧ tm' 5 = .int .i64 (0 : Nat) ∧ tm' 27 = .bool false) ?_ ?_
            · refine OpsK.drawn (K := fun _ _ => True) mixedP (by kernel_rfl) (by kernel_rfl) trivial ?_
              refine OpsK.one rfl (by kernel_rfl) ?_
              repeat (first | (refine OpsL.p (by subst_vars; decide) (by (first | (exact aop_move (by (first | (simp only [ASt.ev, tmPut, ↓reduceIte, reduceIte, Nat.reduceEqDiff, plain1, *]; rfl) | fail))) | fail)) ?_) | (refine OpsL.nil ?_; ((repeat (first | refine blockExit_eq ?_ | refine blockExit_ne (by decide) ?_ | refine blockExit_normal ?_ | refine blockExit_ret ?_ | refine blockExit_goto ?_)); first | (change Trip _ _ _ _ _) | dsimp only | skip)) | fail)
              refine OpsK.one rfl (by kernel_rfl) ?_
              refine OpsL.p (by subst_vars; decide) (aop_gtrF (by (first | (simp only [ASt.ev, tmPut, ↓reduceIte, reduceIte, Nat.reduceEqDiff, plain1, *]; rfl) | fail)) (by (first | (simp only [ASt.ev, tmPut, ↓reduceIte, reduceIte, Nat.reduceEqDiff, plain1, *]; rfl) | fail)) (by omega)) ?_
              repeat (first | (refine OpsL.nil ?_; ((repeat (first | refine blockExit_eq ?_ | refine blockExit_ne (by decide) ?_ | refine blockExit_normal ?_ | refine blockExit_ret ?_ | refine blockExit_goto ?_)); first | (change Trip _ _ _ _ _) | dsimp only | skip)) | fail)
              refine OpsK.one rfl (by kernel_rfl) ?_
              repeat (first | (refine OpsL.p (by subst_vars; decide) (by (first | (exact aop_move (by (first | (simp only [ASt.ev, tmPut, ↓reduceIte, reduceIte, Nat.reduceEqDiff, plain1, *]; rfl) | fail))) | fail)) ?_) | (refine OpsL.nil ?_; ((repeat (first | refine blockExit_eq ?_ | refine blockExit_ne (by decide) ?_ | refine blockExit_normal ?_ | refine blockExit_ret ?_ | refine blockExit_goto ?_)); first | (change Trip _ _ _ _ _) | dsimp only | skip)) | fail)
              refine OpsK.one rfl (by kernel_rfl) ?_
              repeat (first | (refine OpsL.nil ?_; ((repeat (first | refine blockExit_eq ?_ | refine blockExit_ne (by decide) ?_ | refine blockExit_normal ?_ | refine blockExit_ret ?_ | refine blockExit_goto ?_)); first | (change Trip _ _ _ _ _) | dsimp only | skip)) | (refine OpsL.skipped (by exact rfl) (by (first | (simp only [ASt.ev, tmPut, ↓reduceIte, reduceIte, Nat.reduceEqDiff, decide_true, decide_false, not_true_eq_false, not_false_eq_true, Bool.not_true, Bool.not_false, *]; done) | fail)) (by subst_vars; decide) ?_) | fail)
              refine OpsK.one rfl (by kernel_rfl) ?_
              repeat (first | (refine OpsL.nil ?_; ((repeat (first | refine blockExit_eq ?_ | refine blockExit_ne (by decide) ?_ | refine blockExit_normal ?_ | refine blockExit_ret ?_ | refine blockExit_goto ?_)); first | (change Trip _ _ _ _ _) | dsimp only | skip)) | (refine OpsL.skipped (by exact rfl) (by (first | (simp only [ASt.ev, tmPut, ↓reduceIte, reduceIte, Nat.reduceEqDiff, decide_true, decide_false, not_true_eq_false, not_false_eq_true, Bool.not_true, Bool.not_false, *]; done) | fail)) (by subst_vars; decide) ?_) | fail)
              refine OpsK.one rfl (by kernel_rfl) ?_
              repeat (first | (refine OpsL.nil ?_; ((repeat (first | refine blockExit_eq ?_ | refine blockExit_ne (by decide) ?_ | refine blockExit_normal ?_ | refine blockExit_ret ?_ | refine blockExit_goto ?_)); first | (change Trip _ _ _ _ _) | dsimp only | skip)) | (refine OpsL.skipped (by exact rfl) (by (first | (simp only [ASt.ev, tmPut, ↓reduceIte, reduceIte, Nat.reduceEqDiff, decide_true, decide_false, not_true_eq_false, not_false_eq_true, Bool.not_true, Bool.not_false, *]; done) | fail)) (by subst_vars; decide) ?_) | fail)
              refine OpsK.one rfl (by kernel_rfl) ?_
              repeat (first | (refine OpsL.nil ?_; ((repeat (first | refine blockExit_eq ?_ | refine blockExit_ne (by decide) ?_ | refine blockExit_normal ?_ | refine blockExit_ret ?_ | refine blockExit_goto ?_)); first | (change Trip _ _ _ _ _) | dsimp only | skip)) | (refine OpsL.skipped (by exact rfl) (by (first | (simp only [ASt.ev, tmPut, ↓reduceIte, reduceIte, Nat.reduceEqDiff, decide_true, decide_false, not_true_eq_false, not_false_eq_true, Bool.not_true, Bool.not_false, *]; done) | fail)) (by subst_vars; decide) ?_) | fail)
              refine OpsK.one rfl (by kernel_rfl) ?_
              repeat (first | (refine OpsL.nil ?_; ((repeat (first | refine blockExit_eq ?_ | refine blockExit_ne (by decide) ?_ | refine blockExit_normal ?_ | refine blockExit_ret ?_ | refine blockExit_goto ?_)); first | (change Trip _ _ _ _ _) | dsimp only | skip)) | (refine OpsL.skipped (by exact rfl) (by (first | (simp only [ASt.ev, tmPut, ↓reduceIte, reduceIte, Nat.reduceEqDiff, decide_true, decide_false, not_true_eq_false, not_false_eq_true, Bool.not_true, Bool.not_false, *]; done) | fail)) (by subst_vars; decide) ?_) | fail)
              refine OpsK.one rfl (by kernel_rfl) ?_
              repeat (first | (refine OpsL.nil ?_; ((repeat (first | refine blockExit_eq ?_ | refine blockExit_ne (by decide) ?_ | refine blockExit_normal ?_ | refine blockExit_ret ?_ | refine blockExit_goto ?_)); first | (change Trip _ _ _ _ _) | dsimp only | skip)) | (refine OpsL.skipped (by exact rfl) (by (first | (simp only [ASt.ev, tmPut, ↓reduceIte, reduceIte, Nat.reduceEqDiff, decide_true, decide_false, not_true_eq_false, not_false_eq_true, Bool.not_true, Bool.not_false, *]; done) | fail)) (by subst_vars; decide) ?_) | fail)
              refine OpsK.one rfl (by kernel_rfl) ?_
              repeat (first | (refine OpsL.nil ?_; ((repeat (first | refine blockExit_eq ?_ | refine blockExit_ne (by decide) ?_ | refine blockExit_normal ?_ | refine blockExit_ret ?_ | refine blockExit_goto ?_)); first | (change Trip _ _ _ _ _) | dsimp only | skip)) | (refine OpsL.skipped (by exact rfl) (by (first | (simp only [ASt.ev, tmPut, ↓reduceIte, reduceIte, Nat.reduceEqDiff, decide_true, decide_false, not_true_eq_false, not_false_eq_true, Bool.not_true, Bool.not_false, *]; done) | fail)) (by subst_vars; decide) ?_) | fail)
              refine OpsK.one rfl (by kernel_rfl) ?_
              repeat (first | (refine OpsL.nil ?_; ((repeat (first | refine blockExit_eq ?_ | refine blockExit_ne (by decide) ?_ | refine blockExit_normal ?_ | refine blockExit_ret ?_ | refine blockExit_goto ?_)); first | (change Trip _ _ _ _ _) | dsimp only | skip)) | (refine OpsL.skipped (by exact rfl) (by (first | (simp only [ASt.ev, tmPut, ↓reduceIte, reduceIte, Nat.reduceEqDiff, decide_true, decide_false, not_true_eq_false, not_false_eq_true, Bool.not_true, Bool.not_false, *]; done) | fail)) (by subst_vars; decide) ?_) | fail)
              refine OpsK.one rfl (by kernel_rfl) ?_
              repeat (first | (refine OpsL.nil ?_; ((repeat (first | refine blockExit_eq ?_ | refine blockExit_ne (by decide) ?_ | refine blockExit_normal ?_ | refine blockExit_ret ?_ | refine blockExit_goto ?_)); first | (change Trip _ _ _ _ _) | dsimp only | skip)) | (refine OpsL.skipped (by exact rfl) (by (first | (simp only [ASt.ev, tmPut, ↓reduceIte, reduceIte, Nat.reduceEqDiff, decide_true, decide_false, not_true_eq_false, not_false_eq_true, Bool.not_true, Bool.not_false, *]; done) | fail)) (by subst_vars; decide) ?_) | fail)
              refine OpsK.one rfl (by kernel_rfl) ?_
              repeat (first | (refine OpsL.nil ?_; ((repeat (first | refine blockExit_eq ?_ | refine blockExit_ne (by decide) ?_ | refine blockExit_normal ?_ | refine blockExit_ret ?_ | refine blockExit_goto ?_)); first | (change Trip _ _ _ _ _) | dsimp only | skip)) | (refine OpsL.skipped (by exact rfl) (by (first | (simp only [ASt.ev, tmPut, ↓reduceIte, reduceIte, Nat.reduceEqDiff, decide_true, decide_false, not_true_eq_false, not_false_eq_true, Bool.not_true, Bool.not_false, *]; done) | fail)) (by subst_vars; decide) ?_) | fail)
              refine OpsK.one rfl (by kernel_rfl) ?_
              repeat (first | (refine OpsL.p (by subst_vars; decide) (by (first | (exact aop_pickF (by (first | (simp only [ASt.ev, tmPut, ↓reduceIte, reduceIte, Nat.reduceEqDiff, decide_true, decide_false, not_true_eq_false, not_false_eq_true, Bool.not_true, Bool.not_false, *]; done) | fail)) (by (first | (simp only [ASt.ev, tmPut, ↓reduceIte, reduceIte, Nat.reduceEqDiff, plain1, *]; rfl) | fail))) | fail)) ?_) | (refine OpsL.nil ?_; ((repeat (first | refine blockExit_eq ?_ | refine blockExit_ne (by decide) ?_ | refine blockExit_normal ?_ | refine blockExit_ret ?_ | refine blockExit_goto ?_)); first | (change Trip _ _ _ _ _) | dsimp only | skip)) | fail)
              refine OpsK.nil ?_
              exact ⟨rfl, _, rfl, by simp [tmPut, *], by simp [tmPut, *], by simp [tmPut, *], by simp [tmPut, *], by simp [tmPut]⟩
            · clear e0 e3 e4 e5
              rintro e st ⟨rfl, tm', rfl, e0, e3, e4, e5, e27⟩
              ((repeat (first | refine blockExit_eq ?_ | refine blockExit_ne (by decide) ?_ | refine blockExit_normal ?_ | refine blockExit_ret ?_ | refine blockExit_goto ?_)); first | (change Trip _ _ _ _ _) | dsimp only | skip)
              repeat fail
              refine Trip.iteB (b := false) (by (first | (simp only [ASt.ev, tmPut, ↓reduceIte, reduceIte, Nat.reduceEqDiff, decide_true, decide_false, not_true_eq_false, not_false_eq_true, Bool.not_true, Bool.not_false, *]; done) | fail)) (fun h => absurd h (by decide)) (fun _ => ?_)
              repeat (first | (refine Trip.exit ?_; ((repeat (first | refine blockExit_eq ?_ | refine blockExit_ne (by decide) ?_ | refine blockExit_normal ?_ | refine blockExit_ret ?_ | refine blockExit_goto ?_)); first | (change Trip _ _ _ _ _) | dsimp only | skip)) | fail)
              exact ⟨rfl, _, 0, rfl, hk, hgt, .inl rfl, by simp [tmPut, *], by simp [tmPut, *], by simp [tmPut, *], by simp [tmPut, *]⟩
      · clear e0 e3 e4
        rintro e st ⟨rfl, tm', k, rfl, hk, hgt, hle, e0, e3, e4, e5⟩
        ((repeat (first | refine blockExit_eq ?_ | refine blockExit_ne (by decide) ?_ | refine blockExit_normal ?_ | refine blockExit_ret ?_ | refine blockExit_goto ?_)); first | (change Trip _ _ _ _ _) | dsimp only | skip)
        repeat (first | (refine Trip.seq ?_) | fail)
        refine Trip.mono (Q := fun e st => e = .normal ∧ ∃ (tm' : Nat → Value) (B : Bool), st = ⟨tm', n, H', nx'⟩ ∧ tm' 0 = .slice (some p) l.length vc ∧ tm' 3 = .slice ra r.length rc ∧ tm' 4 = .int .i64 i ∧ tm' 5 = .int .i64 k ∧ tm' 43 = .bool B ∧ (B = true → k = 0 ∨ ∃ h : k - 1 < r.length, r[k - 1] ≠ x) ∧ (B = false → x ∈ r)) ?_ ?_
        · by_cases hk0 : 0 < k
          · obtain ⟨q, rfl, g2⟩ := rows_prev hor hk0 hk
            replace g2 : cellAt H' ⟨q.block, q.off + ((k : Int) - 1).toNat * 1, q.spot⟩ (.int .i64 (r[k - 1]'(by omega))) := g2
            refine OpsK.drawn (K := fun _ _ => True) mixedP (by kernel_rfl) (by kernel_rfl) trivial ?_
            refine OpsK.one rfl (by kernel_rfl) ?_
            repeat (first | (refine OpsL.p (by subst_vars; decide) (by (first | (exact aop_move (by (first | (simp only [ASt.ev, tmPut, ↓reduceIte, reduceIte, Nat.reduceEqDiff, plain1, *]; rfl) | fail))) | fail)) ?_) | (refine OpsL.nil ?_; ((repeat (first | refine blockExit_eq ?_ | refine blockExit_ne (by decide) ?_ | refine blockExit_normal ?_ | refine blockExit_ret ?_ | refine blockExit_goto ?_)); first | (change Trip _ _ _ _ _) | dsimp only | skip)) | fail)
            refine OpsK.one rfl (by kernel_rfl) ?_
            refine OpsL.p (by subst_vars; decide) (aop_eqlF (by (first | (simp only [ASt.ev, tmPut, ↓reduceIte, reduceIte, Nat.reduceEqDiff, plain1, *]; rfl) | fail)) (by (first | (simp only [ASt.ev, tmPut, ↓reduceIte, reduceIte, Nat.reduceEqDiff, plain1, *]; rfl) | fail)) (by omega)) ?_
            repeat (first | (refine OpsL.nil ?_; ((repeat (first | refine blockExit_eq ?_ | refine blockExit_ne (by decide) ?_ | refine blockExit_normal ?_ | refine blockExit_ret ?_ | refine blockExit_goto ?_)); first | (change Trip _ _ _ _ _) | dsimp only | skip)) | fail)
            refine OpsK.one rfl (by kernel_rfl) ?_
            repeat (first | (refine OpsL.p (by subst_vars; decide) (by (first | (exact aop_move (by (first | (simp only [ASt.ev, tmPut, ↓reduceIte, reduceIte, Nat.reduceEqDiff, plain1, *]; rfl) | fail))) | fail)) ?_) | (refine OpsL.nil ?_; ((repeat (first | refine blockExit_eq ?_ | refine blockExit_ne (by decide) ?_ | refine blockExit_normal ?_ | refine blockExit_ret ?_ | refine blockExit_goto ?_)); first | (change Trip _ _ _ _ _) | dsimp only | skip)) | fail)
            refine OpsK.one rfl (by kernel_rfl) ?_
            repeat (first | (refine OpsL.p (by subst_vars; decide) (by (first | (exact aop_move (by (first | (simp only [ASt.ev, tmPut, ↓reduceIte, reduceIte, Nat.reduceEqDiff, plain1, *]; rfl) | fail))) | fail)) ?_) | (refine OpsL.nil ?_; ((repeat (first | refine blockExit_eq ?_ | refine blockExit_ne (by decide) ?_ | refine blockExit_normal ?_ | refine blockExit_ret ?_ | refine blockExit_goto ?_)); first | (change Trip _ _ _ _ _) | dsimp only | skip)) | (refine OpsL.unguard (by exact rfl) (by (first | (simp only [ASt.ev, tmPut, ↓reduceIte, reduceIte, Nat.reduceEqDiff, decide_true, decide_false, not_true_eq_false, not_false_eq_true, Bool.not_true, Bool.not_false, *]; done) | fail)) ?_) | fail)
            refine OpsK.one rfl (by kernel_rfl) ?_
            repeat (first | (refine OpsL.p (by subst_vars; decide) (by (first | (exact aop_move (by (first | (simp only [ASt.ev, tmPut, ↓reduceIte, reduceIte, Nat.reduceEqDiff, plain1, *]; rfl) | fail))) | fail)) ?_) | (refine OpsL.nil ?_; ((repeat (first | refine blockExit_eq ?_ | refine blockExit_ne (by decide) ?_ | refine blockExit_normal ?_ | refine blockExit_ret ?_ | refine blockExit_goto ?_)); first | (change Trip _ _ _ _ _) | dsimp only | skip)) | (refine OpsL.unguard (by exact rfl) (by (first | (simp only [ASt.ev, tmPut, ↓reduceIte, reduceIte, Nat.reduceEqDiff, decide_true, decide_false, not_true_eq_false, not_false_eq_true, Bool.not_true, Bool.not_false, *]; done) | fail)) ?_) | fail)
            refine OpsK.one rfl (by kernel_rfl) ?_
            repeat (first | (refine OpsL.p (by subst_vars; decide) (by (first | (exact aop_sub (by (first | (simp only [ASt.ev, tmPut, ↓reduceIte, reduceIte, Nat.reduceEqDiff, plain1, *]; rfl) | fail)) (by (first | (simp only [ASt.ev, tmPut, ↓reduceIte, reduceIte, Nat.reduceEqDiff, plain1, *]; rfl) | fail)) (by omega)) | fail)) ?_) | (refine OpsL.nil ?_; ((repeat (first | refine blockExit_eq ?_ | refine blockExit_ne (by decide) ?_ | refine blockExit_normal ?_ | refine blockExit_ret ?_ | refine blockExit_goto ?_)); first | (change Trip _ _ _ _ _) | dsimp only | skip)) | (refine OpsL.unguard (by exact rfl) (by (first | (simp only [ASt.ev, tmPut, ↓reduceIte, reduceIte, Nat.reduceEqDiff, decide_true, decide_false, not_true_eq_false, not_false_eq_true, Bool.not_true, Bool.not_false, *]; done) | fail)) ?_) | fail)
            refine OpsK.one rfl (by kernel_rfl) ?_
            repeat (first | (refine OpsL.p (by subst_vars; decide) (by (first | (exact aop_indexAddr (by (first | (simp only [ASt.ev, tmPut, ↓reduceIte, reduceIte, Nat.reduceEqDiff, plain1, *]; rfl) | fail)) (by (first | (simp only [ASt.ev, tmPut, ↓reduceIte, reduceIte, Nat.reduceEqDiff, plain1, *]; rfl) | fail)) (by exact rfl) (by exact rfl) (by omega) (by omega)) | fail)) ?_) | (refine OpsL.nil ?_; ((repeat (first | refine blockExit_eq ?_ | refine blockExit_ne (by decide) ?_ | refine blockExit_normal ?_ | refine blockExit_ret ?_ | refine blockExit_goto ?_)); first | (change Trip _ _ _ _ _) | dsimp only | skip)) | (refine OpsL.unguard (by exact rfl) (by (first | (simp only [ASt.ev, tmPut, ↓reduceIte, reduceIte, Nat.reduceEqDiff, decide_true, decide_false, not_true_eq_false, not_false_eq_true, Bool.not_true, Bool.not_false, *]; done) | fail)) ?_) | fail)
            refine OpsK.one rfl (by kernel_rfl) ?_
            repeat (first | (refine OpsL.p (by subst_vars; decide) (by (first | (exact aop_load (by (first | (simp only [ASt.ev, tmPut, ↓reduceIte, reduceIte, Nat.reduceEqDiff, plain1, *]; rfl) | fail)) (by exact rfl) rfl (by assumption)) | fail)) ?_) | (refine OpsL.nil ?_; ((repeat (first | refine blockExit_eq ?_ | refine blockExit_ne (by decide) ?_ | refine blockExit_normal ?_ | refine blockExit_ret ?_ | refine blockExit_goto ?_)); first | (change Trip _ _ _ _ _) | dsimp only | skip)) | (refine OpsL.unguard (by exact rfl) (by (first | (simp only [ASt.ev, tmPut, ↓reduceIte, reduceIte, Nat.reduceEqDiff, decide_true, decide_false, not_true_eq_false, not_false_eq_true, Bool.not_true, Bool.not_false, *]; done) | fail)) ?_) | fail)
            refine OpsK.one rfl (by kernel_rfl) ?_
            repeat (first | (refine OpsL.p (by subst_vars; decide) (by (first | (exact aop_move (by (first | (simp only [ASt.ev, tmPut, ↓reduceIte, reduceIte, Nat.reduceEqDiff, plain1, *]; rfl) | fail))) | fail)) ?_) | (refine OpsL.nil ?_; ((repeat (first | refine blockExit_eq ?_ | refine blockExit_ne (by decide) ?_ | refine blockExit_normal ?_ | refine blockExit_ret ?_ | refine blockExit_goto ?_)); first | (change Trip _ _ _ _ _) | dsimp only | skip)) | (refine OpsL.unguard (by exact rfl) (by (first | (simp only [ASt.ev, tmPut, ↓reduceIte, reduceIte, Nat.reduceEqDiff, decide_true, decide_false, not_true_eq_false, not_false_eq_true, Bool.not_true, Bool.not_false, *]; done) | fail)) ?_) | fail)
            refine OpsK.one rfl (by kernel_rfl) ?_
            repeat (first | (refine OpsL.p (by subst_vars; decide) (by (first | (exact aop_move (by (first | (simp only [ASt.ev, tmPut, ↓reduceIte, reduceIte, Nat.reduceEqDiff, plain1, *]; rfl) | fail))) | fail)) ?_) | (refine OpsL.nil ?_; ((repeat (first | refine blockExit_eq ?_ | refine blockExit_ne (by decide) ?_ | refine blockExit_normal ?_ | refine blockExit_ret ?_ | refine blockExit_goto ?_)); first | (change Trip _ _ _ _ _) | dsimp only | skip)) | (refine OpsL.unguard (by exact rfl) (by (first | (simp only [ASt.ev, tmPut, ↓reduceIte, reduceIte, Nat.reduceEqDiff, decide_true, decide_false, not_true_eq_false, not_false_eq_true, Bool.not_true, Bool.not_false, *]; done) | fail)) ?_) | fail)
            refine OpsK.one rfl (by kernel_rfl) ?_
            repeat (first | (refine OpsL.p (by subst_vars; decide) (by (first | (exact aop_indexAddr (by (first | (simp only [ASt.ev, tmPut, ↓reduceIte, reduceIte, Nat.reduceEqDiff, plain1, *]; rfl) | fail)) (by (first | (simp only [ASt.ev, tmPut, ↓reduceIte, reduceIte, Nat.reduceEqDiff, plain1, *]; rfl) | fail)) (by exact rfl) (by exact rfl) (by omega) (by omega)) | fail)) ?_) | (refine OpsL.nil ?_; ((repeat (first | refine blockExit_eq ?_ | refine blockExit_ne (by decide) ?_ | refine blockExit_normal ?_ | refine blockExit_ret ?_ | refine blockExit_goto ?_)); first | (change Trip _ _ _ _ _) | dsimp only | skip)) | (refine OpsL.unguard (by exact rfl) (by (first | (simp only [ASt.ev, tmPut, ↓reduceIte, reduceIte, Nat.reduceEqDiff, decide_true, decide_false, not_true_eq_false, not_false_eq_true, Bool.not_true, Bool.not_false, *]; done) | fail)) ?_) | fail)
            refine OpsK.one rfl (by kernel_rfl) ?_
            repeat (first | (refine OpsL.p (by subst_vars; decide) (by (first | (exact aop_load (by (first | (simp only [ASt.ev, tmPut, ↓reduceIte, reduceIte, Nat.reduceEqDiff, plain1, *]; rfl) | fail)) (by exact rfl) rfl (by assumption)) | fail)) ?_) | (refine OpsL.nil ?_; ((repeat (first | refine blockExit_eq ?_ | refine blockExit_ne (by decide) ?_ | refine blockExit_normal ?_ | refine blockExit_ret ?_ | refine blockExit_goto ?_)); first | (change Trip _ _ _ _ _) | dsimp only | skip)) | (refine OpsL.unguard (by exact rfl) (by (first | (simp only [ASt.ev, tmPut, ↓reduceIte, reduceIte, Nat.reduceEqDiff, decide_true, decide_false, not_true_eq_false, not_false_eq_true, Bool.not_true, Bool.not_false, *]; done) | fail)) ?_) | fail)
            refine OpsK.one rfl (by kernel_rfl) ?_
            repeat (first | (refine OpsL.unguard (by exact rfl) (by (first | (simp only [ASt.ev, tmPut, ↓reduceIte, reduceIte, Nat.reduceEqDiff, decide_true, decide_false, not_true_eq_false, not_false_eq_true, Bool.not_true, Bool.not_false, *]; done) | fail)) ?_) | fail)
            refine OpsL.p (by subst_vars; decide) (aop_neq (by (first | (simp only [ASt.ev, tmPut, ↓reduceIte, reduceIte, Nat.reduceEqDiff, plain1, *]; rfl) | fail)) (by (first | (simp only [ASt.ev, tmPut, ↓reduceIte, reduceIte, Nat.reduceEqDiff, plain1, *]; rfl) | fail))) ?_
            repeat (first | (refine OpsL.nil ?_; ((repeat (first | refine blockExit_eq ?_ | refine blockExit_ne (by decide) ?_ | refine blockExit_normal ?_ | refine blockExit_ret ?_ | refine blockExit_goto ?_)); first | (change Trip _ _ _ _ _) | dsimp only | skip)) | fail)
            refine OpsK.one rfl (by kernel_rfl) ?_
            repeat (first | (refine OpsL.p (by subst_vars; decide) (by (first | (exact aop_pickF (by (first | (simp only [ASt.ev, tmPut, ↓reduceIte, reduceIte, Nat.reduceEqDiff, decide_true, decide_false, not_true_eq_false, not_false_eq_true, Bool.not_true, Bool.not_false, *]; done) | fail)) (by (first | (simp only [ASt.ev, tmPut, ↓reduceIte, reduceIte, Nat.reduceEqDiff, plain1, *]; rfl) | fail))) | fail)) ?_) | (refine OpsL.nil ?_; ((repeat (first | refine blockExit_eq ?_ | refine blockExit_ne (by decide) ?_ | refine blockExit_normal ?_ | refine blockExit_ret ?_ | refine blockExit_goto ?_)); first | (change Trip _ _ _ _ _) | dsimp only | skip)) | fail)
            refine OpsK.nil ?_
            refine ⟨rfl, _, decide (r[k - 1]'(by omega) ≠ x), rfl, by simp [tmPut, *], by simp [tmPut, *], by simp [tmPut, *], by simp [tmPut, *], by simp [tmPut], fun h => .inr ⟨by omega, by simpa using h⟩, fun h => ?_⟩
            have : r[k - 1]'(by omega) = x := by simpa using h
            rw [← this]
            exact List.getElem_mem _
          · have hk00 : k = 0 := by omega
            subst hk00
            refine OpsK.drawn (K := fun _ _ => True) mixedP (by kernel_rfl) (by kernel_rfl) trivial ?_
            refine OpsK.one rfl (by kernel_rfl) ?_
            repeat (first | (refine OpsL.p (by subst_vars; decide) (by (first | (exact aop_move (by (first | (simp only [ASt.ev, tmPut, ↓reduceIte, reduceIte, Nat.reduceEqDiff, plain1, *]; rfl) | fail))) | fail)) ?_) | (refine OpsL.nil ?_; ((repeat (first | refine blockExit_eq ?_ | refine blockExit_ne (by decide) ?_ | refine blockExit_normal ?_ | refine blockExit_ret ?_ | refine blockExit_goto ?_)); first | (change Trip _ _ _ _ _) | dsimp only | skip)) | fail)
            refine OpsK.one rfl (by kernel_rfl) ?_
            refine OpsL.p (by subst_vars; decide) (aop_eqlT (by (first | (simp only [ASt.ev, tmPut, ↓reduceIte, reduceIte, Nat.reduceEqDiff, plain1, *]; rfl) | fail)) (by (first | (simp only [ASt.ev, tmPut, ↓reduceIte, reduceIte, Nat.reduceEqDiff, plain1, *]; rfl) | fail)) (by omega)) ?_
            repeat (first | (refine OpsL.nil ?_; ((repeat (first | refine blockExit_eq ?_ | refine blockExit_ne (by decide) ?_ | refine blockExit_normal ?_ | refine blockExit_ret ?_ | refine blockExit_goto ?_)); first | (change Trip _ _ _ _ _) | dsimp only | skip)) | fail)
            refine OpsK.one rfl (by kernel_rfl) ?_
            repeat (first | (refine OpsL.p (by subst_vars; decide) (by (first | (exact aop_move (by (first | (simp only [ASt.ev, tmPut, ↓reduceIte, reduceIte, Nat.reduceEqDiff, plain1, *]; rfl) | fail))) | fail)) ?_) | (refine OpsL.nil ?_; ((repeat (first | refine blockExit_eq ?_ | refine blockExit_ne (by decide) ?_ | refine blockExit_normal ?_ | refine blockExit_ret ?_ | refine blockExit_goto ?_)); first | (change Trip _ _ _ _ _) | dsimp only | skip)) | fail)
            refine OpsK.one rfl (by kernel_rfl) ?_
            repeat (first | (refine OpsL.nil ?_; ((repeat (first | refine blockExit_eq ?_ | refine blockExit_ne (by decide) ?_ | refine blockExit_normal ?_ | refine blockExit_ret ?_ | refine blockExit_goto ?_)); first | (change Trip _ _ _ _ _) | dsimp only | skip)) | (refine OpsL.skipped (by exact rfl) (by (first | (simp only [ASt.ev, tmPut, ↓reduceIte, reduceIte, Nat.reduceEqDiff, decide_true, decide_false, not_true_eq_false, not_false_eq_true, Bool.not_true, Bool.not_false, *]; done) | fail)) (by subst_vars; decide) ?_) | fail)
            refine OpsK.one rfl (by kernel_rfl) ?_
            repeat (first | (refine OpsL.nil ?_; ((repeat (first | refine blockExit_eq ?_ | refine blockExit_ne (by decide) ?_ | refine blockExit_normal ?_ | refine blockExit_ret ?_ | refine blockExit_goto ?_)); first | (change Trip _ _ _ _ _) | dsimp only | skip)) | (refine OpsL.skipped (by exact rfl) (by (first | (simp only [ASt.ev, tmPut, ↓reduceIte, reduceIte, Nat.reduceEqDiff, decide_true, decide_false, not_true_eq_false, not_false_eq_true, Bool.not_true, Bool.not_false, *]; done) | fail)) (by subst_vars; decide) ?_) | fail)
            refine OpsK.one rfl (by kernel_rfl) ?_
            repeat (first | (refine OpsL.nil ?_; ((repeat (first | refine blockExit_eq ?_ | refine blockExit_ne (by decide) ?_ | refine blockExit_normal ?_ | refine blockExit_ret ?_ | refine blockExit_goto ?_)); first | (change Trip _ _ _ _ _) | dsimp only | skip)) | (refine OpsL.skipped (by exact rfl) (by (first | (simp only [ASt.ev, tmPut, ↓reduceIte, reduceIte, Nat.reduceEqDiff, decide_true, decide_false, not_true_eq_false, not_false_eq_true, Bool.not_true, Bool.not_false, *]; done) | fail)) (by subst_vars; decide) ?_) | fail)
            refine OpsK.one rfl (by kernel_rfl) ?_
            repeat (first | (refine OpsL.nil ?_; ((repeat (first | refine blockExit_eq ?_ | refine blockExit_ne (by decide) ?_ | refine blockExit_normal ?_ | refine blockExit_ret ?_ | refine blockExit_goto ?_)); first | (change Trip _ _ _ _ _) | dsimp only | skip)) | (refine OpsL.skipped (by exact rfl) (by (first | (simp only [ASt.ev, tmPut, ↓reduceIte, reduceIte, Nat.reduceEqDiff, decide_true, decide_false, not_true_eq_false, not_false_eq_true, Bool.not_true, Bool.not_false, *]; done) | fail)) (by subst_vars; decide) ?_) | fail)
            refine OpsK.one rfl (by kernel_rfl) ?_
            repeat (first | (refine OpsL.nil ?_; ((repeat (first | refine blockExit_eq ?_ | refine blockExit_ne (by decide) ?_ | refine blockExit_normal ?_ | refine blockExit_ret ?_ | refine blockExit_goto ?_)); first | (change Trip _ _ _ _ _) | dsimp only | skip)) | (refine OpsL.skipped (by exact rfl) (by (first | (simp only [ASt.ev, tmPut, ↓reduceIte, reduceIte, Nat.reduceEqDiff, decide_true, decide_false, not_true_eq_false, not_false_eq_true, Bool.not_true, Bool.not_false, *]; done) | fail)) (by subst_vars; decide) ?_) | fail)
            refine OpsK.one rfl (by kernel_rfl) ?_
            repeat (first | (refine OpsL.nil ?_; ((repeat (first | refine blockExit_eq ?_ | refine blockExit_ne (by decide) ?_ | refine blockExit_normal ?_ | refine blockExit_ret ?_ | refine blockExit_goto ?_)); first | (change Trip _ _ _ _ _) | dsimp only | skip)) | (refine OpsL.skipped (by exact rfl) (by (first | (simp only [ASt.ev, tmPut, ↓reduceIte, reduceIte, Nat.reduceEqDiff, decide_true, decide_false, not_true_eq_false, not_false_eq_true, Bool.not_true, Bool.not_false, *]; done) | fail)) (by subst_vars; decide) ?_) | fail)
            refine OpsK.one rfl (by kernel_rfl) ?_
            repeat (first | (refine OpsL.nil ?_; ((repeat (first | refine blockExit_eq ?_ | refine blockExit_ne (by decide) ?_ | refine blockExit_normal ?_ | refine blockExit_ret ?_ | refine blockExit_goto ?_)); first | (change Trip _ _ _ _ _) | dsimp only | skip)) | (refine OpsL.skipped (by exact rfl) (by (first | (simp only [ASt.ev, tmPut, ↓reduceIte, reduceIte, Nat.reduceEqDiff, decide_true, decide_false, not_true_eq_false, not_false_eq_true, Bool.not_true, Bool.not_false, *]; done) | fail)) (by subst_vars; decide) ?_) | fail)
            refine OpsK.one rfl (by kernel_rfl) ?_
            repeat (first | (refine OpsL.nil ?_; ((repeat (first | refine blockExit_eq ?_ | refine blockExit_ne (by decide) ?_ | refine blockExit_normal ?_ | refine blockExit_ret ?_ | refine blockExit_goto ?_)); first | (change Trip _ _ _ _ _) | dsimp only | skip)) | (refine OpsL.skipped (by exact rfl) (by (first | (simp only [ASt.ev, tmPut, ↓reduceIte, reduceIte, Nat.reduceEqDiff, decide_true, decide_false, not_true_eq_false, not_false_eq_true, Bool.not_true, Bool.not_false, *]; done) | fail)) (by subst_vars; decide) ?_) | fail)
            refine OpsK.one rfl (by kernel_rfl) ?_
            repeat (first | (refine OpsL.nil ?_; ((repeat (first | refine blockExit_eq ?_ | refine blockExit_ne (by decide) ?_ | refine blockExit_normal ?_ | refine blockExit_ret ?_ | refine blockExit_goto ?_)); first | (change Trip _ _ _ _ _) | dsimp only | skip)) | (refine OpsL.skipped (by exact rfl) (by (first | (simp only [ASt.ev, tmPut, ↓reduceIte, reduceIte, Nat.reduceEqDiff, decide_true, decide_false, not_true_eq_false, not_false_eq_true, Bool.not_true, Bool.not_false, *]; done) | fail)) (by subst_vars; decide) ?_) | fail)
            refine OpsK.one rfl (by kernel_rfl) ?_
            repeat (first | (refine OpsL.nil ?_; ((repeat (first | refine blockExit_eq ?_ | refine blockExit_ne (by decide) ?_ | refine blockExit_normal ?_ | refine blockExit_ret ?_ | refine blockExit_goto ?_)); first | (change Trip _ _ _ _ _) | dsimp only | skip)) | (refine OpsL.skipped (by exact rfl) (by (first | (simp only [ASt.ev, tmPut, ↓reduceIte, reduceIte, Nat.reduceEqDiff, decide_true, decide_false, not_true_eq_false, not_false_eq_true, Bool.not_true, Bool.not_false, *]; done) | fail)) (by subst_vars; decide) ?_) | fail)
            refine OpsK.one rfl (by kernel_rfl) ?_
            repeat (first | (refine OpsL.p (by subst_vars; decide) (by (first | (exact aop_pickT (by (first | (simp only [ASt.ev, tmPut, ↓reduceIte, reduceIte, Nat.reduceEqDiff, decide_true, decide_false, not_true_eq_false, not_false_eq_true, Bool.not_true, Bool.not_false, *]; done) | fail)) (by (first | (simp only [ASt.ev, tmPut, ↓reduceIte, reduceIte, Nat.reduceEqDiff, plain1, *]; rfl) | fail))) | fail)) ?_) | (refine OpsL.nil ?_; ((repeat (first | refine blockExit_eq ?_ | refine blockExit_ne (by decide) ?_ | refine blockExit_normal ?_ | refine blockExit_ret ?_ | refine blockExit_goto ?_)); first | (change Trip _ _ _ _ _) | dsimp only | skip)) | fail)
            refine OpsK.nil ?_
            exact ⟨rfl, _, true, rfl, by simp [tmPut, *], by simp [tmPut, *], by simp [tmPut, *], by simp [tmPut, *], by simp [tmPut], fun h => .inl rfl, fun h => (by cases h)⟩
        · clear e0 e3 e4 e5
          rintro e st ⟨rfl, tm', B, rfl, e0, e3, e4, e5, e43, hB1, hB2⟩
          ((repeat (first | refine blockExit_eq ?_ | refine blockExit_ne (by decide) ?_ | refine blockExit_normal ?_ | refine blockExit_ret ?_ | refine blockExit_goto ?_)); first | (change Trip _ _ _ _ _) | dsimp only | skip)
          cases B with
          | false =>
            have hxr := hB2 rfl
            repeat fail
            refine Trip.iteB (b := false) (by (first | (simp only [ASt.ev, tmPut, ↓reduceIte, reduceIte, Nat.reduceEqDiff, decide_true, decide_false, not_true_eq_false, not_false_eq_true, Bool.not_true, Bool.not_false, *]; done) | fail)) (fun h => absurd h (by decide)) (fun _ => ?_)
            repeat (first | (refine OpsL.p (by subst_vars; decide) (by (first | (exact aop_move (by (first | (simp only [ASt.ev, tmPut, ↓reduceIte, reduceIte, Nat.reduceEqDiff, plain1, *]; rfl) | fail))) | (exact aop_assign (by (first | (simp only [ASt.ev, tmPut, ↓reduceIte, reduceIte, Nat.reduceEqDiff, plain1, *]; rfl) | fail))) | (exact aop_add (by (first | (simp only [ASt.ev, tmPut, ↓reduceIte, reduceIte, Nat.reduceEqDiff, plain1, *]; rfl) | fail)) (by (first | (simp only [ASt.ev, tmPut, ↓reduceIte, reduceIte, Nat.reduceEqDiff, plain1, *]; rfl) | fail)) (by omega)) | fail)) ?_) | (refine Trip.ops ?_) | (refine Trip.skip ?_; ((repeat (first | refine blockExit_eq ?_ | refine blockExit_ne (by decide) ?_ | refine blockExit_normal ?_ | refine blockExit_ret ?_ | refine blockExit_goto ?_)); first | (change Trip _ _ _ _ _) | dsimp only | skip)) | (refine OpsL.nil ?_; ((repeat (first | refine blockExit_eq ?_ | refine blockExit_ne (by decide) ?_ | refine blockExit_normal ?_ | refine blockExit_ret ?_ | refine blockExit_goto ?_)); first | (change Trip _ _ _ _ _) | dsimp only | skip)) | fail)
            refine ⟨i + 1, ⟨_, nx', H', ob, _, r, rfl, ⟨hx, hob⟩, hown, hst, fun y => ?_, by omega, by simp [tmPut, *], by simp [tmPut, *], by simp [tmPut, *], by omega⟩, by omega⟩
            rw [hmt]
            constructor
            · exact .inl
            · rintro (h | h)
              · exact h
              · rw [h]; exact hxr
          | true =>
            have hfront : k = 0 ∨ ∃ h : k - 1 < r.length, ltI r[k - 1] x := by
              rcases hB1 rfl with h | ⟨h, hne⟩
              · exact .inl h
              · rcases hle with h0 | ⟨h0, h1, h2⟩
                · exact .inl h0
                · refine .inr ⟨h0, ?_⟩
                  by_cases h3 : ltI r[k - 1] x
                  · exact h3
                  · exact absurd (ltI_total h3 h2) hne
            obtain ⟨⟨v1, hv1, p1⟩, ⟨v2, hv2, p2⟩⟩ := own_partsI hown hk
            have hrb' : ∀ q, ra = some q → q.block < nx' := fun q e => hrb q rc r.length (by rw [e])
            repeat fail
            refine Trip.iteB (b := true) (by (first | (simp only [ASt.ev, tmPut, ↓reduceIte, reduceIte, Nat.reduceEqDiff, decide_true, decide_false, not_true_eq_false, not_false_eq_true, Bool.not_true, Bool.not_false, *]; done) | fail)) (fun _ => ?_) (fun h => absurd h (by decide))
            repeat fail
            refine Trip.mono (Q := fun e st => e = .normal ∧ ∃ (tm' : Nat → Value) (nx5 : Nat) (H5 : Heap) (ob5 : Option (Nat × Nat)) (v5 : Value), st = ⟨tm', n, H5, nx5⟩ ∧ Ext nx' H' nx5 H5 ∧ OwnNums H5 ob5 v5 (r.take k ++ x :: r.drop k) ∧ (∀ b t, ob5 = some (b, t) → nx' ≤ b ∧ b < nx5) ∧ tm' 0 = .slice (some p) l.length vc ∧ tm' 3 = v5 ∧ tm' 4 = .int .i64 i) ?_ ?_
            · refine OpsR.drawnW [0, 4, 9, 10, 14, 15] (K := fun nx1 H1 => Ext nx' H' nx1 H1) mixedP (by kernel_rfl) (by kernel_rfl) [1, 2, 3, 5, 6, 7, 8, 11, 12, 13, 0, 9, 4, 10, 14, 15] (by kernel_rfl) Ext.refl ?_
              refine OpsR.one rfl rfl rfl (by kernel_rfl) ?_
              repeat (first | (refine OpsL.p (by subst_vars; decide) (by (first | (exact aop_move (by (first | (simp only [ASt.ev, tmPut, ↓reduceIte, reduceIte, Nat.reduceEqDiff, plain1, *]; rfl) | fail))) | fail)) ?_) | (refine OpsL.nil ?_; ((repeat (first | refine blockExit_eq ?_ | refine blockExit_ne (by decide) ?_ | refine blockExit_normal ?_ | refine blockExit_ret ?_ | refine blockExit_goto ?_)); first | (change Trip _ _ _ _ _) | dsimp only | skip)) | fail)
              refine OpsR.one rfl rfl rfl (by kernel_rfl) ?_
              repeat (first | (refine OpsL.p (by subst_vars; decide) (by (first | (exact aop_move (by (first | (simp only [ASt.ev, tmPut, ↓reduceIte, reduceIte, Nat.reduceEqDiff, plain1, *]; rfl) | fail))) | fail)) ?_) | (refine OpsL.nil ?_; ((repeat (first | refine blockExit_eq ?_ | refine blockExit_ne (by decide) ?_ | refine blockExit_normal ?_ | refine blockExit_ret ?_ | refine blockExit_goto ?_)); first | (change Trip _ _ _ _ _) | dsimp only | skip)) | fail)
              refine OpsR.sp (v := v1) rfl (by kernel_rfl) (by subst_vars; decide) Ext.refl (fun H2 nx2 hK => aop_slice (r := v1) (a := none) (b := some (.int .i64 k)) (c := none) (by (first | (simp only [ASt.ev, tmPut, ↓reduceIte, reduceIte, Nat.reduceEqDiff, plain1, *]; rfl) | fail)) rfl (by simp only [evOpt, ASt.ev, tmPut, ↓reduceIte, reduceIte, Option.some.injEq, Nat.reduceEqDiff, Option.map_some, *]) rfl (by rw [aSlice_told (fun q hq => hK.2 _ (hrb' q hq))]; exact hv1)) ?_
              refine OpsR.one rfl rfl rfl (by kernel_rfl) ?_
              repeat (first | (refine OpsL.p (by subst_vars; decide) (by (first | (exact aop_move (by (first | (simp only [ASt.ev, tmPut, ↓reduceIte, reduceIte, Nat.reduceEqDiff, plain1, *]; rfl) | fail))) | fail)) ?_) | (refine OpsL.nil ?_; ((repeat (first | refine blockExit_eq ?_ | refine blockExit_ne (by decide) ?_ | refine blockExit_normal ?_ | refine blockExit_ret ?_ | refine blockExit_goto ?_)); first | (change Trip _ _ _ _ _) | dsimp only | skip)) | fail)
              refine OpsR.one rfl rfl rfl (by kernel_rfl) ?_
              repeat (first | (refine OpsL.p (by subst_vars; decide) (by (first | (exact aop_move (by (first | (simp only [ASt.ev, tmPut, ↓reduceIte, reduceIte, Nat.reduceEqDiff, plain1, *]; rfl) | fail))) | fail)) ?_) | (refine OpsL.nil ?_; ((repeat (first | refine blockExit_eq ?_ | refine blockExit_ne (by decide) ?_ | refine blockExit_normal ?_ | refine blockExit_ret ?_ | refine blockExit_goto ?_)); first | (change Trip _ _ _ _ _) | dsimp only | skip)) | fail)
              refine OpsR.one rfl rfl rfl (by kernel_rfl) ?_
              repeat (first | (refine OpsL.p (by subst_vars; decide) (by (first | (exact aop_indexAddr (by (first | (simp only [ASt.ev, tmPut, ↓reduceIte, reduceIte, Nat.reduceEqDiff, plain1, *]; rfl) | fail)) (by (first | (simp only [ASt.ev, tmPut, ↓reduceIte, reduceIte, Nat.reduceEqDiff, plain1, *]; rfl) | fail)) (by exact rfl) (by exact rfl) (by omega) (by omega)) | fail)) ?_) | (refine OpsL.nil ?_; ((repeat (first | refine blockExit_eq ?_ | refine blockExit_ne (by decide) ?_ | refine blockExit_normal ?_ | refine blockExit_ret ?_ | refine blockExit_goto ?_)); first | (change Trip _ _ _ _ _) | dsimp only | skip)) | fail)
              refine OpsR.sp (v := .int .i64 x) rfl (by kernel_rfl) (by subst_vars; decide) Ext.refl (fun H2 nx2 hK => aop_load (by (first | (simp only [ASt.ev, tmPut, ↓reduceIte, reduceIte, Nat.reduceEqDiff, plain1, *]; rfl) | fail)) (by exact rfl) rfl (getc_ext hK hok' g1)) ?_
              refine OpsR.one rfl rfl rfl (by kernel_rfl) ?_
              repeat (first | (refine OpsL.p (by subst_vars; decide) (by (first | (exact aop_move (by (first | (simp only [ASt.ev, tmPut, ↓reduceIte, reduceIte, Nat.reduceEqDiff, plain1, *]; rfl) | fail))) | fail)) ?_) | (refine OpsL.nil ?_; ((repeat (first | refine blockExit_eq ?_ | refine blockExit_ne (by decide) ?_ | refine blockExit_normal ?_ | refine blockExit_ret ?_ | refine blockExit_goto ?_)); first | (change Trip _ _ _ _ _) | dsimp only | skip)) | fail)
              refine OpsR.one rfl rfl rfl (by kernel_rfl) ?_
              repeat (first | (refine OpsL.p (by subst_vars; decide) (by (first | (exact aop_move (by (first | (simp only [ASt.ev, tmPut, ↓reduceIte, reduceIte, Nat.reduceEqDiff, plain1, *]; rfl) | fail))) | fail)) ?_) | (refine OpsL.nil ?_; ((repeat (first | refine blockExit_eq ?_ | refine blockExit_ne (by decide) ?_ | refine blockExit_normal ?_ | refine blockExit_ret ?_ | refine blockExit_goto ?_)); first | (change Trip _ _ _ _ _) | dsimp only | skip)) | fail)
              refine OpsR.sp (v := v2) rfl (by kernel_rfl) (by subst_vars; decide) Ext.refl (fun H2 nx2 hK => aop_slice (r := v2) (a := some (.int .i64 k)) (b := none) (c := none) (by (first | (simp only [ASt.ev, tmPut, ↓reduceIte, reduceIte, Nat.reduceEqDiff, plain1, *]; rfl) | fail)) (by simp only [evOpt, ASt.ev, tmPut, ↓reduceIte, reduceIte, Option.some.injEq, Nat.reduceEqDiff, Option.map_some, *]) rfl rfl (by rw [aSlice_told (fun q hq => hK.2 _ (hrb' q hq))]; exact hv2)) ?_
              refine OpsR.act2 (by kernel_rfl) (ActStep.walk rfl rfl ?_) (ActStep.walk rfl rfl ?_)
              · skip
                refine OpsL.new (by subst_vars; decide) (aop_buildSlice (l := []) (r := (.slice (some ⟨nx', 0, none⟩) 0 0, .new (.cells [] 1 none false (some 3)))) (by simp only [evParts]) (by kernel_rfl)) ?_
                have xGA : Ext nx' H' (nx' + 1) ((H').put nx' (.cells [] 1 none false (some 3))) := Ext.newPut
                have kGA := ok_new (o := (.cells [] 1 none false (some 3))) hok'
                have hEGA : RowE encI 1 3 ((H').put nx' (.cells [] 1 none false (some 3))) none (.slice (some ⟨nx', 0, none⟩) 0 0) ([] : List Int) := .inr ⟨rfl, rfl, nx', 1, false, _, rfl, Heap.put_eq⟩
                generalize ((H').put nx' (.cells [] 1 none false (some 3))) = GA at *
                refine OpsL.nil ⟨xGA, ?_⟩
                refine OpsR.act2 (by kernel_rfl) (ActStep.walk rfl rfl ?_) (ActStep.walk rfl rfl ?_)
                · skip
                  refine OpsL.new (by subst_vars; decide) (aop_buildSlice (l := [(0, .int .i64 x)]) (r := (.slice (some ⟨(nx' + 1), 0, none⟩) 1 1, .new (.cells [.int .i64 x] 1 none false (some 3)))) (by simp only [evParts, ASt.ev, tmPut, ↓reduceIte, reduceIte, Option.some.injEq, Nat.reduceEqDiff, *]) (by kernel_rfl)) ?_
                  have xGB : Ext (nx' + 1) GA ((nx' + 1) + 1) ((GA).put (nx' + 1) (.cells [.int .i64 x] 1 none false (some 3))) := Ext.newPut
                  have kGB := ok_new (o := (.cells [.int .i64 x] 1 none false (some 3))) kGA
                  have hOGB : NumsIn ((GA).put (nx' + 1) (.cells [.int .i64 x] 1 none false (some 3))) (.slice (some ⟨(nx' + 1), 0, none⟩) 1 1) [x] := by
                    refine .inr ⟨⟨(nx' + 1), 0, none⟩, 1, rfl, fun j hj => ?_⟩
                    have : j = 0 := by simpa using hj
                    subst this
                    exact getc_own (by show 0 + 1 ≤ 1; decide)
                  generalize ((GA).put (nx' + 1) (.cells [.int .i64 x] 1 none false (some 3))) = GB at *
                  have xB := xGA.trans xGB
                  refine OpsL.nil ⟨xB, ?_⟩
                  refine OpsR.act (by kernel_rfl) (ActStep.walk rfl rfl ?_)
                  refine OpsL.appendE (bytes := 8) (z := [.int .i64 0]) encI_len encI_one (by omega) (by subst_vars; decide) (hEGA.same xGB kGA (fun b t h => by cases h)) (RowsAt.ext xB hok' p1) (by (first | (simp only [ASt.ev, tmPut, ↓reduceIte, reduceIte, Nat.reduceEqDiff, plain1, *]; done) | fail)) (by (first | (simp only [ASt.ev, tmPut, ↓reduceIte, reduceIte, Nat.reduceEqDiff, plain1, *]; done) | fail)) (fun b t h => by cases h) (by exact rfl) (by exact rfl) (by exact rfl) (by exact rfl) (by exact rfl) rfl (by simp; omega) (by omega) ?_
                  intro u7 nx7 H7 o7 hA7
                  have x7 : Ext nx' H' nx7 H7 := xB.trans ⟨hA7.le, fun i hi => hA7.same i hi (fun b t h => by cases h)⟩
                  have k7 := hA7.ok (fun b t h => by cases h) kGB
                  have hb7 : ∀ b t, o7 = some (b, t) → nx' ≤ b ∧ b < nx7 := fun b t h => by
                    obtain ⟨i1, i2⟩ := hA7.blk b t h
                    rcases i2 with rfl | ⟨t', h'⟩
                    · exact ⟨by omega, i1⟩
                    · cases h'
                  have hR7 := hA7.own
                  rw [List.nil_append] at hR7
                  have hO7 := RowsAt.ext (nx' := nx7) (H' := H7) ⟨hA7.le, fun i hi => hA7.same i hi (fun b t h => by cases h)⟩ kGB hOGB
                  refine OpsL.nil ⟨x7, ?_⟩
                  clear hv1 hv2 p1 hrb hrb' hor hown g1
                  refine OpsR.act (by kernel_rfl) (ActStep.walk rfl rfl ?_)
                  refine OpsL.appendE (bytes := 8) (z := [.int .i64 0]) encI_len encI_one (by omega) (by subst_vars; decide) hR7 hO7 (by (first | (simp only [ASt.ev, tmPut, ↓reduceIte, reduceIte, Nat.reduceEqDiff, plain1, *]; done) | fail)) (by (first | (simp only [ASt.ev, tmPut, ↓reduceIte, reduceIte, Nat.reduceEqDiff, plain1, *]; done) | fail)) (fun b t h => (hb7 b t h).2) (by exact rfl) (by exact rfl) (by exact rfl) (by exact rfl) (by exact rfl) rfl (by simp; omega) (by omega) ?_
                  intro u8 nx8 H8 o8 hA8
                  have x8 : Ext nx' H' nx8 H8 := ⟨by have := x7.1; have := hA8.le; omega, fun i hi => by rw [hA8.same i (by have := x7.1; omega) (fun b t h => by have := hb7 b t h; omega), x7.2 i hi]⟩
                  have k8 := hA8.ok (fun b t h => (hb7 b t h).2) k7
                  have hb8 : ∀ b t, o8 = some (b, t) → nx' ≤ b ∧ b < nx8 := fun b t h => by
                    obtain ⟨i1, i2⟩ := hA8.blk b t h
                    rcases i2 with rfl | ⟨t', h'⟩
                    · exact ⟨x7.1, i1⟩
                    · exact ⟨(hb7 _ _ h').1, i1⟩
                  refine OpsL.nil ⟨x8, ?_⟩
                  refine OpsR.act (by kernel_rfl) (ActStep.walk rfl rfl ?_)
                  refine OpsL.appendE (bytes := 8) (z := [.int .i64 0]) encI_len encI_one (by omega) (by subst_vars; decide) hA8.own (RowsAt.ext x8 hok' p2) (by (first | (simp only [ASt.ev, tmPut, ↓reduceIte, reduceIte, Nat.reduceEqDiff, plain1, *]; done) | fail)) (by (first | (simp only [ASt.ev, tmPut, ↓reduceIte, reduceIte, Nat.reduceEqDiff, plain1, *]; done) | fail)) (fun b t h => (hb8 b t h).2) (by exact rfl) (by exact rfl) (by exact rfl) (by exact rfl) (by exact rfl) rfl (by simp; omega) (by omega) ?_
                  intro u9 nx9 H9 o9 hA9
                  have x9 : Ext nx' H' nx9 H9 := ⟨by have := x8.1; have := hA9.le; omega, fun i hi => by rw [hA9.same i (by have := x8.1; omega) (fun b t h => by have := hb8 b t h; omega), x8.2 i hi]⟩
                  have hb9 : ∀ b t, o9 = some (b, t) → nx' ≤ b ∧ b < nx9 := fun b t h => by
                    obtain ⟨i1, i2⟩ := hA9.blk b t h
                    rcases i2 with rfl | ⟨t', h'⟩
                    · exact ⟨x8.1, i1⟩
                    · exact ⟨(hb8 _ _ h').1, i1⟩
                  have hown9 : OwnNums H9 o9 u9 (r.take k ++ x :: r.drop k) := by
                    have h := hA9.own
                    rw [List.append_assoc, List.singleton_append] at h
                    rcases h with h | ⟨_, h, _⟩
                    · exact h
                    · simp at h
                  refine OpsL.nil ⟨x9, ?_⟩
                  refine OpsR.act (by kernel_rfl) (ActStep.walk rfl rfl ?_)
                  repeat (first | (refine OpsL.p (by subst_vars; decide) (by (first | (exact aop_assign (by (first | (simp only [ASt.ev, tmPut, ↓reduceIte, reduceIte, Nat.reduceEqDiff, plain1, *]; rfl) | fail))) | fail)) ?_) | (refine OpsL.nil ?_; ((repeat (first | refine blockExit_eq ?_ | refine blockExit_ne (by decide) ?_ | refine blockExit_normal ?_ | refine blockExit_ret ?_ | refine blockExit_goto ?_)); first | (change Trip _ _ _ _ _) | dsimp only | skip)) | fail)
                  refine ⟨x9, ?_⟩
                  refine OpsR.nil ?_
                  exact ⟨rfl, _, nx9, H9, o9, u9, rfl, x9, hown9, hb9, by simp [tmPut, *], by simp [tmPut, *], by simp [tmPut, *]⟩
                · skip
                  refine OpsL.appendE (bytes := 8) (z := [.int .i64 0]) encI_len encI_one (by omega) (by subst_vars; decide) hEGA (RowsAt.ext xGA hok' p1) (by (first | (simp only [ASt.ev, tmPut, ↓reduceIte, reduceIte, Nat.reduceEqDiff, plain1, *]; done) | fail)) (by (first | (simp only [ASt.ev, tmPut, ↓reduceIte, reduceIte, Nat.reduceEqDiff, plain1, *]; done) | fail)) (fun b t h => by cases h) (by exact rfl) (by exact rfl) (by exact rfl) (by exact rfl) (by exact rfl) rfl (by simp; omega) (by omega) ?_
                  intro u6 nx6 H6 o6 hA6
                  have x6 : Ext nx' H' nx6 H6 := xGA.trans ⟨hA6.le, fun i hi => hA6.same i hi (fun b t h => by cases h)⟩
                  have k6 := hA6.ok (fun b t h => by cases h) kGA
                  have hb6 : ∀ b t, o6 = some (b, t) → nx' ≤ b ∧ b < nx6 := fun b t h => by
                    obtain ⟨i1, i2⟩ := hA6.blk b t h
                    rcases i2 with rfl | ⟨t', h'⟩
                    · exact ⟨by omega, i1⟩
                    · cases h'
                  have hR6 := hA6.own
                  rw [List.nil_append] at hR6
                  refine OpsL.nil ⟨x6, ?_⟩
                  refine OpsR.act (by kernel_rfl) (ActStep.walk rfl rfl ?_)
                  refine OpsL.new (by subst_vars; decide) (aop_buildSlice (l := [(0, .int .i64 x)]) (r := (.slice (some ⟨nx6, 0, none⟩) 1 1, .new (.cells [.int .i64 x] 1 none false (some 3)))) (by simp only [evParts, ASt.ev, tmPut, ↓reduceIte, reduceIte, Option.some.injEq, Nat.reduceEqDiff, *]) (by kernel_rfl)) ?_
                  have xH7 : Ext nx6 H6 (nx6 + 1) ((H6).put nx6 (.cells [.int .i64 x] 1 none false (some 3))) := Ext.newPut
                  have kH7 := ok_new (o := (.cells [.int .i64 x] 1 none false (some 3))) k6
                  have hOH7 : NumsIn ((H6).put nx6 (.cells [.int .i64 x] 1 none false (some 3))) (.slice (some ⟨nx6, 0, none⟩) 1 1) [x] := by
                    refine .inr ⟨⟨nx6, 0, none⟩, 1, rfl, fun j hj => ?_⟩
                    have : j = 0 := by simpa using hj
                    subst this
                    exact getc_own (by show 0 + 1 ≤ 1; decide)
                  generalize ((H6).put nx6 (.cells [.int .i64 x] 1 none false (some 3))) = H7 at *
                  obtain ⟨nx7, hnx7⟩ : ∃ m, m = nx6 + 1 := ⟨_, rfl⟩
                  rw [← hnx7] at xH7 kH7 ⊢
                  have x7 : Ext nx' H' nx7 H7 := x6.trans xH7
                  have k7 := kH7
                  have hO7 := hOH7
                  have hR7 := hR6.same xH7 k6 (fun b t h => (hb6 b t h).2)
                  have hb7 : ∀ b t, o6 = some (b, t) → nx' ≤ b ∧ b < nx7 := fun b t h => by have := hb6 b t h; omega
                  refine OpsL.nil ⟨x7, ?_⟩
                  clear hv1 hv2 p1 hrb hrb' hor hown g1
                  refine OpsR.act (by kernel_rfl) (ActStep.walk rfl rfl ?_)
                  refine OpsL.appendE (bytes := 8) (z := [.int .i64 0]) encI_len encI_one (by omega) (by subst_vars; decide) hR7 hO7 (by (first | (simp only [ASt.ev, tmPut, ↓reduceIte, reduceIte, Nat.reduceEqDiff, plain1, *]; done) | fail)) (by (first | (simp only [ASt.ev, tmPut, ↓reduceIte, reduceIte, Nat.reduceEqDiff, plain1, *]; done) | fail)) (fun b t h => (hb7 b t h).2) (by exact rfl) (by exact rfl) (by exact rfl) (by exact rfl) (by exact rfl) rfl (by simp; omega) (by omega) ?_
                  intro u8 nx8 H8 o8 hA8
                  have x8 : Ext nx' H' nx8 H8 := ⟨by have := x7.1; have := hA8.le; omega, fun i hi => by rw [hA8.same i (by have := x7.1; omega) (fun b t h => by have := hb7 b t h; omega), x7.2 i hi]⟩
                  have k8 := hA8.ok (fun b t h => (hb7 b t h).2) k7
                  have hb8 : ∀ b t, o8 = some (b, t) → nx' ≤ b ∧ b < nx8 := fun b t h => by
                    obtain ⟨i1, i2⟩ := hA8.blk b t h
                    rcases i2 with rfl | ⟨t', h'⟩
                    · exact ⟨x7.1, i1⟩
                    · exact ⟨(hb7 _ _ h').1, i1⟩
                  refine OpsL.nil ⟨x8, ?_⟩
                  refine OpsR.act (by kernel_rfl) (ActStep.walk rfl rfl ?_)
                  refine OpsL.appendE (bytes := 8) (z := [.int .i64 0]) encI_len encI_one (by omega) (by subst_vars; decide) hA8.own (RowsAt.ext x8 hok' p2) (by (first | (simp only [ASt.ev, tmPut, ↓reduceIte, reduceIte, Nat.reduceEqDiff, plain1, *]; done) | fail)) (by (first | (simp only [ASt.ev, tmPut, ↓reduceIte, reduceIte, Nat.reduceEqDiff, plain1, *]; done) | fail)) (fun b t h => (hb8 b t h).2) (by exact rfl) (by exact rfl) (by exact rfl) (by exact rfl) (by exact rfl) rfl (by simp; omega) (by omega) ?_
                  intro u9 nx9 H9 o9 hA9
                  have x9 : Ext nx' H' nx9 H9 := ⟨by have := x8.1; have := hA9.le; omega, fun i hi => by rw [hA9.same i (by have := x8.1; omega) (fun b t h => by have := hb8 b t h; omega), x8.2 i hi]⟩
                  have hb9 : ∀ b t, o9 = some (b, t) → nx' ≤ b ∧ b < nx9 := fun b t h => by
                    obtain ⟨i1, i2⟩ := hA9.blk b t h
                    rcases i2 with rfl | ⟨t', h'⟩
                    · exact ⟨x8.1, i1⟩
                    · exact ⟨(hb8 _ _ h').1, i1⟩
                  have hown9 : OwnNums H9 o9 u9 (r.take k ++ x :: r.drop k) := by
                    have h := hA9.own
                    rw [List.append_assoc, List.singleton_append] at h
                    rcases h with h | ⟨_, h, _⟩
                    · exact h
                    · simp at h
                  refine OpsL.nil ⟨x9, ?_⟩
                  refine OpsR.act (by kernel_rfl) (ActStep.walk rfl rfl ?_)
                  repeat (first | (refine OpsL.p (by subst_vars; decide) (by (first | (exact aop_assign (by (first | (simp only [ASt.ev, tmPut, ↓reduceIte, reduceIte, Nat.reduceEqDiff, plain1, *]; rfl) | fail))) | fail)) ?_) | (refine OpsL.nil ?_; ((repeat (first | refine blockExit_eq ?_ | refine blockExit_ne (by decide) ?_ | refine blockExit_normal ?_ | refine blockExit_ret ?_ | refine blockExit_goto ?_)); first | (change Trip _ _ _ _ _) | dsimp only | skip)) | fail)
                  refine ⟨x9, ?_⟩
                  refine OpsR.nil ?_
                  exact ⟨rfl, _, nx9, H9, o9, u9, rfl, x9, hown9, hb9, by simp [tmPut, *], by simp [tmPut, *], by simp [tmPut, *]⟩
              · skip
                refine OpsL.new (by subst_vars; decide) (aop_buildSlice (l := [(0, .int .i64 x)]) (r := (.slice (some ⟨nx', 0, none⟩) 1 1, .new (.cells [.int .i64 x] 1 none false (some 3)))) (by simp only [evParts, ASt.ev, tmPut, ↓reduceIte, reduceIte, Option.some.injEq, Nat.reduceEqDiff, *]) (by kernel_rfl)) ?_
                have xGA : Ext nx' H' (nx' + 1) ((H').put nx' (.cells [.int .i64 x] 1 none false (some 3))) := Ext.newPut
                have kGA := ok_new (o := (.cells [.int .i64 x] 1 none false (some 3))) hok'
                have hOGA : NumsIn ((H').put nx' (.cells [.int .i64 x] 1 none false (some 3))) (.slice (some ⟨nx', 0, none⟩) 1 1) [x] := by
                  refine .inr ⟨⟨nx', 0, none⟩, 1, rfl, fun j hj => ?_⟩
                  have : j = 0 := by simpa using hj
                  subst this
                  exact getc_own (by show 0 + 1 ≤ 1; decide)
                generalize ((H').put nx' (.cells [.int .i64 x] 1 none false (some 3))) = GA at *
                refine OpsL.nil ⟨xGA, ?_⟩
                refine OpsR.act (by kernel_rfl) (ActStep.walk rfl rfl ?_)
                refine OpsL.new (by subst_vars; decide) (aop_buildSlice (l := []) (r := (.slice (some ⟨(nx' + 1), 0, none⟩) 0 0, .new (.cells [] 1 none false (some 3)))) (by simp only [evParts]) (by kernel_rfl)) ?_
                have xGB : Ext (nx' + 1) GA ((nx' + 1) + 1) ((GA).put (nx' + 1) (.cells [] 1 none false (some 3))) := Ext.newPut
                have kGB := ok_new (o := (.cells [] 1 none false (some 3))) kGA
                have hEGB : RowE encI 1 3 ((GA).put (nx' + 1) (.cells [] 1 none false (some 3))) none (.slice (some ⟨(nx' + 1), 0, none⟩) 0 0) ([] : List Int) := .inr ⟨rfl, rfl, (nx' + 1), 1, false, _, rfl, Heap.put_eq⟩
                generalize ((GA).put (nx' + 1) (.cells [] 1 none false (some 3))) = GB at *
                have xB := xGA.trans xGB
                refine OpsL.nil ⟨xB, ?_⟩
                refine OpsR.act (by kernel_rfl) (ActStep.walk rfl rfl ?_)
                refine OpsL.appendE (bytes := 8) (z := [.int .i64 0]) encI_len encI_one (by omega) (by subst_vars; decide) hEGB (RowsAt.ext xB hok' p1) (by (first | (simp only [ASt.ev, tmPut, ↓reduceIte, reduceIte, Nat.reduceEqDiff, plain1, *]; done) | fail)) (by (first | (simp only [ASt.ev, tmPut, ↓reduceIte, reduceIte, Nat.reduceEqDiff, plain1, *]; done) | fail)) (fun b t h => by cases h) (by exact rfl) (by exact rfl) (by exact rfl) (by exact rfl) (by exact rfl) rfl (by simp; omega) (by omega) ?_
                intro u7 nx7 H7 o7 hA7
                have x7 : Ext nx' H' nx7 H7 := xB.trans ⟨hA7.le, fun i hi => hA7.same i hi (fun b t h => by cases h)⟩
                have k7 := hA7.ok (fun b t h => by cases h) kGB
                have hb7 : ∀ b t, o7 = some (b, t) → nx' ≤ b ∧ b < nx7 := fun b t h => by
                  obtain ⟨i1, i2⟩ := hA7.blk b t h
                  rcases i2 with rfl | ⟨t', h'⟩
                  · exact ⟨by omega, i1⟩
                  · cases h'
                have hR7 := hA7.own
                rw [List.nil_append] at hR7
                have hO7 := RowsAt.ext (nx' := nx7) (H' := H7) ⟨hA7.le, fun i hi => hA7.same i hi (fun b t h => by cases h)⟩ kGB (RowsAt.ext xGB kGA hOGA)
                refine OpsL.nil ⟨x7, ?_⟩
                clear hv1 hv2 p1 hrb hrb' hor hown g1
                refine OpsR.act (by kernel_rfl) (ActStep.walk rfl rfl ?_)
                refine OpsL.appendE (bytes := 8) (z := [.int .i64 0]) encI_len encI_one (by omega) (by subst_vars; decide) hR7 hO7 (by (first | (simp only [ASt.ev, tmPut, ↓reduceIte, reduceIte, Nat.reduceEqDiff, plain1, *]; done) | fail)) (by (first | (simp only [ASt.ev, tmPut, ↓reduceIte, reduceIte, Nat.reduceEqDiff, plain1, *]; done) | fail)) (fun b t h => (hb7 b t h).2) (by exact rfl) (by exact rfl) (by exact rfl) (by exact rfl) (by exact rfl) rfl (by simp; omega) (by omega) ?_
                intro u8 nx8 H8 o8 hA8
                have x8 : Ext nx' H' nx8 H8 := ⟨by have := x7.1; have := hA8.le; omega, fun i hi => by rw [hA8.same i (by have := x7.1; omega) (fun b t h => by have := hb7 b t h; omega), x7.2 i hi]⟩
                have k8 := hA8.ok (fun b t h => (hb7 b t h).2) k7
                have hb8 : ∀ b t, o8 = some (b, t) → nx' ≤ b ∧ b < nx8 := fun b t h => by
                  obtain ⟨i1, i2⟩ := hA8.blk b t h
                  rcases i2 with rfl | ⟨t', h'⟩
                  · exact ⟨x7.1, i1⟩
                  · exact ⟨(hb7 _ _ h').1, i1⟩
                refine OpsL.nil ⟨x8, ?_⟩
                refine OpsR.act (by kernel_rfl) (ActStep.walk rfl rfl ?_)
                refine OpsL.appendE (bytes := 8) (z := [.int .i64 0]) encI_len encI_one (by omega) (by subst_vars; decide) hA8.own (RowsAt.ext x8 hok' p2) (by (first | (simp only [ASt.ev, tmPut, ↓reduceIte, reduceIte, Nat.reduceEqDiff, plain1, *]; done) | fail)) (by (first | (simp only [ASt.ev, tmPut, ↓reduceIte, reduceIte, Nat.reduceEqDiff, plain1, *]; done) | fail)) (fun b t h => (hb8 b t h).2) (by exact rfl) (by exact rfl) (by exact rfl) (by exact rfl) (by exact rfl) rfl (by simp; omega) (by omega) ?_
                intro u9 nx9 H9 o9 hA9
                have x9 : Ext nx' H' nx9 H9 := ⟨by have := x8.1; have := hA9.le; omega, fun i hi => by rw [hA9.same i (by have := x8.1; omega) (fun b t h => by have := hb8 b t h; omega), x8.2 i hi]⟩
                have hb9 : ∀ b t, o9 = some (b, t) → nx' ≤ b ∧ b < nx9 := fun b t h => by
                  obtain ⟨i1, i2⟩ := hA9.blk b t h
                  rcases i2 with rfl | ⟨t', h'⟩
                  · exact ⟨x8.1, i1⟩
                  · exact ⟨(hb8 _ _ h').1, i1⟩
                have hown9 : OwnNums H9 o9 u9 (r.take k ++ x :: r.drop k) := by
                  have h := hA9.own
                  rw [List.append_assoc, List.singleton_append] at h
                  rcases h with h | ⟨_, h, _⟩
                  · exact h
                  · simp at h
                refine OpsL.nil ⟨x9, ?_⟩
                refine OpsR.act (by kernel_rfl) (ActStep.walk rfl rfl ?_)
                repeat (first | (refine OpsL.p (by subst_vars; decide) (by (first | (exact aop_assign (by (first | (simp only [ASt.ev, tmPut, ↓reduceIte, reduceIte, Nat.reduceEqDiff, plain1, *]; rfl) | fail))) | fail)) ?_) | (refine OpsL.nil ?_; ((repeat (first | refine blockExit_eq ?_ | refine blockExit_ne (by decide) ?_ | refine blockExit_normal ?_ | refine blockExit_ret ?_ | refine blockExit_goto ?_)); first | (change Trip _ _ _ _ _) | dsimp only | skip)) | fail)
                refine ⟨x9, ?_⟩
                refine OpsR.nil ?_
                exact ⟨rfl, _, nx9, H9, o9, u9, rfl, x9, hown9, hb9, by simp [tmPut, *], by simp [tmPut, *], by simp [tmPut, *]⟩
            · skip
              clear e0 e3 e4 e5 e43
              rintro e st ⟨rfl, tm', nx5, H5, ob5, v5, rfl, x5, hown5, hb5, e0, e3, e4⟩
              ((repeat (first | refine blockExit_eq ?_ | refine blockExit_ne (by decide) ?_ | refine blockExit_normal ?_ | refine blockExit_ret ?_ | refine blockExit_goto ?_)); first | (change Trip _ _ _ _ _) | dsimp only | skip)
              repeat (first | (refine OpsL.p (by subst_vars; decide) (by (first | (exact aop_move (by (first | (simp only [ASt.ev, tmPut, ↓reduceIte, reduceIte, Nat.reduceEqDiff, plain1, *]; rfl) | fail))) | (exact aop_assign (by (first | (simp only [ASt.ev, tmPut, ↓reduceIte, reduceIte, Nat.reduceEqDiff, plain1, *]; rfl) | fail))) | (exact aop_add (by (first | (simp only [ASt.ev, tmPut, ↓reduceIte, reduceIte, Nat.reduceEqDiff, plain1, *]; rfl) | fail)) (by (first | (simp only [ASt.ev, tmPut, ↓reduceIte, reduceIte, Nat.reduceEqDiff, plain1, *]; rfl) | fail)) (by omega)) | fail)) ?_) | (refine Trip.ops ?_) | (refine OpsL.nil ?_; ((repeat (first | refine blockExit_eq ?_ | refine blockExit_ne (by decide) ?_ | refine blockExit_normal ?_ | refine blockExit_ret ?_ | refine blockExit_goto ?_)); first | (change Trip _ _ _ _ _) | dsimp only | skip)) | fail)
              refine ⟨i + 1, ⟨_, nx5, H5, ob5, v5, r.take k ++ x :: r.drop k, rfl, ⟨hx.trans x5, fun b t h => by have := hb5 b t h; have := hx.1; omega⟩, hown5, ins_strictI hst hk hgt hfront, fun y => by rw [hmt, ins_memI], ?_, by simp [tmPut, *], by simp [tmPut, *], by simp [tmPut, *], by omega⟩, by omega⟩
              rw [List.length_append, List.length_cons, List.length_take, List.length_drop]
              omega
    · have hin : i = l.length := by omega
      subst hin
      rw [List.take_length] at hmem
      repeat (first | (refine OpsL.p (by subst_vars; decide) (by (first | (exact aop_move (by (first | (simp only [ASt.ev, tmPut, ↓reduceIte, reduceIte, Nat.reduceEqDiff, plain1, *]; rfl) | fail))) | (exact aop_len (by (first | (simp only [ASt.ev, tmPut, ↓reduceIte, reduceIte, Nat.reduceEqDiff, plain1, *]; rfl) | fail)) (by exact rfl)) | fail)) ?_) | (refine Trip.seq ?_) | (refine Trip.ops ?_) | fail)
      refine OpsL.p (by subst_vars; decide) (aop_lssF (by (first | (simp only [ASt.ev, tmPut, ↓reduceIte, reduceIte, Nat.reduceEqDiff, plain1, *]; rfl) | fail)) (by (first | (simp only [ASt.ev, tmPut, ↓reduceIte, reduceIte, Nat.reduceEqDiff, plain1, *]; rfl) | fail)) (by omega)) ?_
      repeat (first | (refine OpsL.nil ?_; ((repeat (first | refine blockExit_eq ?_ | refine blockExit_ne (by decide) ?_ | refine blockExit_normal ?_ | refine blockExit_ret ?_ | refine blockExit_goto ?_)); first | (change Trip _ _ _ _ _) | dsimp only | skip)) | fail)
      refine Trip.iteB (b := false) (by (first | (simp only [ASt.ev, tmPut, ↓reduceIte, reduceIte, Nat.reduceEqDiff, decide_true, decide_false, not_true_eq_false, not_false_eq_true, Bool.not_true, Bool.not_false, *]; done) | fail)) (fun h => absurd h (by decide)) (fun _ => ?_)
      repeat (first | (refine OpsL.p (by subst_vars; decide) (by (first | (exact aop_move (by (first | (simp only [ASt.ev, tmPut, ↓reduceIte, reduceIte, Nat.reduceEqDiff, plain1, *]; rfl) | fail))) | (exact aop_assign (by (first | (simp only [ASt.ev, tmPut, ↓reduceIte, reduceIte, Nat.reduceEqDiff, plain1, *]; rfl) | fail))) | fail)) ?_) | (refine Trip.seq ?_) | (refine Trip.ops ?_) | (refine Trip.exit ?_; ((repeat (first | refine blockExit_eq ?_ | refine blockExit_ne (by decide) ?_ | refine blockExit_normal ?_ | refine blockExit_ret ?_ | refine blockExit_goto ?_)); first | (change Trip _ _ _ _ _) | dsimp only | skip)) | (refine Trip.ret ?_; ((repeat (first | refine blockExit_eq ?_ | refine blockExit_ne (by decide) ?_ | refine blockExit_normal ?_ | refine blockExit_ret ?_ | refine blockExit_goto ?_)); first | (change Trip _ _ _ _ _) | dsimp only | skip)) | (refine OpsL.nil ?_; ((repeat (first | refine blockExit_eq ?_ | refine blockExit_ne (by decide) ?_ | refine blockExit_normal ?_ | refine blockExit_ret ?_ | refine blockExit_goto ?_)); first | (change Trip _ _ _ _ _) | dsimp only | skip)) | fail)
      exact ⟨.inr rfl, _, res_tmp, ob, r, hst, hmem, hrl, by simp [tmPut, *], hx, hob⟩

end Go.Proofs.Ytigincejpjajpaa
