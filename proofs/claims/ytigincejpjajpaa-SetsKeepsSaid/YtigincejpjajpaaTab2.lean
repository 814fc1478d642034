/-
  A table over trees: New, Len, Row, find.
-/
import Derived.Test.YtigincejpjajpaaLink2
namespace Go.Proofs.Ytigincejpjajpaa
set_option linter.unusedSimpArgs false
set_option linter.unusedVariables false
set_option maxRecDepth 20000
open Go.RowKit Go.Am
attribute [local irreducible] aop OpsL Trip blockExit OpsD OpsK OpsR

section
variable {H H' : Heap} {ob : Option (Nat × Nat)} {v : Value} {l d : List (Int × Int)}
theorem SufOf.at (h : SufOf H ob v l d) : PairsAt H v d := by
  cases ob with
  | none => obtain ⟨rfl, _, rfl⟩ := h; exact .inl ⟨0, rfl, rfl⟩
  | some bt =>
    obtain ⟨b, t⟩ := bt
    obtain ⟨k, sp, rest, h1, rfl, rfl, h4, h5⟩ := h
    refine .inr ⟨⟨b, k * 2, sp⟩, l.length - k, by rw [List.length_drop], fun i hi => ?_⟩
    rw [List.length_drop] at hi
    have hk : k < l.length := by omega
    have hsp := h4 hk
    subst hsp
    have := getc_flat (i := k + i) encP_len h5 (by omega)
    rw [List.getElem_drop]
    show getc H ⟨b, k * 2 + i * 2, some t⟩ 2 = _
    rw [show k * 2 + i * 2 = 0 + (k + i) * 2 by omega]
    exact this
theorem SufOf.blk {p : Addr} {n c : Nat} (h : SufOf H ob (.slice (some p) n c) l d) : ∃ t, ob = some (p.block, t) := by
  cases ob with
  | none => obtain ⟨h, _⟩ := h; cases h
  | some bt =>
    obtain ⟨b, t⟩ := bt
    obtain ⟨k, sp, rest, _, _, h3, _⟩ := h
    cases h3
    exact ⟨t, rfl⟩
theorem SufOf.take {m : Nat} (h : SufOf H ob v l d) (h0 : 0 < m) (hm : m ≤ d.length) : ∃ r, aSlice Try.prog H 24 v none (some (.int .i64 m)) none = some r ∧ PairsAt H r (d.take m) := by
  have hat := h.at
  cases ob with
  | none => obtain ⟨_, _, rfl⟩ := h; simp at hm; omega
  | some bt =>
    obtain ⟨b, t⟩ := bt
    obtain ⟨k, sp, rest, h1, rfl, rfl, h4, h5⟩ := h
    rw [List.length_drop] at hm
    have hk : k < l.length := by omega
    have hsp := h4 hk
    subst hsp
    have hs := aSlice_tagged (P := Try.prog) (H := H) (t := 24) (el := 27) (sz := 2) (a := ⟨b, k * 2, some t⟩) (len := l.length - k) (cap := l.length - k) (l := 0) (h := m) (tg := t) (lo := none) (hi := some (.int .i64 m)) (by exact rfl) (by exact rfl) h5 rfl rfl rfl (.inl ⟨rfl, rfl⟩) (.inr ⟨.i64, rfl⟩) (Nat.zero_le _) hm
    refine ⟨_, hs, .inr ⟨⟨b, k * 2 + 0 * 2, some t⟩, m - 0, ?_, fun i hi => ?_⟩⟩
    · rw [if_neg (by omega), List.length_take, List.length_drop, Nat.min_eq_left hm, Nat.sub_zero]
    · rw [List.length_take, List.length_drop] at hi
      rw [List.getElem_take, List.getElem_drop]
      have := getc_flat (i := k + i) encP_len h5 (by omega)
      show getc H ⟨b, k * 2 + 0 * 2 + i * 2, some t⟩ 2 = _
      rw [show k * 2 + 0 * 2 + i * 2 = 0 + (k + i) * 2 by omega]
      exact this
theorem SufOf.drop {m : Nat} (h : SufOf H ob v l d) (h0 : 0 < m) (hm : m ≤ d.length) : ∃ r, aSlice Try.prog H 24 v (some (.int .i64 m)) none none = some r ∧ SufOf H ob r l (d.drop m) := by
  cases ob with
  | none => obtain ⟨_, _, rfl⟩ := h; simp at hm; omega
  | some bt =>
    obtain ⟨b, t⟩ := bt
    obtain ⟨k, sp, rest, h1, rfl, rfl, h4, h5⟩ := h
    rw [List.length_drop] at hm
    have hk : k < l.length := by omega
    have hsp := h4 hk
    subst hsp
    refine ⟨_, aSlice_tagged (el := 27) (sz := 2) (a := ⟨b, k * 2, some t⟩) (len := l.length - k) (cap := l.length - k) (l := m) (h := l.length - k) (tg := t) (lo := some (.int .i64 m)) (hi := none) (by exact rfl) (by exact rfl) h5 rfl rfl rfl (.inr ⟨.i64, rfl⟩) (.inl ⟨rfl, rfl⟩) hm (Nat.le_refl _), ?_⟩
    refine ⟨k + m, if m = l.length - k ∧ 0 < m then none else some t, rest, by omega, by rw [List.drop_drop], ?_, fun hlt => ?_, h5⟩
    · rw [Nat.add_mul, Nat.sub_sub]
    · rw [if_neg (by omega)]
end

theorem entersClone : Am.Enters Try.prog 46 := ⟨Try.f46, Try.func46, by kernel_rfl, by kernel_rfl⟩

/-- A row that is new, whole. -/
def NewRow (nx : Nat) (H : Heap) (nx' : Nat) (H' : Heap) (v : Value) (l : List (Int × Int)) : Prop :=
  Ext nx H nx' H' ∧ PairsAt H' v l ∧ ∀ a n c, v = .slice (some a) n c → nx ≤ a.block ∧ a.block < nx'

set_option maxHeartbeats 4000000 in
theorem cloneC (W0 : World) {nx : Nat} {H : Heap} {v : Value} {l : List (Int × Int)} (hr : PairsAt H v l) (hl : l.length ≤ 100000) :
    ACalls Try.prog W0 46 [v] nx H fun v' nx' H' => NewRow nx H nx' H' v' l := by
  obtain ⟨va, vc, rfl⟩ := hr.slice
  refine ACalls.by_trip (fn := Try.f46) (c := _) Try.func46 rfl (fun tm n hn0 htm => ?_)
  have e0 : tm 0 = .slice va l.length vc := htm 0
  clear htm
  replace hn0 : n = 8 := hn0
  refine Trip.ok fun hok => ?_
  replace hok : ∀ id o, H id = some o → id < nx := hok
  repeat (first | (refine OpsL.p (by subst_vars; decide) (by (first | (exact aop_move (by (first | (simp only [ASt.ev, tmPut, ↓reduceIte, reduceIte, Nat.reduceEqDiff, plain1, *]; rfl) | fail))) | (exact aop_assign (by (first | (simp only [ASt.ev, tmPut, ↓reduceIte, reduceIte, Nat.reduceEqDiff, plain1, *]; rfl) | fail))) | fail)) ?_) | (refine Trip.seq ?_) | (refine Trip.ops ?_) | (refine OpsL.nil ?_; ((repeat (first | refine blockExit_eq ?_ | refine blockExit_ne (by decide) ?_ | refine blockExit_normal ?_ | refine blockExit_ret ?_ | refine blockExit_goto ?_)); first | (change Trip _ _ _ _ _) | dsimp only | skip)) | fail)
  cases va with
  | none =>
    have hl0 : l = [] := by
      rcases hr with ⟨_, _, h⟩ | ⟨a, c, h, _⟩
      · exact h
      · cases h
    subst hl0
    refine OpsL.p (by subst_vars; decide) (aop_eqlS (r := true) (by (first | (simp only [ASt.ev, tmPut, ↓reduceIte, reduceIte, Nat.reduceEqDiff, plain1, *]; rfl) | fail)) (by (first | (simp only [ASt.ev, tmPut, ↓reduceIte, reduceIte, Nat.reduceEqDiff, plain1, *]; rfl) | fail)) (by kernel_rfl)) ?_
    repeat (first | (refine OpsL.nil ?_; ((repeat (first | refine blockExit_eq ?_ | refine blockExit_ne (by decide) ?_ | refine blockExit_normal ?_ | refine blockExit_ret ?_ | refine blockExit_goto ?_)); first | (change Trip _ _ _ _ _) | dsimp only | skip)) | fail)
    refine Trip.iteB (b := true) (by (first | (simp only [ASt.ev, tmPut, ↓reduceIte, reduceIte, Nat.reduceEqDiff, decide_true, decide_false, not_true_eq_false, not_false_eq_true, Bool.not_true, Bool.not_false, *]; done) | fail)) (fun _ => ?_) (fun h => absurd h (by decide))
    repeat (first | (refine OpsL.p (by subst_vars; decide) (by (first | (exact aop_assign (by (first | (simp only [ASt.ev, tmPut, ↓reduceIte, reduceIte, Nat.reduceEqDiff, plain1, *]; rfl) | fail))) | fail)) ?_) | (refine Trip.seq ?_) | (refine Trip.ops ?_) | (refine Trip.ret ?_; ((repeat (first | refine blockExit_eq ?_ | refine blockExit_ne (by decide) ?_ | refine blockExit_normal ?_ | refine blockExit_ret ?_ | refine blockExit_goto ?_)); first | (change Trip _ _ _ _ _) | dsimp only | skip)) | (refine OpsL.nil ?_; ((repeat (first | refine blockExit_eq ?_ | refine blockExit_ne (by decide) ?_ | refine blockExit_normal ?_ | refine blockExit_ret ?_ | refine blockExit_goto ?_)); first | (change Trip _ _ _ _ _) | dsimp only | skip)) | fail)
    exact ⟨.inr rfl, _, res_tmp, Ext.refl, .inl ⟨0, by simp [tmPut], rfl⟩, fun a n c h => by simp [tmPut] at h⟩
  | some a =>
    refine OpsL.p (by subst_vars; decide) (aop_eqlS (r := false) (by (first | (simp only [ASt.ev, tmPut, ↓reduceIte, reduceIte, Nat.reduceEqDiff, plain1, *]; rfl) | fail)) (by (first | (simp only [ASt.ev, tmPut, ↓reduceIte, reduceIte, Nat.reduceEqDiff, plain1, *]; rfl) | fail)) (by kernel_rfl)) ?_
    repeat (first | (refine OpsL.nil ?_; ((repeat (first | refine blockExit_eq ?_ | refine blockExit_ne (by decide) ?_ | refine blockExit_normal ?_ | refine blockExit_ret ?_ | refine blockExit_goto ?_)); first | (change Trip _ _ _ _ _) | dsimp only | skip)) | fail)
    refine Trip.iteB (b := false) (by (first | (simp only [ASt.ev, tmPut, ↓reduceIte, reduceIte, Nat.reduceEqDiff, decide_true, decide_false, not_true_eq_false, not_false_eq_true, Bool.not_true, Bool.not_false, *]; done) | fail)) (fun h => absurd h (by decide)) (fun _ => ?_)
    repeat (first | (refine Trip.seq ?_) | (refine Trip.ops ?_) | (refine Trip.skip ?_; ((repeat (first | refine blockExit_eq ?_ | refine blockExit_ne (by decide) ?_ | refine blockExit_normal ?_ | refine blockExit_ret ?_ | refine blockExit_goto ?_)); first | (change Trip _ _ _ _ _) | dsimp only | skip)) | fail)
    refine OpsL.new (by subst_vars; decide) (aop_buildSlice (l := []) (r := (.slice (some ⟨nx, 0, none⟩) 0 0, .new (.cells [] 2 none false (some 27)))) (by simp only [evParts]) (by kernel_rfl)) ?_
    have hx0 : Ext nx H (nx + 1) (H.put nx (.cells [] 2 none false (some 27))) := Ext.newPut
    have hE : RowE encP 2 27 (H.put nx (.cells [] 2 none false (some 27))) none (.slice (some ⟨nx, 0, none⟩) 0 0) ([] : List (Int × Int)) := .inr ⟨rfl, rfl, nx, 2, false, _, rfl, Heap.put_eq⟩
    have ha0 := hr.ext hx0 hok
    generalize (H.put nx (.cells [] 2 none false (some 27))) = G at *
    repeat (first | (refine OpsL.p (by subst_vars; decide) (by (first | (exact aop_move (by (first | (simp only [ASt.ev, tmPut, ↓reduceIte, reduceIte, Nat.reduceEqDiff, plain1, *]; rfl) | fail))) | fail)) ?_) | fail)
    by_cases hl0 : l.length = 0
    · have hnil : l = [] := List.eq_nil_of_length_eq_zero hl0
      subst hnil
      obtain ⟨b, esz, ro, q, hv, hH⟩ : ∃ b esz ro q, Value.slice (some ⟨nx, 0, none⟩) 0 0 = .slice (some ⟨b, 0, none⟩) 0 0 ∧ G b = some (.cells [] esz none ro q) := by
        rcases hE with h | ⟨_, _, b, esz, ro, q, h1, h2⟩
        · obtain ⟨h, _, _⟩ := h; cases h
        · exact ⟨b, esz, ro, q, h1, h2⟩
      cases hv
      refine OpsL.p (by subst_vars; decide) (aop_append_en (by (first | (simp only [ASt.ev, tmPut, ↓reduceIte, reduceIte, Nat.reduceEqDiff, plain1, *]; done) | fail)) (by (first | (simp only [ASt.ev, tmPut, ↓reduceIte, reduceIte, Nat.reduceEqDiff, plain1, *]; done) | fail)) hH (rows_src encP_len (by omega) ha0) rfl (by exact rfl) (by exact rfl) rfl (by exact rfl) (bytes := 16) (by exact rfl) (z := [.int .i64 0, .int .i64 0]) (by exact rfl) rfl) ?_
      repeat (first | (refine OpsL.p (by subst_vars; decide) (by (first | (exact aop_assign (by (first | (simp only [ASt.ev, tmPut, ↓reduceIte, reduceIte, Nat.reduceEqDiff, plain1, *]; rfl) | fail))) | fail)) ?_) | (refine Trip.ret ?_; ((repeat (first | refine blockExit_eq ?_ | refine blockExit_ne (by decide) ?_ | refine blockExit_normal ?_ | refine blockExit_ret ?_ | refine blockExit_goto ?_)); first | (change Trip _ _ _ _ _) | dsimp only | skip)) | (refine OpsL.nil ?_; ((repeat (first | refine blockExit_eq ?_ | refine blockExit_ne (by decide) ?_ | refine blockExit_normal ?_ | refine blockExit_ret ?_ | refine blockExit_goto ?_)); first | (change Trip _ _ _ _ _) | dsimp only | skip)) | fail)
      exact ⟨.inr rfl, _, res_tmp, hx0, .inr ⟨_, 0, by simp only [tmPut, ↓reduceIte]; rfl, fun i hi => absurd hi (by simp)⟩, fun a n c h => by
        simp [tmPut] at h
        obtain ⟨rfl, _⟩ := h
        exact ⟨Nat.le_refl _, Nat.lt_succ_self _⟩⟩
    · refine OpsL.appendE (bytes := 16) (z := [.int .i64 0, .int .i64 0]) encP_len encP_one (by omega) (by subst_vars; decide) hE ha0 (by (first | (simp only [ASt.ev, tmPut, ↓reduceIte, reduceIte, Nat.reduceEqDiff, plain1, *]; done) | fail)) (by (first | (simp only [ASt.ev, tmPut, ↓reduceIte, reduceIte, Nat.reduceEqDiff, plain1, *]; done) | fail)) (fun b t h => by cases h) (by exact rfl) (by exact rfl) (by exact rfl) (by exact rfl) (by exact rfl) rfl (by simp; omega) (by omega) ?_
      intro v1 nx1 H1 ob1 hA1
      rw [List.nil_append] at hA1
      have hx1 : Ext (nx + 1) G nx1 H1 := ⟨hA1.le, fun i hi => hA1.same i hi (fun b t h => by cases h)⟩
      repeat (first | (refine OpsL.p (by subst_vars; decide) (by (first | (exact aop_assign (by (first | (simp only [ASt.ev, tmPut, ↓reduceIte, reduceIte, Nat.reduceEqDiff, plain1, *]; rfl) | fail))) | fail)) ?_) | (refine Trip.ret ?_; ((repeat (first | refine blockExit_eq ?_ | refine blockExit_ne (by decide) ?_ | refine blockExit_normal ?_ | refine blockExit_ret ?_ | refine blockExit_goto ?_)); first | (change Trip _ _ _ _ _) | dsimp only | skip)) | (refine OpsL.nil ?_; ((repeat (first | refine blockExit_eq ?_ | refine blockExit_ne (by decide) ?_ | refine blockExit_normal ?_ | refine blockExit_ret ?_ | refine blockExit_goto ?_)); first | (change Trip _ _ _ _ _) | dsimp only | skip)) | fail)
      refine ⟨.inr rfl, _, res_tmp, hx0.trans hx1, by simp [tmPut]; exact hA1.own.at encP_len, fun a n c h => ?_⟩
      have h' : v1 = .slice (some a) n c := by simpa [tmPut] using h
      rcases hA1.own with h1 | ⟨_, h2, _⟩
      · cases ob1 with
        | none => obtain ⟨h3, _, _⟩ := h1; rw [h3] at h'; cases h'
        | some bt =>
          obtain ⟨b, t⟩ := bt
          obtain ⟨h3, _, _⟩ := h1
          rw [h3] at h'
          cases h'
          obtain ⟨i1, i2⟩ := hA1.blk b t rfl
          rcases i2 with rfl | ⟨t', h'⟩
          · exact ⟨Nat.le_succ _, i1⟩
          · cases h'
      · rw [h2] at hl0; simp at hl0

/-! ### the table -/

/-- A row's value in a row. -/
abbrev SV := Option Addr × Nat × Nat
def encS (x : SV) : List Value := [.slice x.1 x.2.1 x.2.2]
theorem encS_len (x : SV) : (encS x).length = 1 := rfl
theorem encS_one (x : SV) : (encS x).all (·.oneCell') = true := rfl

structure TabH (H : Heap) (b : Nat) (S : Nat → Prop) (R : List (List (Int × Int))) (M : Links) (rob : Option (Nat × Nat)) (rv lv : Value) (vs : List SV) : Prop where
  obj : H b = some (.cells [rv, lv] 0 none false (some 61))
  rows : OwnOf encS 1 24 H rob rv vs
  len : vs.length = R.length
  row : ∀ i (h : i < vs.length) (h' : i < R.length), PairsAt H (.slice vs[i].1 vs[i].2.1 vs[i].2.2) R[i]
  links : LinksAt H lv M
  trie : Trie M R
  small : M.length ≤ 200 * R.length
  inb : S b
  inr : ∀ b' t, rob = some (b', t) → S b' ∧ b' ≠ b
  inl : ∀ m, lv = .map (some m) → S m ∧ m ≠ b ∧ ∀ t, rob ≠ some (m, t)
  inv : ∀ i (h : i < vs.length) a, vs[i].1 = some a → S a.block ∧ a.block ≠ b ∧ (∀ t, rob ≠ some (a.block, t)) ∧ lv ≠ .map (some a.block)

/-- A table that has so many rows; all that it is lies in S. -/
def TabAt (H : Heap) (b : Nat) (S : Nat → Prop) (R : List (List (Int × Int))) : Prop := ∃ M rob rv lv vs, TabH H b S R M rob rv lv vs

theorem getc_blk {H H' : Heap} {a : Addr} {m : Nat} (h : H' a.block = H a.block) : getc H' a m = getc H a m := by simp only [getc, h]
theorem PairsAt.same {H H' : Heap} {v : Value} {l : List (Int × Int)} (h : PairsAt H v l) (hs : ∀ a n c, v = .slice (some a) n c → H' a.block = H a.block) : PairsAt H' v l := by
  rcases h with h | ⟨a, c, rfl, hc⟩
  · exact .inl h
  · refine .inr ⟨a, c, rfl, fun i hi => ?_⟩
    have := hs a _ _ rfl
    rw [getc_blk (by exact this)]
    exact hc i hi
theorem LinksAt.same {H H' : Heap} {lv : Value} {M : Links} (h : LinksAt H lv M) (hs : ∀ m, lv = .map (some m) → H' m = H m) : LinksAt H' lv M := by
  obtain ⟨h8, h⟩ := h
  refine ⟨h8, ?_⟩
  rcases h with h | ⟨m, bs, clk, rfl, hm⟩
  · exact .inl h
  · exact .inr ⟨m, bs, clk, rfl, by rw [hs m rfl]; exact hm⟩
theorem OwnRow.same {H H' : Heap} {ob : Option (Nat × Nat)} {el : TypeId} {sz k : Nat} {v : Value} {cs : List Value} (h : OwnRow H ob el sz v cs k) (hs : ∀ b t, ob = some (b, t) → H' b = H b) : OwnRow H' ob el sz v cs k := by
  cases ob with
  | none => exact h
  | some bt =>
    obtain ⟨b, t⟩ := bt
    obtain ⟨h1, h2, rest, h3⟩ := h
    exact ⟨h1, h2, rest, by rw [hs b t rfl]; exact h3⟩
theorem TabH.same {H H' : Heap} {b : Nat} {S : Nat → Prop} {R : List (List (Int × Int))} {M : Links} {rob : Option (Nat × Nat)} {rv lv : Value} {vs : List SV} (h : TabH H b S R M rob rv lv vs) (hs : ∀ i, S i → H' i = H i) : TabH H' b S R M rob rv lv vs :=
  { h with
    obj := by rw [hs b h.inb]; exact h.obj
    rows := OwnRow.same h.rows fun b' t e => hs b' (h.inr b' t e).1
    row := fun i h1 h2 => (h.row i h1 h2).same fun a n c e => hs _ (h.inv i h1 a (Value.slice.inj e).1).1
    links := h.links.same fun m e => hs m (h.inl m e).1 }
theorem TabAt.same {H H' : Heap} {b : Nat} {S : Nat → Prop} {R : List (List (Int × Int))} (h : TabAt H b S R) (hs : ∀ i, S i → H' i = H i) : TabAt H' b S R := by
  obtain ⟨M, rob, rv, lv, vs, h⟩ := h
  exact ⟨M, rob, rv, lv, vs, h.same hs⟩
theorem TabAt.ext {H H' : Heap} {nx nx' b : Nat} {S : Nat → Prop} {R : List (List (Int × Int))} (h : TabAt H b S R) (hx : Ext nx H nx' H') (hS : ∀ i, S i → i < nx) : TabAt H' b S R := h.same fun i hi => hx.2 i (hS i hi)

/-- A table's pointer. -/
abbrev tabV (b : Nat) : Value := .pointer (some ⟨b, 0, none⟩)

theorem entersNew : Am.Enters Try.prog 29 := ⟨Try.f29, Try.func29, by kernel_rfl, by kernel_rfl⟩
theorem entersLen : Am.Enters Try.prog 35 := ⟨Try.f35, Try.func35, by kernel_rfl, by kernel_rfl⟩
theorem entersRow : Am.Enters Try.prog 37 := ⟨Try.f37, Try.func37, by kernel_rfl, by kernel_rfl⟩
theorem entersFindS : Am.Enters Try.prog 44 := ⟨Try.f44, Try.func44, by kernel_rfl, by kernel_rfl⟩

set_option maxHeartbeats 4000000 in
theorem newC (W0 : World) {nx : Nat} {H : Heap} :
    ACalls Try.prog W0 29 [] nx H fun v nx' H' => v = tabV nx ∧ nx' = nx + 1 ∧ Ext nx H nx' H' ∧ TabAt H' nx (fun i => i = nx) [] := by
  refine ACalls.by_trip (fn := Try.f29) (c := _) Try.func29 rfl (fun tm n hn0 htm => ?_)
  clear htm
  replace hn0 : n = 3 := hn0
  repeat (first | (refine OpsL.p (by subst_vars; decide) (by (first | (exact aop_assign (by (first | (simp only [ASt.ev, tmPut, ↓reduceIte, reduceIte, Nat.reduceEqDiff, plain1, *]; rfl) | fail))) | fail)) ?_) | (refine Trip.seq ?_) | (refine Trip.ops ?_) | (refine OpsL.nil ?_; ((repeat (first | refine blockExit_eq ?_ | refine blockExit_ne (by decide) ?_ | refine blockExit_normal ?_ | refine blockExit_ret ?_ | refine blockExit_goto ?_)); first | (change Trip _ _ _ _ _) | dsimp only | skip)) | fail)
  refine OpsL.p (by subst_vars; decide) (aop_build (v := .agg #[.slice none 0 0, .map none]) (l := []) (by simp only [evParts]) (by kernel_rfl)) ?_
  refine OpsL.new (by subst_vars; decide) (aop_box (by (first | (simp only [ASt.ev, tmPut, ↓reduceIte, reduceIte, Nat.reduceEqDiff, plain1, *]; rfl) | fail))) ?_
  repeat (first | (refine OpsL.p (by subst_vars; decide) (by (first | (exact aop_assign (by (first | (simp only [ASt.ev, tmPut, ↓reduceIte, reduceIte, Nat.reduceEqDiff, plain1, *]; rfl) | fail))) | fail)) ?_) | (refine Trip.ret ?_; ((repeat (first | refine blockExit_eq ?_ | refine blockExit_ne (by decide) ?_ | refine blockExit_normal ?_ | refine blockExit_ret ?_ | refine blockExit_goto ?_)); first | (change Trip _ _ _ _ _) | dsimp only | skip)) | (refine OpsL.nil ?_; ((repeat (first | refine blockExit_eq ?_ | refine blockExit_ne (by decide) ?_ | refine blockExit_normal ?_ | refine blockExit_ret ?_ | refine blockExit_goto ?_)); first | (change Trip _ _ _ _ _) | dsimp only | skip)) | fail)
  refine ⟨.inr rfl, _, res_tmp, by simp [tmPut], rfl, Ext.newPut, [], none, .slice none 0 0, .map none, [], ⟨Heap.put_eq, ⟨rfl, rfl, rfl⟩, rfl, fun i h => absurd h (by simp), ⟨fun e he => (by cases he), .inl ⟨rfl, rfl⟩⟩, Trie.empty, Nat.le_refl _, rfl, fun _ _ h => (by cases h), fun m h => (by cases h), fun i h => absurd h (by simp)⟩⟩

set_option maxHeartbeats 4000000 in
theorem lenC (W0 : World) {nx b : Nat} {H : Heap} {S : Nat → Prop} {R : List (List (Int × Int))} (h : TabAt H b S R) :
    ACalls Try.prog W0 35 [tabV b] nx H fun v nx' H' => v = .int .i64 R.length ∧ nx' = nx ∧ H' = H := by
  obtain ⟨M, rob, rv, lv, vs, h⟩ := h
  refine ACalls.by_trip (fn := Try.f35) (c := _) Try.func35 rfl (fun tm n hn0 htm => ?_)
  have e0 : tm 0 = tabV b := htm 0
  clear htm
  replace hn0 : n = 8 := hn0
  have c0 : cellAt H ⟨b, 0 + 0, none⟩ rv := cellAt_own (off := 0) h.obj (by show 0 < 2; decide)
  obtain ⟨ra, rc, hrv⟩ := (OwnOf.at encS_len h.rows).slice
  rw [hrv, h.len] at c0
  repeat (first | (refine OpsL.p (by subst_vars; decide) (by (first | (exact aop_move (by (first | (simp only [ASt.ev, tmPut, ↓reduceIte, reduceIte, Nat.reduceEqDiff, plain1, *]; rfl) | fail))) | (exact aop_assign (by (first | (simp only [ASt.ev, tmPut, ↓reduceIte, reduceIte, Nat.reduceEqDiff, plain1, *]; rfl) | fail))) | (exact aop_len (by (first | (simp only [ASt.ev, tmPut, ↓reduceIte, reduceIte, Nat.reduceEqDiff, plain1, *]; rfl) | fail)) (by exact rfl)) | (exact aop_fieldAddr (by (first | (simp only [ASt.ev, tmPut, ↓reduceIte, reduceIte, Nat.reduceEqDiff, plain1, *]; rfl) | fail)) (by exact rfl)) | (exact aop_load (by (first | (simp only [ASt.ev, tmPut, ↓reduceIte, reduceIte, Nat.reduceEqDiff, plain1, *]; rfl) | fail)) (by exact rfl) rfl (by assumption)) | (exact aop_nilCheck (by (first | (simp only [ASt.ev, tmPut, ↓reduceIte, reduceIte, Nat.reduceEqDiff, plain1, *]; rfl) | fail))) | fail)) ?_) | (refine Trip.seq ?_) | (refine Trip.ops ?_) | (refine Trip.ret ?_; ((repeat (first | refine blockExit_eq ?_ | refine blockExit_ne (by decide) ?_ | refine blockExit_normal ?_ | refine blockExit_ret ?_ | refine blockExit_goto ?_)); first | (change Trip _ _ _ _ _) | dsimp only | skip)) | (refine OpsL.nil ?_; ((repeat (first | refine blockExit_eq ?_ | refine blockExit_ne (by decide) ?_ | refine blockExit_normal ?_ | refine blockExit_ret ?_ | refine blockExit_goto ?_)); first | (change Trip _ _ _ _ _) | dsimp only | skip)) | fail)
  exact ⟨.inr rfl, _, res_tmp, by simp [tmPut], rfl, rfl⟩

end Go.Proofs.Ytigincejpjajpaa
