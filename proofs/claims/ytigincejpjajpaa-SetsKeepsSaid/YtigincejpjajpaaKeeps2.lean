/-
  A row that may be written: Clone, Row.
-/
import Derived.Test.YtigincejpjajpaaArgs2
namespace Go.Proofs.Ytigincejpjajpaa
set_option linter.unusedSimpArgs false
set_option linter.unusedVariables false
set_option maxRecDepth 20000
open Go.RowKit Go.Am
attribute [local irreducible] aop OpsL Trip blockExit OpsD OpsK OpsR

/-- So many pairs of numbers that may be written. -/
def Wr (H : Heap) (v : Value) (m : Nat) : Prop := m = 0 ∨ ∃ b sp cs e q c, v = .slice (some ⟨b, 0, sp⟩) m c ∧ H b = some (.cells cs e sp false q) ∧ 2 * m ≤ cs.length ∧ ∀ j, j < 2 * m → ∃ z : Int, cs[j]? = some (.int .i64 z)

theorem flat_ints : ∀ (l : List (Int × Int)) (j : Nat), j < 2 * l.length → ∃ z : Int, (l.flatMap encP)[j]? = some (.int .i64 z) := by
  intro l
  induction l with
  | nil => intro j h; simp at h
  | cons x l ih =>
    intro j h
    match j with
    | 0 => exact ⟨x.1, rfl⟩
    | 1 => exact ⟨x.2, rfl⟩
    | j + 2 =>
      obtain ⟨z, hz⟩ := ih j (by rw [List.length_cons] at h; omega)
      refine ⟨z, ?_⟩
      rw [List.flatMap_cons]
      show ([Value.int .i64 x.1, Value.int .i64 x.2] ++ _)[j + 2]? = _
      rw [List.getElem?_append_right (by show 2 ≤ j + 2; omega)]
      exact hz

theorem wr_own {H : Heap} {ob : Option (Nat × Nat)} {v : Value} {l : List (Int × Int)} (h : OwnPairs H ob v l) : Wr H v l.length := by
  cases ob with
  | none => obtain ⟨_, _, h2⟩ := h; exact .inl h2
  | some bt =>
    obtain ⟨b, t⟩ := bt
    obtain ⟨rfl, _, rest, ho⟩ := h
    have hfl := flat_len encP_len l
    refine .inr ⟨b, some t, _, _, _, _, rfl, ho, by rw [List.length_append, hfl]; omega, fun j hj => ?_⟩
    rw [List.getElem?_append_left (by rw [hfl]; omega)]
    exact flat_ints l j hj
theorem wr_rowE {H : Heap} {ob : Option (Nat × Nat)} {v : Value} {l : List (Int × Int)} (h : RowE encP 2 27 H ob v l) : Wr H v l.length := by
  rcases h with h | ⟨_, rfl, _⟩
  · exact wr_own h
  · exact .inl rfl
theorem Wr.same {H H' : Heap} {v : Value} {m : Nat} (h : Wr H v m) (hs : ∀ a n c, v = .slice (some a) n c → H' a.block = H a.block) : Wr H' v m := by
  rcases h with h | ⟨b, sp, cs, e, q, c, rfl, h1, h2⟩
  · exact .inl h
  · exact .inr ⟨b, sp, cs, e, q, c, rfl, by rw [hs _ _ _ rfl]; exact h1, h2⟩

section
variable {P : Program} {H : Heap} {nx : Nat} {ev : Operand → Option Value} {dst : Option Tmp} {type : TypeId} {pos : String} {after : Array Edge} {guard : Option (Nat × Bool)}
attribute [local semireducible] aop
theorem aop_addW {t u : TypeId} {x y : Operand} {a b : Int} (hx : ev x = some (.int .i64 a)) (hy : ev y = some (.int .i64 b)) :
    aop P H nx ev ⟨dst, .binOp .add t x y u, type, pos, after, guard⟩ = some (.int .i64 (IntKind.i64.wrap (a + b)), .none) := by
  simp [aop, hx, hy, aBin, intArith]
end

set_option maxHeartbeats 4000000 in
theorem cloneO (W0 : World) {nx : Nat} {H : Heap} {v : Value} {l : List (Int × Int)} (hr : PairsAt H v l) (hl : l.length ≤ 100000) :
    ACalls Try.prog W0 46 [v] nx H fun v' nx' H' => NewRow nx H nx' H' v' l ∧ Wr H' v' l.length := by
  obtain ⟨va, vc, rfl⟩ := hr.slice
  refine ACalls.by_trip (fn := Try.f46) (c := _) Try.func46 rfl (fun tm n hn0 htm => ?_)
  have e0 : tm 0 = .slice va l.length vc := htm 0
  clear htm
  replace hn0 : n = 8 := hn0
  refine Trip.ok fun hok => ?_
  replace hok : ∀ id o, H id = some o → id < nx := hok
  repeat (first | (refine OpsL.p (by subst_vars; decide) (by (first | (exact aop_move (by (first | (simp only [ASt.ev, tmPut, ↓reduceIte, reduceIte, Nat.reduceEqDiff, plain1, *]; rfl) | fail))) | (exact aop_assign (by (first | (simp only [ASt.ev, tmPut, ↓reduceIte, reduceIte, Nat.reduceEqDiff, plain1, *]; rfl) | fail))) | fail)) ?_) | (refine Trip.seq ?_) | (refine Trip.ops ?_) | (refine OpsL.nil ?_; ((repeat (first | refine blockExit_eq ?_ | refine blockExit_ne (by decide) ?_ | refine blockExit_normal ?_ | refine blockExit_ret ?_ | refine blockExit_goto ?_)); first | (change Trip _ _ _ _ _) | dsimp only | skip)) | fail)
  cases va with
  | none =>
    have hl0 : l = [] := by
      rcases hr with ⟨_, _, h⟩ | ⟨a, c, h, _⟩
      · exact h
      · cases h
    subst hl0
    refine OpsL.p (by subst_vars; decide) (aop_eqlS (r := true) (by (first | (simp only [ASt.ev, tmPut, ↓reduceIte, reduceIte, Nat.reduceEqDiff, plain1, *]; rfl) | fail)) (by (first | (simp only [ASt.ev, tmPut, ↓reduceIte, reduceIte, Nat.reduceEqDiff, plain1, *]; rfl) | fail)) (by kernel_rfl)) ?_
    repeat (first | (refine OpsL.nil ?_; ((repeat (first | refine blockExit_eq ?_ | refine blockExit_ne (by decide) ?_ | refine blockExit_normal ?_ | refine blockExit_ret ?_ | refine blockExit_goto ?_)); first | (change Trip _ _ _ _ _) | dsimp only | skip)) | fail)
    refine Trip.iteB (b := true) (by (first | (simp only [ASt.ev, tmPut, ↓reduceIte, reduceIte, Nat.reduceEqDiff, decide_true, decide_false, not_true_eq_false, not_false_eq_true, Bool.not_true, Bool.not_false, *]; done) | fail)) (fun _ => ?_) (fun h => absurd h (by decide))
    repeat (first | (refine OpsL.p (by subst_vars; decide) (by (first | (exact aop_assign (by (first | (simp only [ASt.ev, tmPut, ↓reduceIte, reduceIte, Nat.reduceEqDiff, plain1, *]; rfl) | fail))) | fail)) ?_) | (refine Trip.seq ?_) | (refine Trip.ops ?_) | (refine Trip.ret ?_; ((repeat (first | refine blockExit_eq ?_ | refine blockExit_ne (by decide) ?_ | refine blockExit_normal ?_ | refine blockExit_ret ?_ | refine blockExit_goto ?_)); first | (change Trip _ _ _ _ _) | dsimp only | skip)) | (refine OpsL.nil ?_; ((repeat (first | refine blockExit_eq ?_ | refine blockExit_ne (by decide) ?_ | refine blockExit_normal ?_ | refine blockExit_ret ?_ | refine blockExit_goto ?_)); first | (change Trip _ _ _ _ _) | dsimp only | skip)) | fail)
    exact ⟨.inr rfl, _, res_tmp, ⟨Ext.refl, .inl ⟨0, by simp [tmPut], rfl⟩, fun a n c h => by simp [tmPut] at h⟩, .inl rfl⟩
  | some a =>
    refine OpsL.p (by subst_vars; decide) (aop_eqlS (r := false) (by (first | (simp only [ASt.ev, tmPut, ↓reduceIte, reduceIte, Nat.reduceEqDiff, plain1, *]; rfl) | fail)) (by (first | (simp only [ASt.ev, tmPut, ↓reduceIte, reduceIte, Nat.reduceEqDiff, plain1, *]; rfl) | fail)) (by kernel_rfl)) ?_
    repeat (first | (refine OpsL.nil ?_; ((repeat (first | refine blockExit_eq ?_ | refine blockExit_ne (by decide) ?_ | refine blockExit_normal ?_ | refine blockExit_ret ?_ | refine blockExit_goto ?_)); first | (change Trip _ _ _ _ _) | dsimp only | skip)) | fail)
    refine Trip.iteB (b := false) (by (first | (simp only [ASt.ev, tmPut, ↓reduceIte, reduceIte, Nat.reduceEqDiff, decide_true, decide_false, not_true_eq_false, not_false_eq_true, Bool.not_true, Bool.not_false, *]; done) | fail)) (fun h => absurd h (by decide)) (fun _ => ?_)
    repeat (first | (refine Trip.seq ?_) | (refine Trip.ops ?_) | (refine Trip.skip ?_; ((repeat (first | refine blockExit_eq ?_ | refine blockExit_ne (by decide) ?_ | refine blockExit_normal ?_ | refine blockExit_ret ?_ | refine blockExit_goto ?_)); first | (change Trip _ _ _ _ _) | dsimp only | skip)) | fail)
    refine OpsL.new (by subst_vars; decide) (aop_buildSlice (l := []) (r := (.slice (some ⟨nx, 0, none⟩) 0 0, .new (.cells [] 2 none false (some 27)))) (by simp only [evParts]) (by kernel_rfl)) ?_
    have hx0 : Ext nx H (nx + 1) (H.put nx (.cells [] 2 none false (some 27))) := Ext.newPut
    have hE : RowE encP 2 27 (H.put nx (.cells [] 2 none false (some 27))) none (.slice (some ⟨nx, 0, none⟩) 0 0) ([] : List (Int × Int)) := .inr ⟨rfl, rfl, nx, 2, false, _, rfl, Heap.put_eq⟩
    have ha0 := hr.ext hx0 hok
    generalize (H.put nx (.cells [] 2 none false (some 27))) = G at *
    repeat (first | (refine OpsL.p (by subst_vars; decide) (by (first | (exact aop_move (by (first | (simp only [ASt.ev, tmPut, ↓reduceIte, reduceIte, Nat.reduceEqDiff, plain1, *]; rfl) | fail))) | fail)) ?_) | fail)
    by_cases hl0 : l.length = 0
    · have hnil : l = [] := List.eq_nil_of_length_eq_zero hl0
      subst hnil
      obtain ⟨b, esz, ro, q, hv, hH⟩ : ∃ b esz ro q, Value.slice (some ⟨nx, 0, none⟩) 0 0 = .slice (some ⟨b, 0, none⟩) 0 0 ∧ G b = some (.cells [] esz none ro q) := by
        rcases hE with h | ⟨_, _, b, esz, ro, q, h1, h2⟩
        · obtain ⟨h, _, _⟩ := h; cases h
        · exact ⟨b, esz, ro, q, h1, h2⟩
      cases hv
      refine OpsL.p (by subst_vars; decide) (aop_append_en (by (first | (simp only [ASt.ev, tmPut, ↓reduceIte, reduceIte, Nat.reduceEqDiff, plain1, *]; done) | fail)) (by (first | (simp only [ASt.ev, tmPut, ↓reduceIte, reduceIte, Nat.reduceEqDiff, plain1, *]; done) | fail)) hH (rows_src encP_len (by omega) ha0) rfl (by exact rfl) (by exact rfl) rfl (by exact rfl) (bytes := 16) (by exact rfl) (z := [.int .i64 0, .int .i64 0]) (by exact rfl) rfl) ?_
      repeat (first | (refine OpsL.p (by subst_vars; decide) (by (first | (exact aop_assign (by (first | (simp only [ASt.ev, tmPut, ↓reduceIte, reduceIte, Nat.reduceEqDiff, plain1, *]; rfl) | fail))) | fail)) ?_) | (refine Trip.ret ?_; ((repeat (first | refine blockExit_eq ?_ | refine blockExit_ne (by decide) ?_ | refine blockExit_normal ?_ | refine blockExit_ret ?_ | refine blockExit_goto ?_)); first | (change Trip _ _ _ _ _) | dsimp only | skip)) | (refine OpsL.nil ?_; ((repeat (first | refine blockExit_eq ?_ | refine blockExit_ne (by decide) ?_ | refine blockExit_normal ?_ | refine blockExit_ret ?_ | refine blockExit_goto ?_)); first | (change Trip _ _ _ _ _) | dsimp only | skip)) | fail)
      exact ⟨.inr rfl, _, res_tmp, ⟨hx0, .inr ⟨_, 0, by simp only [tmPut, ↓reduceIte]; rfl, fun i hi => absurd hi (by simp)⟩, fun a n c h => by
        simp [tmPut] at h
        obtain ⟨rfl, _⟩ := h
        exact ⟨Nat.le_refl _, Nat.lt_succ_self _⟩⟩, .inl rfl⟩
    · refine OpsL.appendE (bytes := 16) (z := [.int .i64 0, .int .i64 0]) encP_len encP_one (by omega) (by subst_vars; decide) hE ha0 (by (first | (simp only [ASt.ev, tmPut, ↓reduceIte, reduceIte, Nat.reduceEqDiff, plain1, *]; done) | fail)) (by (first | (simp only [ASt.ev, tmPut, ↓reduceIte, reduceIte, Nat.reduceEqDiff, plain1, *]; done) | fail)) (fun b t h => by cases h) (by exact rfl) (by exact rfl) (by exact rfl) (by exact rfl) (by exact rfl) rfl (by simp; omega) (by omega) ?_
      intro v1 nx1 H1 ob1 hA1
      rw [List.nil_append] at hA1
      have hx1 : Ext (nx + 1) G nx1 H1 := ⟨hA1.le, fun i hi => hA1.same i hi (fun b t h => by cases h)⟩
      repeat (first | (refine OpsL.p (by subst_vars; decide) (by (first | (exact aop_assign (by (first | (simp only [ASt.ev, tmPut, ↓reduceIte, reduceIte, Nat.reduceEqDiff, plain1, *]; rfl) | fail))) | fail)) ?_) | (refine Trip.ret ?_; ((repeat (first | refine blockExit_eq ?_ | refine blockExit_ne (by decide) ?_ | refine blockExit_normal ?_ | refine blockExit_ret ?_ | refine blockExit_goto ?_)); first | (change Trip _ _ _ _ _) | dsimp only | skip)) | (refine OpsL.nil ?_; ((repeat (first | refine blockExit_eq ?_ | refine blockExit_ne (by decide) ?_ | refine blockExit_normal ?_ | refine blockExit_ret ?_ | refine blockExit_goto ?_)); first | (change Trip _ _ _ _ _) | dsimp only | skip)) | fail)
      refine ⟨.inr rfl, _, res_tmp, ⟨hx0.trans hx1, by simp [tmPut]; exact hA1.own.at encP_len, fun a n c h => ?_⟩, by simp [tmPut]; exact wr_rowE hA1.own⟩
      have h' : v1 = .slice (some a) n c := by simpa [tmPut] using h
      rcases hA1.own with h1 | ⟨_, h2, _⟩
      · cases ob1 with
        | none => obtain ⟨h3, _, _⟩ := h1; rw [h3] at h'; cases h'
        | some bt =>
          obtain ⟨b, t⟩ := bt
          obtain ⟨h3, _, _⟩ := h1
          rw [h3] at h'
          cases h'
          obtain ⟨i1, i2⟩ := hA1.blk b t rfl
          rcases i2 with rfl | ⟨t', h'⟩
          · exact ⟨Nat.le_succ _, i1⟩
          · cases h'
      · rw [h2] at hl0; simp at hl0

set_option maxHeartbeats 4000000 in
theorem rowO (W0 : World) {nx b : Nat} {H : Heap} {S : Nat → Prop} {R : List (List (Int × Int))} (x : Int) (hT : TabAt H b S R) (hR : ∀ r ∈ R, r.length ≤ 100000) :
    ACalls Try.prog W0 37 [tabV b, .int .i64 x] nx H fun v nx' H' => ∃ l, (NewRow nx H nx' H' v l ∧ Wr H' v l.length) ∧ ((0 ≤ x ∧ R[x.toNat]? = some l) ∨ (¬ (0 ≤ x ∧ x < R.length) ∧ l = [])) := by
  obtain ⟨M, rob, rv, lv, vs, h⟩ := hT
  refine ACalls.by_trip (fn := Try.f37) (c := _) Try.func37 rfl (fun tm n hn0 htm => ?_)
  have e0 : tm 0 = tabV b := htm 0
  have e1 : tm 1 = .int .i64 x := htm 1
  clear htm
  replace hn0 : n = 24 := hn0
  have hrw := OwnOf.at encS_len h.rows
  have c0 : cellAt H ⟨b, 0 + 0, none⟩ rv := cellAt_own (off := 0) h.obj (by show 0 < 2; decide)
  obtain ⟨ra, rc, hrv⟩ := hrw.slice
  rw [hrv] at c0 hrw
  have hlen := h.len
  repeat (first | (refine OpsL.p (by subst_vars; decide) (by (first | (exact aop_move (by (first | (simp only [ASt.ev, tmPut, ↓reduceIte, reduceIte, Nat.reduceEqDiff, plain1, *]; rfl) | fail))) | (exact aop_assign (by (first | (simp only [ASt.ev, tmPut, ↓reduceIte, reduceIte, Nat.reduceEqDiff, plain1, *]; rfl) | fail))) | fail)) ?_) | (refine Trip.seq ?_) | (refine Trip.ops ?_) | (refine OpsL.nil ?_; ((repeat (first | refine blockExit_eq ?_ | refine blockExit_ne (by decide) ?_ | refine blockExit_normal ?_ | refine blockExit_ret ?_ | refine blockExit_goto ?_)); first | (change Trip _ _ _ _ _) | dsimp only | skip)) | fail)
  by_cases h0 : x < 0
  · refine OpsL.p (by subst_vars; decide) (aop_lssT (by (first | (simp only [ASt.ev, tmPut, ↓reduceIte, reduceIte, Nat.reduceEqDiff, plain1, *]; rfl) | fail)) (by (first | (simp only [ASt.ev, tmPut, ↓reduceIte, reduceIte, Nat.reduceEqDiff, plain1, *]; rfl) | fail)) h0) ?_
    repeat (first | (refine OpsL.p (by subst_vars; decide) (by (first | (exact aop_move (by (first | (simp only [ASt.ev, tmPut, ↓reduceIte, reduceIte, Nat.reduceEqDiff, plain1, *]; rfl) | fail))) | (exact aop_pickT (by (first | (simp only [ASt.ev, tmPut, ↓reduceIte, reduceIte, Nat.reduceEqDiff, decide_true, decide_false, not_true_eq_false, not_false_eq_true, Bool.not_true, Bool.not_false, *]; done) | fail)) (by (first | (simp only [ASt.ev, tmPut, ↓reduceIte, reduceIte, Nat.reduceEqDiff, plain1, *]; rfl) | fail))) | fail)) ?_) | (refine OpsL.nil ?_; ((repeat (first | refine blockExit_eq ?_ | refine blockExit_ne (by decide) ?_ | refine blockExit_normal ?_ | refine blockExit_ret ?_ | refine blockExit_goto ?_)); first | (change Trip _ _ _ _ _) | dsimp only | skip)) | (refine OpsL.skipped (by exact rfl) (by (first | (simp only [ASt.ev, tmPut, ↓reduceIte, reduceIte, Nat.reduceEqDiff, decide_true, decide_false, not_true_eq_false, not_false_eq_true, Bool.not_true, Bool.not_false, *]; done) | fail)) (by subst_vars; decide) ?_) | fail)
    refine Trip.iteB (b := true) (by (first | (simp only [ASt.ev, tmPut, ↓reduceIte, reduceIte, Nat.reduceEqDiff, decide_true, decide_false, not_true_eq_false, not_false_eq_true, Bool.not_true, Bool.not_false, *]; done) | fail)) (fun _ => ?_) (fun h => absurd h (by decide))
    repeat (first | (refine OpsL.p (by subst_vars; decide) (by (first | (exact aop_assign (by (first | (simp only [ASt.ev, tmPut, ↓reduceIte, reduceIte, Nat.reduceEqDiff, plain1, *]; rfl) | fail))) | fail)) ?_) | (refine Trip.seq ?_) | (refine Trip.ops ?_) | (refine Trip.ret ?_; ((repeat (first | refine blockExit_eq ?_ | refine blockExit_ne (by decide) ?_ | refine blockExit_normal ?_ | refine blockExit_ret ?_ | refine blockExit_goto ?_)); first | (change Trip _ _ _ _ _) | dsimp only | skip)) | (refine OpsL.nil ?_; ((repeat (first | refine blockExit_eq ?_ | refine blockExit_ne (by decide) ?_ | refine blockExit_normal ?_ | refine blockExit_ret ?_ | refine blockExit_goto ?_)); first | (change Trip _ _ _ _ _) | dsimp only | skip)) | fail)
    exact ⟨.inr rfl, _, res_tmp, [], ⟨⟨Ext.refl, .inl ⟨0, by simp [tmPut], rfl⟩, fun a n c h => by simp [tmPut] at h⟩, .inl rfl⟩, .inr ⟨by omega, rfl⟩⟩
  · refine OpsL.p (by subst_vars; decide) (aop_lssF (by (first | (simp only [ASt.ev, tmPut, ↓reduceIte, reduceIte, Nat.reduceEqDiff, plain1, *]; rfl) | fail)) (by (first | (simp only [ASt.ev, tmPut, ↓reduceIte, reduceIte, Nat.reduceEqDiff, plain1, *]; rfl) | fail)) h0) ?_
    repeat (first | (refine OpsL.p (by subst_vars; decide) (by (first | (exact aop_move (by (first | (simp only [ASt.ev, tmPut, ↓reduceIte, reduceIte, Nat.reduceEqDiff, plain1, *]; rfl) | fail))) | (exact aop_nilCheck (by (first | (simp only [ASt.ev, tmPut, ↓reduceIte, reduceIte, Nat.reduceEqDiff, plain1, *]; rfl) | fail))) | (exact aop_fieldAddr (by (first | (simp only [ASt.ev, tmPut, ↓reduceIte, reduceIte, Nat.reduceEqDiff, plain1, *]; rfl) | fail)) (by exact rfl)) | (exact aop_load (by (first | (simp only [ASt.ev, tmPut, ↓reduceIte, reduceIte, Nat.reduceEqDiff, plain1, *]; rfl) | fail)) (by exact rfl) rfl (by assumption)) | (exact aop_len (by (first | (simp only [ASt.ev, tmPut, ↓reduceIte, reduceIte, Nat.reduceEqDiff, plain1, *]; rfl) | fail)) (by exact rfl)) | fail)) ?_) | (refine OpsL.unguard (by exact rfl) (by (first | (simp only [ASt.ev, tmPut, ↓reduceIte, reduceIte, Nat.reduceEqDiff, decide_true, decide_false, not_true_eq_false, not_false_eq_true, Bool.not_true, Bool.not_false, *]; done) | fail)) ?_) | fail)
    by_cases h1 : (R.length : Int) ≤ x
    · refine OpsL.p (by subst_vars; decide) (aop_geqT (by (first | (simp only [ASt.ev, tmPut, ↓reduceIte, reduceIte, Nat.reduceEqDiff, plain1, *]; rfl) | fail)) (by (first | (simp only [ASt.ev, tmPut, ↓reduceIte, reduceIte, Nat.reduceEqDiff, plain1, *]; rfl) | fail)) (by omega)) ?_
      repeat (first | (refine OpsL.p (by subst_vars; decide) (by (first | (exact aop_pickF (by (first | (simp only [ASt.ev, tmPut, ↓reduceIte, reduceIte, Nat.reduceEqDiff, decide_true, decide_false, not_true_eq_false, not_false_eq_true, Bool.not_true, Bool.not_false, *]; done) | fail)) (by (first | (simp only [ASt.ev, tmPut, ↓reduceIte, reduceIte, Nat.reduceEqDiff, plain1, *]; rfl) | fail))) | fail)) ?_) | (refine OpsL.nil ?_; ((repeat (first | refine blockExit_eq ?_ | refine blockExit_ne (by decide) ?_ | refine blockExit_normal ?_ | refine blockExit_ret ?_ | refine blockExit_goto ?_)); first | (change Trip _ _ _ _ _) | dsimp only | skip)) | fail)
      refine Trip.iteB (b := true) (by (first | (simp only [ASt.ev, tmPut, ↓reduceIte, reduceIte, Nat.reduceEqDiff, decide_true, decide_false, not_true_eq_false, not_false_eq_true, Bool.not_true, Bool.not_false, *]; done) | fail)) (fun _ => ?_) (fun h => absurd h (by decide))
      repeat (first | (refine OpsL.p (by subst_vars; decide) (by (first | (exact aop_assign (by (first | (simp only [ASt.ev, tmPut, ↓reduceIte, reduceIte, Nat.reduceEqDiff, plain1, *]; rfl) | fail))) | fail)) ?_) | (refine Trip.seq ?_) | (refine Trip.ops ?_) | (refine Trip.ret ?_; ((repeat (first | refine blockExit_eq ?_ | refine blockExit_ne (by decide) ?_ | refine blockExit_normal ?_ | refine blockExit_ret ?_ | refine blockExit_goto ?_)); first | (change Trip _ _ _ _ _) | dsimp only | skip)) | (refine OpsL.nil ?_; ((repeat (first | refine blockExit_eq ?_ | refine blockExit_ne (by decide) ?_ | refine blockExit_normal ?_ | refine blockExit_ret ?_ | refine blockExit_goto ?_)); first | (change Trip _ _ _ _ _) | dsimp only | skip)) | fail)
      exact ⟨.inr rfl, _, res_tmp, [], ⟨⟨Ext.refl, .inl ⟨0, by simp [tmPut], rfl⟩, fun a n c h => by simp [tmPut] at h⟩, .inl rfl⟩, .inr ⟨by omega, rfl⟩⟩
    · refine OpsL.p (by subst_vars; decide) (aop_geqF (by (first | (simp only [ASt.ev, tmPut, ↓reduceIte, reduceIte, Nat.reduceEqDiff, plain1, *]; rfl) | fail)) (by (first | (simp only [ASt.ev, tmPut, ↓reduceIte, reduceIte, Nat.reduceEqDiff, plain1, *]; rfl) | fail)) (by omega)) ?_
      repeat (first | (refine OpsL.p (by subst_vars; decide) (by (first | (exact aop_pickF (by (first | (simp only [ASt.ev, tmPut, ↓reduceIte, reduceIte, Nat.reduceEqDiff, decide_true, decide_false, not_true_eq_false, not_false_eq_true, Bool.not_true, Bool.not_false, *]; done) | fail)) (by (first | (simp only [ASt.ev, tmPut, ↓reduceIte, reduceIte, Nat.reduceEqDiff, plain1, *]; rfl) | fail))) | fail)) ?_) | (refine OpsL.nil ?_; ((repeat (first | refine blockExit_eq ?_ | refine blockExit_ne (by decide) ?_ | refine blockExit_normal ?_ | refine blockExit_ret ?_ | refine blockExit_goto ?_)); first | (change Trip _ _ _ _ _) | dsimp only | skip)) | fail)
      refine Trip.iteB (b := false) (by (first | (simp only [ASt.ev, tmPut, ↓reduceIte, reduceIte, Nat.reduceEqDiff, decide_true, decide_false, not_true_eq_false, not_false_eq_true, Bool.not_true, Bool.not_false, *]; done) | fail)) (fun h => absurd h (by decide)) (fun _ => ?_)
      obtain ⟨i, rfl⟩ : ∃ i : Nat, x = i := ⟨x.toNat, by omega⟩
      have hi : i < vs.length := by omega
      obtain ⟨p, rfl, g0⟩ := rows_at hrw hi
      have hrow := h.row i hi (by omega)
      replace g0 : cellAt H ⟨p.block, p.off + (i : Int).toNat * 1, p.spot⟩ (.slice vs[i].1 vs[i].2.1 vs[i].2.2) := g0
      have hRl := hR R[i] (List.getElem_mem _)
      obtain ⟨wa, wc, hw⟩ := hrow.slice
      rw [hw] at g0 hrow
      repeat (first | (refine OpsL.p (by subst_vars; decide) (by (first | (exact aop_move (by (first | (simp only [ASt.ev, tmPut, ↓reduceIte, reduceIte, Nat.reduceEqDiff, plain1, *]; rfl) | fail))) | (exact aop_indexAddr (by (first | (simp only [ASt.ev, tmPut, ↓reduceIte, reduceIte, Nat.reduceEqDiff, plain1, *]; rfl) | fail)) (by (first | (simp only [ASt.ev, tmPut, ↓reduceIte, reduceIte, Nat.reduceEqDiff, plain1, *]; rfl) | fail)) (by exact rfl) (by exact rfl) (by omega) (by omega)) | (exact aop_fieldAddr (by (first | (simp only [ASt.ev, tmPut, ↓reduceIte, reduceIte, Nat.reduceEqDiff, plain1, *]; rfl) | fail)) (by exact rfl)) | (exact aop_load (by (first | (simp only [ASt.ev, tmPut, ↓reduceIte, reduceIte, Nat.reduceEqDiff, plain1, *]; rfl) | fail)) (by exact rfl) rfl (by assumption)) | (exact aop_nilCheck (by (first | (simp only [ASt.ev, tmPut, ↓reduceIte, reduceIte, Nat.reduceEqDiff, plain1, *]; rfl) | fail))) | fail)) ?_) | (refine Trip.seq ?_) | (refine Trip.ops ?_) | (refine Trip.skip ?_; ((repeat (first | refine blockExit_eq ?_ | refine blockExit_ne (by decide) ?_ | refine blockExit_normal ?_ | refine blockExit_ret ?_ | refine blockExit_goto ?_)); first | (change Trip _ _ _ _ _) | dsimp only | skip)) | fail)
      refine OpsL.call1 (by subst_vars; decide) (by (first | (simp only [ASt.ev, tmPut, ↓reduceIte, reduceIte, Nat.reduceEqDiff, plain1, *]; done) | fail)) entersClone (cloneO W0 hrow hRl) ?_
      rintro v1 nx1 H1 hv1
      repeat (first | (refine OpsL.p (by subst_vars; decide) (by (first | (exact aop_assign (by (first | (simp only [ASt.ev, tmPut, ↓reduceIte, reduceIte, Nat.reduceEqDiff, plain1, *]; rfl) | fail))) | fail)) ?_) | (refine Trip.ret ?_; ((repeat (first | refine blockExit_eq ?_ | refine blockExit_ne (by decide) ?_ | refine blockExit_normal ?_ | refine blockExit_ret ?_ | refine blockExit_goto ?_)); first | (change Trip _ _ _ _ _) | dsimp only | skip)) | (refine OpsL.nil ?_; ((repeat (first | refine blockExit_eq ?_ | refine blockExit_ne (by decide) ?_ | refine blockExit_normal ?_ | refine blockExit_ret ?_ | refine blockExit_goto ?_)); first | (change Trip _ _ _ _ _) | dsimp only | skip)) | fail)
      exact ⟨.inr rfl, _, res_tmp, R[i], by simpa [tmPut] using hv1, .inl ⟨by omega, by rw [Int.toNat_natCast, List.getElem?_eq_getElem (by omega)]⟩⟩

end Go.Proofs.Ytigincejpjajpaa
