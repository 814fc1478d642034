/-
  Chapter 1: symAt, Deep of package word, Deep of the document said a second time, by one plain fold.
-/
import Derived.Test.YtbopknfalilliaaSym1
namespace Go.Proofs.Ytbopknfalilliaa
set_option linter.unusedSimpArgs false
set_option linter.unusedVariables false
open Go.Am Go.RowKit
attribute [local irreducible] aop OpsL Trip blockExit OpsD

set_option maxRecDepth 20000 in
set_option maxHeartbeats 4000000 in
theorem symAtC (W0 : World) {nx : Nat} {H : Heap} {lv : Value} {ss : List (ByteArray × Int)} {x : Int} (hl : SymsAt H lv ss) (h0 : 0 ≤ x) (h1 : x < ss.length) :
    ACalls Try.prog W0 33 [lv, .int .i64 x] nx H fun v nx' H' => v = .agg #[.string (ss[x.toNat]'(by omega)).1, .int .i64 (ss[x.toNat]'(by omega)).2] ∧ Ext nx H nx' H' := by
  obtain ⟨la, lc, rfl, hl⟩ := hl
  refine ACalls.by_trip (fn := Try.f33) (c := _) Try.func33 rfl (fun tm n hn0 htm => ?_)
  have e0 : tm 0 = .slice (some la) ss.length lc := htm 0
  have e1 : tm 1 = .int .i64 x := htm 1
  clear htm
  replace hn0 : n = 18 := hn0
  refine Trip.ok fun hok => ?_
  have hg := hl x.toNat (by omega)
  obtain ⟨o, ho⟩ := getc_some hg
  have hlt : la.block < nx := hok _ _ ho
  refine Trip.seq (Trip.ops ?_)
  refine OpsL.new (by subst_vars; decide) (aop_alloc (by exact rfl)) ?_
  repeat' (first | (refine OpsL.p (by subst_vars; decide) (by (first | (exact aop_move (by (first | (simp only [ASt.ev, tmPut, ↓reduceIte, reduceIte, Nat.reduceEqDiff, plain1, *]; rfl) | fail))) | (exact aop_lss (by (first | (simp only [ASt.ev, tmPut, ↓reduceIte, reduceIte, Nat.reduceEqDiff, plain1, *]; rfl) | fail)) (by (first | (simp only [ASt.ev, tmPut, ↓reduceIte, reduceIte, Nat.reduceEqDiff, plain1, *]; rfl) | fail))) | (exact aop_geq (by (first | (simp only [ASt.ev, tmPut, ↓reduceIte, reduceIte, Nat.reduceEqDiff, plain1, *]; rfl) | fail)) (by (first | (simp only [ASt.ev, tmPut, ↓reduceIte, reduceIte, Nat.reduceEqDiff, plain1, *]; rfl) | fail))) | (exact aop_len (by (first | (simp only [ASt.ev, tmPut, ↓reduceIte, reduceIte, Nat.reduceEqDiff, plain1, *]; rfl) | fail)) (by exact rfl)) | (exact aop_indexAddr (by (first | (simp only [ASt.ev, tmPut, ↓reduceIte, reduceIte, Nat.reduceEqDiff, plain1, *]; rfl) | fail)) (by (first | (simp only [ASt.ev, tmPut, ↓reduceIte, reduceIte, Nat.reduceEqDiff, plain1, *]; rfl) | fail)) (by exact rfl) (by exact rfl) (by omega) (by omega)) | (exact aop_pickT (by (first | (simp only [ASt.ev, tmPut, ↓reduceIte, reduceIte, Nat.reduceEqDiff, decide_true, decide_false, not_true_eq_false, not_false_eq_true, Bool.not_true, Bool.not_false, *]; done) | fail)) (by (first | (simp only [ASt.ev, tmPut, ↓reduceIte, reduceIte, Nat.reduceEqDiff, plain1, *]; rfl) | fail))) | (exact aop_pickF (by (first | (simp only [ASt.ev, tmPut, ↓reduceIte, reduceIte, Nat.reduceEqDiff, decide_true, decide_false, not_true_eq_false, not_false_eq_true, Bool.not_true, Bool.not_false, *]; done) | fail)) (by (first | (simp only [ASt.ev, tmPut, ↓reduceIte, reduceIte, Nat.reduceEqDiff, plain1, *]; rfl) | fail))) | fail)) ?_) | (refine Trip.seq ?_) | (refine Trip.ops ?_) | (refine Trip.ite (by (first | (simp only [ASt.ev, tmPut, ↓reduceIte, reduceIte, Nat.reduceEqDiff, plain1, *]; rfl) | fail)) (fun _ => ?_) (fun _ => ?_)) | (refine Trip.skip ?_; ((repeat (first | refine blockExit_eq ?_ | refine blockExit_ne (by decide) ?_ | refine blockExit_normal ?_ | refine blockExit_ret ?_ | refine blockExit_goto ?_)); first | (change Trip _ _ _ _ _) | dsimp only | skip)) | (refine OpsL.nil ?_; ((repeat (first | refine blockExit_eq ?_ | refine blockExit_ne (by decide) ?_ | refine blockExit_normal ?_ | refine blockExit_ret ?_ | refine blockExit_goto ?_)); first | (change Trip _ _ _ _ _) | dsimp only | skip)) | (refine OpsL.unguard (by exact rfl) (by (first | (simp only [ASt.ev, tmPut, ↓reduceIte, reduceIte, Nat.reduceEqDiff, decide_true, decide_false, not_true_eq_false, not_false_eq_true, Bool.not_true, Bool.not_false, *]; done) | fail)) ?_) | (refine OpsL.skipped (by exact rfl) (by (first | (simp only [ASt.ev, tmPut, ↓reduceIte, reduceIte, Nat.reduceEqDiff, decide_true, decide_false, not_true_eq_false, not_false_eq_true, Bool.not_true, Bool.not_false, *]; done) | fail)) (by subst_vars; decide) ?_) | (refine OpsL.guardF (by exact rfl) (by (first | (simp only [ASt.ev, tmPut, ↓reduceIte, reduceIte, Nat.reduceEqDiff, plain1, *]; rfl) | fail)) (by subst_vars; decide) (fun _ => ?_) (fun _ => ?_)) | fail)
  all_goals first | (exfalso; omega) | skip
  refine OpsL.p (by subst_vars; decide) (aop_loadAgg (by (first | (simp only [ASt.ev, tmPut, ↓reduceIte, reduceIte, Nat.reduceEqDiff, plain1, *]; rfl) | fail)) (by exact rfl) rfl (by exact rfl) (by rw [getc_put (by show la.block ≠ nx; omega)]; exact hg)) ?_
  refine OpsL.upd (aop_store (by (first | (simp only [ASt.ev, tmPut, ↓reduceIte, reduceIte, Nat.reduceEqDiff, plain1, *]; rfl) | fail)) (by (first | (simp only [ASt.ev, tmPut, ↓reduceIte, reduceIte, Nat.reduceEqDiff, plain1, *]; rfl) | fail)) (by exact rfl) rfl (by simp [setc, Heap.put_eq, Value.cells]; exact ⟨⟨rfl, rfl⟩, rfl⟩)) ?_
  repeat' (first | (refine Trip.ret ?_; ((repeat (first | refine blockExit_eq ?_ | refine blockExit_ne (by decide) ?_ | refine blockExit_normal ?_ | refine blockExit_ret ?_ | refine blockExit_goto ?_)); first | (change Trip _ _ _ _ _) | dsimp only | skip)) | (refine OpsL.nil ?_; ((repeat (first | refine blockExit_eq ?_ | refine blockExit_ne (by decide) ?_ | refine blockExit_normal ?_ | refine blockExit_ret ?_ | refine blockExit_goto ?_)); first | (change Trip _ _ _ _ _) | dsimp only | skip)) | fail)
  refine ⟨.inr rfl, _, res_cell (by (first | (simp only [ASt.ev, tmPut, ↓reduceIte, reduceIte, Nat.reduceEqDiff, plain1, *]; rfl) | fail)) (readAt_agg (k := 2) (by exact rfl) rfl (by exact rfl) (getc_own (by simp))), rfl, by simp, ?_⟩
  intro i hi
  rw [Heap.put_ne (by omega), Heap.put_ne (by omega)]

def deepStep (p : Int × Int) (k : Int) : Int × Int :=
  let n := if k = 1 then p.2 + 1 else if k = 2 then max (p.2 - 1) 0 else p.2
  (max p.1 n, n)

def kindsOf (ss : List (ByteArray × Int)) (xs : List Int) : List Int := xs.map fun x => ((ss[x.toNat]?).map (·.2)).getD 0
def deepF (l : List Int) : Int × Int := l.foldl deepStep (0, 0)
theorem deepF_bound (l : List Int) : 0 ≤ (deepF l).2 ∧ (deepF l).2 ≤ l.length ∧ 0 ≤ (deepF l).1 ∧ (deepF l).1 ≤ l.length ∧ (deepF l).2 ≤ (deepF l).1 := by
  have key : ∀ (l : List Int) (p : Int × Int) (k : Nat), 0 ≤ p.2 → p.2 ≤ k → 0 ≤ p.1 → p.1 ≤ k → p.2 ≤ p.1 → 0 ≤ (l.foldl deepStep p).2 ∧ (l.foldl deepStep p).2 ≤ (k + l.length : Nat) ∧ 0 ≤ (l.foldl deepStep p).1 ∧ (l.foldl deepStep p).1 ≤ (k + l.length : Nat) ∧ (l.foldl deepStep p).2 ≤ (l.foldl deepStep p).1 := by
    intro l
    induction l with
    | nil => intro p k a b c d e; exact ⟨a, by simpa using b, c, by simpa using d, e⟩
    | cons x l ih =>
      intro p k a b c d e
      rw [List.foldl_cons, List.length_cons, show k + (l.length + 1) = (k + 1) + l.length by omega]
      refine ih _ (k + 1) ?_ ?_ ?_ ?_ ?_ <;> (simp only [deepStep]; repeat' split) <;> omega
  simpa [deepF] using key l (0, 0) 0 (by simp) (by simp) (by simp) (by simp) (by simp)
theorem deepF_take {xs : List Int} {ss : List (ByteArray × Int)} {i : Nat} (h : i < xs.length) (h2 : xs[i].toNat < ss.length) : deepF (kindsOf ss (xs.take (i + 1))) = deepStep (deepF (kindsOf ss (xs.take i))) ss[xs[i].toNat].2 := by
  unfold deepF kindsOf
  rw [List.take_succ_eq_append_getElem h, List.map_append, List.foldl_append]
  simp [List.getElem?_eq_getElem h2]


theorem entersSymAt : Enters Try.prog 33 := ⟨Try.f33, Try.func33, by kernel_rfl, by kernel_rfl⟩

set_option maxRecDepth 20000 in
set_option maxHeartbeats 4000000 in
theorem wordDeepC (W0 : World) {nx : Nat} {H : Heap} {lv wv : Value} {ss : List (ByteArray × Int)} {xs : List Int} (hl : SymsAt H lv ss) (hw : IntsAt H wv xs) (hx : ∀ x ∈ xs, 0 ≤ x ∧ x < ss.length) (hn : xs.length < 1000000000) :
    ACalls Try.prog W0 27 [lv, wv] nx H fun v nx' H' => v = .int .i64 (deepF (kindsOf ss xs)).1 ∧ Ext nx H nx' H' := by
  obtain ⟨la, lc, rfl, hl⟩ := hl
  obtain ⟨wa, wc, rfl⟩ := hw.slice
  refine ACalls.by_trip (fn := Try.f27) (c := _) Try.func27 rfl (fun tm n hn0 htm => ?_)
  have e0 : tm 0 = .slice (some la) ss.length lc := htm 0
  have e1 : tm 1 = .slice wa xs.length wc := htm 1
  clear htm
  replace hn0 : n = 33 := hn0
  refine Trip.ok fun hok => ?_
  replace hok : ∀ id o, H id = some o → id < nx := hok
  repeat (first | (refine OpsL.p (by subst_vars; decide) (by (first | (exact aop_move (by (first | (simp only [ASt.ev, tmPut, ↓reduceIte, reduceIte, Nat.reduceEqDiff, plain1, *]; rfl) | fail))) | (exact aop_assign (by (first | (simp only [ASt.ev, tmPut, ↓reduceIte, reduceIte, Nat.reduceEqDiff, plain1, *]; rfl) | fail))) | (exact aop_len (by (first | (simp only [ASt.ev, tmPut, ↓reduceIte, reduceIte, Nat.reduceEqDiff, plain1, *]; rfl) | fail)) (by exact rfl)) | fail)) ?_) | (refine Trip.seq ?_) | (refine Trip.ops ?_) | (refine Trip.block ?_) | (refine OpsL.nil ?_; ((repeat (first | refine blockExit_eq ?_ | refine blockExit_ne (by decide) ?_ | refine blockExit_normal ?_ | refine blockExit_ret ?_ | refine blockExit_goto ?_)); first | (change Trip _ _ _ _ _) | dsimp only | skip)) | fail)
  refine Trip.inv (fun (i : Nat) s => ∃ (tm : Nat → Value) (nx' : Nat) (H' : Heap), s = ⟨tm, n, H', nx'⟩ ∧ Ext nx H nx' H' ∧ tm 0 = .slice (some la) ss.length lc ∧ tm 9 = .slice wa xs.length wc ∧ tm 10 = .int .i64 xs.length ∧ i ≤ xs.length ∧ tm 11 = .int .i64 i ∧
     tm 6 = .int .i64 (deepF (kindsOf ss (xs.take i))).1 ∧ tm 5 = .int .i64 (deepF (kindsOf ss (xs.take i))).2) (fun i => xs.length - i) 0 ?_ ?_
  · exact ⟨_, _, _, rfl, ⟨Nat.le_refl _, fun _ _ => rfl⟩, e0, rfl, rfl, by omega, rfl, rfl, rfl⟩
  · rintro i s ⟨tm, nx', H', rfl, hext, e0, e9, e10, hi, e11, e6, e5⟩
    have hb := deepF_bound (kindsOf ss (xs.take i))
    have hs := @deepF_take xs ss i
    rw [show (kindsOf ss (xs.take i)).length = i by simp [kindsOf]; omega] at hb
    generalize hp : deepF (kindsOf ss (xs.take i)) = pr at *
    repeat (first | (refine OpsL.p (by subst_vars; decide) (by (first | (exact aop_lss (by (first | (simp only [ASt.ev, tmPut, ↓reduceIte, reduceIte, Nat.reduceEqDiff, plain1, *]; rfl) | fail)) (by (first | (simp only [ASt.ev, tmPut, ↓reduceIte, reduceIte, Nat.reduceEqDiff, plain1, *]; rfl) | fail))) | fail)) ?_) | (refine Trip.seq ?_) | (refine Trip.ops ?_) | (refine Trip.block ?_) | (refine Trip.ite (by (first | (simp only [ASt.ev, tmPut, ↓reduceIte, reduceIte, Nat.reduceEqDiff, plain1, *]; rfl) | fail)) (fun _ => ?_) (fun _ => ?_)) | (refine Trip.skip ?_; ((repeat (first | refine blockExit_eq ?_ | refine blockExit_ne (by decide) ?_ | refine blockExit_normal ?_ | refine blockExit_ret ?_ | refine blockExit_goto ?_)); first | (change Trip _ _ _ _ _) | dsimp only | skip)) | (refine OpsL.nil ?_; ((repeat (first | refine blockExit_eq ?_ | refine blockExit_ne (by decide) ?_ | refine blockExit_normal ?_ | refine blockExit_ret ?_ | refine blockExit_goto ?_)); first | (change Trip _ _ _ _ _) | dsimp only | skip)) | fail)
    · rename_i hlt
      have hlt : i < xs.length := by omega
      obtain ⟨p, rfl, hc⟩ := hw.get hlt
      replace hc : cellAt H' ⟨p.block, p.off + (i : Int).toNat * 1, p.spot⟩ (.int .i64 xs[i]) := by
        have := getc_ext hext hok hc
        simpa [cellAt] using this
      obtain ⟨hx0, hx1⟩ := hx xs[i] (List.getElem_mem hlt)
      have hs := hs hlt (by omega)
      repeat (first | (refine OpsL.p (by subst_vars; decide) (by (first | (exact aop_move (by (first | (simp only [ASt.ev, tmPut, ↓reduceIte, reduceIte, Nat.reduceEqDiff, plain1, *]; rfl) | fail))) | (exact aop_assign (by (first | (simp only [ASt.ev, tmPut, ↓reduceIte, reduceIte, Nat.reduceEqDiff, plain1, *]; rfl) | fail))) | (exact aop_indexAddr (by (first | (simp only [ASt.ev, tmPut, ↓reduceIte, reduceIte, Nat.reduceEqDiff, plain1, *]; rfl) | fail)) (by (first | (simp only [ASt.ev, tmPut, ↓reduceIte, reduceIte, Nat.reduceEqDiff, plain1, *]; rfl) | fail)) (by exact rfl) (by exact rfl) (by omega) (by omega)) | (exact aop_load (by (first | (simp only [ASt.ev, tmPut, ↓reduceIte, reduceIte, Nat.reduceEqDiff, plain1, *]; rfl) | fail)) (by exact rfl) rfl (by assumption)) | fail)) ?_) | (refine Trip.seq ?_) | (refine Trip.ops ?_) | (refine OpsL.nil ?_; ((repeat (first | refine blockExit_eq ?_ | refine blockExit_ne (by decide) ?_ | refine blockExit_normal ?_ | refine blockExit_ret ?_ | refine blockExit_goto ?_)); first | (change Trip _ _ _ _ _) | dsimp only | skip)) | fail)
      have hl' : SymsAt H' (.slice (some la) ss.length lc) ss := ⟨la, lc, rfl, fun k hk => getc_ext hext hok (hl k hk)⟩
      refine OpsL.call2 (by subst_vars; decide) (by (first | (simp only [ASt.ev, tmPut, ↓reduceIte, reduceIte, Nat.reduceEqDiff, plain1, *]; done) | fail)) (by (first | (simp only [ASt.ev, tmPut, ↓reduceIte, reduceIte, Nat.reduceEqDiff, plain1, *]; done) | fail)) entersSymAt (symAtC W0 hl' hx0 hx1) ?_
      rintro v nx2 H2 ⟨rfl, hle, hsame⟩
      have hext2 : Ext nx H nx2 H2 := ⟨Nat.le_trans hext.1 hle, fun k hk => by rw [hsame k (by have := hext.1; omega), hext.2 k hk]⟩
      repeat' (first | (refine OpsL.p (by subst_vars; decide) (by (first | (exact aop_move (by (first | (simp only [ASt.ev, tmPut, ↓reduceIte, reduceIte, Nat.reduceEqDiff, plain1, *]; rfl) | fail))) | (exact aop_assign (by (first | (simp only [ASt.ev, tmPut, ↓reduceIte, reduceIte, Nat.reduceEqDiff, plain1, *]; rfl) | fail))) | (exact aop_eql (by (first | (simp only [ASt.ev, tmPut, ↓reduceIte, reduceIte, Nat.reduceEqDiff, plain1, *]; rfl) | fail)) (by (first | (simp only [ASt.ev, tmPut, ↓reduceIte, reduceIte, Nat.reduceEqDiff, plain1, *]; rfl) | fail))) | (exact aop_add (by (first | (simp only [ASt.ev, tmPut, ↓reduceIte, reduceIte, Nat.reduceEqDiff, plain1, *]; rfl) | fail)) (by (first | (simp only [ASt.ev, tmPut, ↓reduceIte, reduceIte, Nat.reduceEqDiff, plain1, *]; rfl) | fail)) (by omega)) | (exact aop_sub (by (first | (simp only [ASt.ev, tmPut, ↓reduceIte, reduceIte, Nat.reduceEqDiff, plain1, *]; rfl) | fail)) (by (first | (simp only [ASt.ev, tmPut, ↓reduceIte, reduceIte, Nat.reduceEqDiff, plain1, *]; rfl) | fail)) (by omega)) | (exact aop_max (by (first | (simp only [ASt.ev, tmPut, ↓reduceIte, reduceIte, Nat.reduceEqDiff, plain1, *]; rfl) | fail)) (by (first | (simp only [ASt.ev, tmPut, ↓reduceIte, reduceIte, Nat.reduceEqDiff, plain1, *]; rfl) | fail))) | (exact aop_field (by (first | (simp only [ASt.ev, tmPut, ↓reduceIte, reduceIte, Nat.reduceEqDiff, plain1, *]; rfl) | fail)) (by exact rfl) (by exact rfl) (by exact rfl) rfl (by exact rfl)) | fail)) ?_) | (refine Trip.seq ?_) | (refine Trip.ops ?_) | (refine Trip.block ?_) | (refine Trip.ite (by (first | (simp only [ASt.ev, tmPut, ↓reduceIte, reduceIte, Nat.reduceEqDiff, plain1, *]; rfl) | fail)) (fun _ => ?_) (fun _ => ?_)) | (refine Trip.skip ?_; ((repeat (first | refine blockExit_eq ?_ | refine blockExit_ne (by decide) ?_ | refine blockExit_normal ?_ | refine blockExit_ret ?_ | refine blockExit_goto ?_)); first | (change Trip _ _ _ _ _) | dsimp only | skip)) | (refine OpsL.nil ?_; ((repeat (first | refine blockExit_eq ?_ | refine blockExit_ne (by decide) ?_ | refine blockExit_normal ?_ | refine blockExit_ret ?_ | refine blockExit_goto ?_)); first | (change Trip _ _ _ _ _) | dsimp only | skip)) | fail)
      all_goals
        refine ⟨i + 1, ⟨_, _, _, rfl, hext2, e0, e9, e10, by omega, ?_, ?_, ?_⟩, by omega⟩
        · simp [tmPut]
        · rw [hs]; simp [tmPut, deepStep, *] <;> omega
        · rw [hs]; simp [tmPut, deepStep, *] <;> omega
    · rename_i hlt
      repeat (first | (refine OpsL.p (by subst_vars; decide) (by (first | (exact aop_move (by (first | (simp only [ASt.ev, tmPut, ↓reduceIte, reduceIte, Nat.reduceEqDiff, plain1, *]; rfl) | fail))) | (exact aop_assign (by (first | (simp only [ASt.ev, tmPut, ↓reduceIte, reduceIte, Nat.reduceEqDiff, plain1, *]; rfl) | fail))) | fail)) ?_) | (refine Trip.seq ?_) | (refine Trip.ops ?_) | (refine Trip.exit ?_; ((repeat (first | refine blockExit_eq ?_ | refine blockExit_ne (by decide) ?_ | refine blockExit_normal ?_ | refine blockExit_ret ?_ | refine blockExit_goto ?_)); first | (change Trip _ _ _ _ _) | dsimp only | skip)) | (refine Trip.ret ?_; ((repeat (first | refine blockExit_eq ?_ | refine blockExit_ne (by decide) ?_ | refine blockExit_normal ?_ | refine blockExit_ret ?_ | refine blockExit_goto ?_)); first | (change Trip _ _ _ _ _) | dsimp only | skip)) | (refine OpsL.nil ?_; ((repeat (first | refine blockExit_eq ?_ | refine blockExit_ne (by decide) ?_ | refine blockExit_normal ?_ | refine blockExit_ret ?_ | refine blockExit_goto ?_)); first | (change Trip _ _ _ _ _) | dsimp only | skip)) | fail)
      have hi2 : i = xs.length := by omega
      subst hi2
      rw [List.take_length] at hp
      exact ⟨.inr rfl, _, res_tmp, by rw [hp]; simp [tmPut, *], hext⟩

set_option maxRecDepth 20000 in
set_option maxHeartbeats 4000000 in
theorem refDeepC (W0 : World) {nx : Nat} {H : Heap} {lv wv : Value} {ss : List (ByteArray × Int)} {xs : List Int} (hl : SymsAt H lv ss) (hw : IntsAt H wv xs) (hx : ∀ x ∈ xs, 0 ≤ x ∧ x < ss.length) (hn : xs.length < 1000000000) :
    ACalls Try.prog W0 28 [lv, wv] nx H fun v nx' H' => v = .int .i64 (deepF (kindsOf ss xs)).1 ∧ nx' = nx ∧ H' = H := by
  obtain ⟨la, lc, rfl, hl⟩ := hl
  obtain ⟨wa, wc, rfl⟩ := hw.slice
  refine ACalls.by_trip (fn := Try.f28) (c := _) Try.func28 rfl (fun tm n hn0 htm => ?_)
  have e0 : tm 0 = .slice (some la) ss.length lc := htm 0
  have e1 : tm 1 = .slice wa xs.length wc := htm 1
  clear htm
  replace hn0 : n = 35 := hn0
  repeat (first | (refine OpsL.p (by subst_vars; decide) (by (first | (exact aop_assign (by (first | (simp only [ASt.ev, tmPut, ↓reduceIte, reduceIte, Nat.reduceEqDiff, plain1, *]; rfl) | fail))) | fail)) ?_) | (refine Trip.seq ?_) | (refine Trip.ops ?_) | (refine Trip.block ?_) | (refine OpsL.nil ?_; ((repeat (first | refine blockExit_eq ?_ | refine blockExit_ne (by decide) ?_ | refine blockExit_normal ?_ | refine blockExit_ret ?_ | refine blockExit_goto ?_)); first | (change Trip _ _ _ _ _) | dsimp only | skip)) | fail)
  refine Trip.inv (fun (i : Nat) s => ∃ tm : Nat → Value, s = ⟨tm, n, H, nx⟩ ∧ tm 0 = .slice (some la) ss.length lc ∧ tm 1 = .slice wa xs.length wc ∧ i ≤ xs.length ∧ tm 7 = .int .i64 i ∧
     tm 5 = .int .i64 (deepF (kindsOf ss (xs.take i))).1 ∧ tm 6 = .int .i64 (deepF (kindsOf ss (xs.take i))).2) (fun i => xs.length - i) 0 ?_ ?_
  · exact ⟨_, rfl, e0, e1, by omega, rfl, rfl, rfl⟩
  · rintro i s ⟨tm, rfl, e0, e1, hi, e7, e5, e6⟩
    have hb := deepF_bound (kindsOf ss (xs.take i))
    have hs := @deepF_take xs ss i
    rw [show (kindsOf ss (xs.take i)).length = i by simp [kindsOf]; omega] at hb
    generalize hp : deepF (kindsOf ss (xs.take i)) = pr at *
    repeat (first | (refine OpsL.p (by subst_vars; decide) (by (first | (exact aop_move (by (first | (simp only [ASt.ev, tmPut, ↓reduceIte, reduceIte, Nat.reduceEqDiff, plain1, *]; rfl) | fail))) | (exact aop_lss (by (first | (simp only [ASt.ev, tmPut, ↓reduceIte, reduceIte, Nat.reduceEqDiff, plain1, *]; rfl) | fail)) (by (first | (simp only [ASt.ev, tmPut, ↓reduceIte, reduceIte, Nat.reduceEqDiff, plain1, *]; rfl) | fail))) | (exact aop_len (by (first | (simp only [ASt.ev, tmPut, ↓reduceIte, reduceIte, Nat.reduceEqDiff, plain1, *]; rfl) | fail)) (by exact rfl)) | fail)) ?_) | (refine Trip.seq ?_) | (refine Trip.ops ?_) | (refine Trip.block ?_) | (refine Trip.ite (by (first | (simp only [ASt.ev, tmPut, ↓reduceIte, reduceIte, Nat.reduceEqDiff, plain1, *]; rfl) | fail)) (fun _ => ?_) (fun _ => ?_)) | (refine Trip.skip ?_; ((repeat (first | refine blockExit_eq ?_ | refine blockExit_ne (by decide) ?_ | refine blockExit_normal ?_ | refine blockExit_ret ?_ | refine blockExit_goto ?_)); first | (change Trip _ _ _ _ _) | dsimp only | skip)) | (refine OpsL.nil ?_; ((repeat (first | refine blockExit_eq ?_ | refine blockExit_ne (by decide) ?_ | refine blockExit_normal ?_ | refine blockExit_ret ?_ | refine blockExit_goto ?_)); first | (change Trip _ _ _ _ _) | dsimp only | skip)) | fail)
    · rename_i hlt
      have hlt : i < xs.length := by omega
      obtain ⟨p, rfl, hc⟩ := hw.get hlt
      replace hc : cellAt H ⟨p.block, p.off + (i : Int).toNat * 1, p.spot⟩ (.int .i64 xs[i]) := by simpa using hc
      obtain ⟨hx0, hx1⟩ := hx xs[i] (List.getElem_mem hlt)
      have hx2 := cellAt_of_getc (hl xs[i].toNat (by omega))
      have hs := hs hlt (by omega)
      repeat' (first | (refine OpsL.p (by subst_vars; decide) (by (first | (exact aop_move (by (first | (simp only [ASt.ev, tmPut, ↓reduceIte, reduceIte, Nat.reduceEqDiff, plain1, *]; rfl) | fail))) | (exact aop_assign (by (first | (simp only [ASt.ev, tmPut, ↓reduceIte, reduceIte, Nat.reduceEqDiff, plain1, *]; rfl) | fail))) | (exact aop_eql (by (first | (simp only [ASt.ev, tmPut, ↓reduceIte, reduceIte, Nat.reduceEqDiff, plain1, *]; rfl) | fail)) (by (first | (simp only [ASt.ev, tmPut, ↓reduceIte, reduceIte, Nat.reduceEqDiff, plain1, *]; rfl) | fail))) | (exact aop_add (by (first | (simp only [ASt.ev, tmPut, ↓reduceIte, reduceIte, Nat.reduceEqDiff, plain1, *]; rfl) | fail)) (by (first | (simp only [ASt.ev, tmPut, ↓reduceIte, reduceIte, Nat.reduceEqDiff, plain1, *]; rfl) | fail)) (by omega)) | (exact aop_sub (by (first | (simp only [ASt.ev, tmPut, ↓reduceIte, reduceIte, Nat.reduceEqDiff, plain1, *]; rfl) | fail)) (by (first | (simp only [ASt.ev, tmPut, ↓reduceIte, reduceIte, Nat.reduceEqDiff, plain1, *]; rfl) | fail)) (by omega)) | (exact aop_max (by (first | (simp only [ASt.ev, tmPut, ↓reduceIte, reduceIte, Nat.reduceEqDiff, plain1, *]; rfl) | fail)) (by (first | (simp only [ASt.ev, tmPut, ↓reduceIte, reduceIte, Nat.reduceEqDiff, plain1, *]; rfl) | fail))) | (exact aop_indexAddr (by (first | (simp only [ASt.ev, tmPut, ↓reduceIte, reduceIte, Nat.reduceEqDiff, plain1, *]; rfl) | fail)) (by (first | (simp only [ASt.ev, tmPut, ↓reduceIte, reduceIte, Nat.reduceEqDiff, plain1, *]; rfl) | fail)) (by exact rfl) (by exact rfl) (by omega) (by omega)) | (exact aop_fieldAddr (by (first | (simp only [ASt.ev, tmPut, ↓reduceIte, reduceIte, Nat.reduceEqDiff, plain1, *]; rfl) | fail)) (by exact rfl)) | (exact aop_load (by (first | (simp only [ASt.ev, tmPut, ↓reduceIte, reduceIte, Nat.reduceEqDiff, plain1, *]; rfl) | fail)) (by exact rfl) rfl (by assumption)) | fail)) ?_) | (refine Trip.seq ?_) | (refine Trip.ops ?_) | (refine Trip.block ?_) | (refine Trip.ite (by (first | (simp only [ASt.ev, tmPut, ↓reduceIte, reduceIte, Nat.reduceEqDiff, plain1, *]; rfl) | fail)) (fun _ => ?_) (fun _ => ?_)) | (refine Trip.skip ?_; ((repeat (first | refine blockExit_eq ?_ | refine blockExit_ne (by decide) ?_ | refine blockExit_normal ?_ | refine blockExit_ret ?_ | refine blockExit_goto ?_)); first | (change Trip _ _ _ _ _) | dsimp only | skip)) | (refine OpsL.nil ?_; ((repeat (first | refine blockExit_eq ?_ | refine blockExit_ne (by decide) ?_ | refine blockExit_normal ?_ | refine blockExit_ret ?_ | refine blockExit_goto ?_)); first | (change Trip _ _ _ _ _) | dsimp only | skip)) | fail)
      all_goals
        refine ⟨i + 1, ⟨_, rfl, e0, e1, by omega, ?_, ?_, ?_⟩, by omega⟩
        · simp [tmPut]
        · rw [hs]; simp [tmPut, deepStep, *]
        · rw [hs]; simp [tmPut, deepStep, *]
    · rename_i hlt
      repeat (first | (refine OpsL.p (by subst_vars; decide) (by (first | (exact aop_move (by (first | (simp only [ASt.ev, tmPut, ↓reduceIte, reduceIte, Nat.reduceEqDiff, plain1, *]; rfl) | fail))) | (exact aop_assign (by (first | (simp only [ASt.ev, tmPut, ↓reduceIte, reduceIte, Nat.reduceEqDiff, plain1, *]; rfl) | fail))) | fail)) ?_) | (refine Trip.seq ?_) | (refine Trip.ops ?_) | (refine Trip.exit ?_; ((repeat (first | refine blockExit_eq ?_ | refine blockExit_ne (by decide) ?_ | refine blockExit_normal ?_ | refine blockExit_ret ?_ | refine blockExit_goto ?_)); first | (change Trip _ _ _ _ _) | dsimp only | skip)) | (refine Trip.ret ?_; ((repeat (first | refine blockExit_eq ?_ | refine blockExit_ne (by decide) ?_ | refine blockExit_normal ?_ | refine blockExit_ret ?_ | refine blockExit_goto ?_)); first | (change Trip _ _ _ _ _) | dsimp only | skip)) | (refine OpsL.nil ?_; ((repeat (first | refine blockExit_eq ?_ | refine blockExit_ne (by decide) ?_ | refine blockExit_normal ?_ | refine blockExit_ret ?_ | refine blockExit_goto ?_)); first | (change Trip _ _ _ _ _) | dsimp only | skip)) | fail)
      have hi2 : i = xs.length := by omega
      subst hi2
      refine ⟨.inr rfl, _, rfl, ?_, rfl, rfl⟩
      rw [List.take_length] at hp
      rw [hp]
      simp [tmPut, ASt.tm]


end Go.Proofs.Ytbopknfalilliaa
