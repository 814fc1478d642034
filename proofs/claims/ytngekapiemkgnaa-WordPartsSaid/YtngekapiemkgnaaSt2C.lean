/-
  Texts laid together: Deep0, Match1, Own1, PInv1, Whole0, Insert1, AppI1.
-/
import Derived.Test.YtngekapiemkgnaaSt2A
import Derived.Test.YtngekapiemkgnaaSt2B
import Derived.Test.YtngekapiemkgnaaAmZS
/-
  Chapter 1: symAt of package word; depth by one plain fold.
-/
namespace Go.Proofs.Ytngekapiemkgnaa
set_option linter.unusedSimpArgs false
set_option linter.unusedVariables false
open Go.Am Go.RowKit
attribute [local irreducible] aop OpsL Trip blockExit OpsD

set_option maxRecDepth 20000 in
set_option maxHeartbeats 4000000 in
theorem symAtC (W0 : World) {nx : Nat} {H : Heap} {lv : Value} {ss : List (ByteArray × Int)} {x : Int} (hl : SymsAt H lv ss) (h0 : 0 ≤ x) (h1 : x < ss.length) :
    ACalls Try.prog W0 25 [lv, .int .i64 x] nx H fun v nx' H' => v = .agg #[.string (ss[x.toNat]'(by omega)).1, .int .i64 (ss[x.toNat]'(by omega)).2] ∧ Ext nx H nx' H' := by
  obtain ⟨la, lc, rfl, hl⟩ := hl
  refine ACalls.by_trip (fn := Try.f25) (c := _) Try.func25 rfl (fun tm n hn0 htm => ?_)
  have e0 : tm 0 = .slice (some la) ss.length lc := htm 0
  have e1 : tm 1 = .int .i64 x := htm 1
  clear htm
  replace hn0 : n = 18 := hn0
  refine Trip.ok fun hok => ?_
  have hg := hl x.toNat (by omega)
  obtain ⟨o, ho⟩ := getc_some hg
  have hlt : la.block < nx := hok _ _ ho
  refine Trip.seq (Trip.ops ?_)
  refine OpsL.new (by subst_vars; decide) (aop_alloc (by exact rfl)) ?_
  repeat' (first | (refine OpsL.p (by subst_vars; decide) (by (first | (exact aop_move (by (first | (simp only [ASt.ev, tmPut, ↓reduceIte, reduceIte, Nat.reduceEqDiff, plain1, *]; rfl) | fail))) | (exact aop_lss (by (first | (simp only [ASt.ev, tmPut, ↓reduceIte, reduceIte, Nat.reduceEqDiff, plain1, *]; rfl) | fail)) (by (first | (simp only [ASt.ev, tmPut, ↓reduceIte, reduceIte, Nat.reduceEqDiff, plain1, *]; rfl) | fail))) | (exact aop_geq (by (first | (simp only [ASt.ev, tmPut, ↓reduceIte, reduceIte, Nat.reduceEqDiff, plain1, *]; rfl) | fail)) (by (first | (simp only [ASt.ev, tmPut, ↓reduceIte, reduceIte, Nat.reduceEqDiff, plain1, *]; rfl) | fail))) | (exact aop_len (by (first | (simp only [ASt.ev, tmPut, ↓reduceIte, reduceIte, Nat.reduceEqDiff, plain1, *]; rfl) | fail)) (by exact rfl)) | (exact aop_indexAddr (by (first | (simp only [ASt.ev, tmPut, ↓reduceIte, reduceIte, Nat.reduceEqDiff, plain1, *]; rfl) | fail)) (by (first | (simp only [ASt.ev, tmPut, ↓reduceIte, reduceIte, Nat.reduceEqDiff, plain1, *]; rfl) | fail)) (by exact rfl) (by exact rfl) (by omega) (by omega)) | (exact aop_pickT (by (first | (simp only [ASt.ev, tmPut, ↓reduceIte, reduceIte, Nat.reduceEqDiff, decide_true, decide_false, not_true_eq_false, not_false_eq_true, Bool.not_true, Bool.not_false, *]; done) | fail)) (by (first | (simp only [ASt.ev, tmPut, ↓reduceIte, reduceIte, Nat.reduceEqDiff, plain1, *]; rfl) | fail))) | (exact aop_pickF (by (first | (simp only [ASt.ev, tmPut, ↓reduceIte, reduceIte, Nat.reduceEqDiff, decide_true, decide_false, not_true_eq_false, not_false_eq_true, Bool.not_true, Bool.not_false, *]; done) | fail)) (by (first | (simp only [ASt.ev, tmPut, ↓reduceIte, reduceIte, Nat.reduceEqDiff, plain1, *]; rfl) | fail))) | fail)) ?_) | (refine Trip.seq ?_) | (refine Trip.ops ?_) | (refine Trip.ite (by (first | (simp only [ASt.ev, tmPut, ↓reduceIte, reduceIte, Nat.reduceEqDiff, plain1, *]; rfl) | fail)) (fun _ => ?_) (fun _ => ?_)) | (refine Trip.skip ?_; ((repeat (first | refine blockExit_eq ?_ | refine blockExit_ne (by decide) ?_ | refine blockExit_normal ?_ | refine blockExit_ret ?_ | refine blockExit_goto ?_)); first | (change Trip _ _ _ _ _) | dsimp only | skip)) | (refine OpsL.nil ?_; ((repeat (first | refine blockExit_eq ?_ | refine blockExit_ne (by decide) ?_ | refine blockExit_normal ?_ | refine blockExit_ret ?_ | refine blockExit_goto ?_)); first | (change Trip _ _ _ _ _) | dsimp only | skip)) | (refine OpsL.unguard (by exact rfl) (by (first | (simp only [ASt.ev, tmPut, ↓reduceIte, reduceIte, Nat.reduceEqDiff, decide_true, decide_false, not_true_eq_false, not_false_eq_true, Bool.not_true, Bool.not_false, *]; done) | fail)) ?_) | (refine OpsL.skipped (by exact rfl) (by (first | (simp only [ASt.ev, tmPut, ↓reduceIte, reduceIte, Nat.reduceEqDiff, decide_true, decide_false, not_true_eq_false, not_false_eq_true, Bool.not_true, Bool.not_false, *]; done) | fail)) (by subst_vars; decide) ?_) | (refine OpsL.guardF (by exact rfl) (by (first | (simp only [ASt.ev, tmPut, ↓reduceIte, reduceIte, Nat.reduceEqDiff, plain1, *]; rfl) | fail)) (by subst_vars; decide) (fun _ => ?_) (fun _ => ?_)) | fail)
  all_goals first | (exfalso; omega) | skip
  refine OpsL.p (by subst_vars; decide) (aop_loadAgg (by (first | (simp only [ASt.ev, tmPut, ↓reduceIte, reduceIte, Nat.reduceEqDiff, plain1, *]; rfl) | fail)) (by exact rfl) rfl (by exact rfl) (by rw [getc_put (by show la.block ≠ nx; omega)]; exact hg)) ?_
  refine OpsL.upd (aop_store (by (first | (simp only [ASt.ev, tmPut, ↓reduceIte, reduceIte, Nat.reduceEqDiff, plain1, *]; rfl) | fail)) (by (first | (simp only [ASt.ev, tmPut, ↓reduceIte, reduceIte, Nat.reduceEqDiff, plain1, *]; rfl) | fail)) (by exact rfl) rfl (by simp [setc, Heap.put_eq, Value.cells]; exact ⟨⟨rfl, rfl⟩, rfl⟩)) ?_
  repeat' (first | (refine Trip.ret ?_; ((repeat (first | refine blockExit_eq ?_ | refine blockExit_ne (by decide) ?_ | refine blockExit_normal ?_ | refine blockExit_ret ?_ | refine blockExit_goto ?_)); first | (change Trip _ _ _ _ _) | dsimp only | skip)) | (refine OpsL.nil ?_; ((repeat (first | refine blockExit_eq ?_ | refine blockExit_ne (by decide) ?_ | refine blockExit_normal ?_ | refine blockExit_ret ?_ | refine blockExit_goto ?_)); first | (change Trip _ _ _ _ _) | dsimp only | skip)) | fail)
  refine ⟨.inr rfl, _, res_cell (by (first | (simp only [ASt.ev, tmPut, ↓reduceIte, reduceIte, Nat.reduceEqDiff, plain1, *]; rfl) | fail)) (readAt_agg (k := 2) (by exact rfl) rfl (by exact rfl) (getc_own (by simp))), rfl, by simp, ?_⟩
  intro i hi
  rw [Heap.put_ne (by omega), Heap.put_ne (by omega)]

def deepStep (p : Int × Int) (k : Int) : Int × Int :=
  let n := if k = 1 then p.2 + 1 else if k = 2 then max (p.2 - 1) 0 else p.2
  (max p.1 n, n)

def kindsOf (ss : List (ByteArray × Int)) (xs : List Int) : List Int := xs.map fun x => ((ss[x.toNat]?).map (·.2)).getD 0
def deepF (l : List Int) : Int × Int := l.foldl deepStep (0, 0)
theorem deepF_bound (l : List Int) : 0 ≤ (deepF l).2 ∧ (deepF l).2 ≤ l.length ∧ 0 ≤ (deepF l).1 ∧ (deepF l).1 ≤ l.length ∧ (deepF l).2 ≤ (deepF l).1 := by
  have key : ∀ (l : List Int) (p : Int × Int) (k : Nat), 0 ≤ p.2 → p.2 ≤ k → 0 ≤ p.1 → p.1 ≤ k → p.2 ≤ p.1 → 0 ≤ (l.foldl deepStep p).2 ∧ (l.foldl deepStep p).2 ≤ (k + l.length : Nat) ∧ 0 ≤ (l.foldl deepStep p).1 ∧ (l.foldl deepStep p).1 ≤ (k + l.length : Nat) ∧ (l.foldl deepStep p).2 ≤ (l.foldl deepStep p).1 := by
    intro l
    induction l with
    | nil => intro p k a b c d e; exact ⟨a, by simpa using b, c, by simpa using d, e⟩
    | cons x l ih =>
      intro p k a b c d e
      rw [List.foldl_cons, List.length_cons, show k + (l.length + 1) = (k + 1) + l.length by omega]
      refine ih _ (k + 1) ?_ ?_ ?_ ?_ ?_ <;> (simp only [deepStep]; repeat' split) <;> omega
  simpa [deepF] using key l (0, 0) 0 (by simp) (by simp) (by simp) (by simp) (by simp)
theorem deepF_take {xs : List Int} {ss : List (ByteArray × Int)} {i : Nat} (h : i < xs.length) (h2 : xs[i].toNat < ss.length) : deepF (kindsOf ss (xs.take (i + 1))) = deepStep (deepF (kindsOf ss (xs.take i))) ss[xs[i].toNat].2 := by
  unfold deepF kindsOf
  rw [List.take_succ_eq_append_getElem h, List.map_append, List.foldl_append]
  simp [List.getElem?_eq_getElem h2]


theorem entersSymAt : Enters Try.prog 25 := ⟨Try.f25, Try.func25, by kernel_rfl, by kernel_rfl⟩

end Go.Proofs.Ytngekapiemkgnaa
/-
  Chapter 1: Match of package word, Match of the document said a second time, by one plain recursion.
-/
namespace Go.Proofs.Ytngekapiemkgnaa
set_option linter.unusedSimpArgs false
set_option linter.unusedVariables false
open Go.Am Go.RowKit
attribute [local irreducible] aop OpsL Trip blockExit OpsD

def matchStep (i : Nat) (k : Int) (p : List Int × List Int) : List Int × List Int :=
  if k = 1 then (p.1.set i (-1), p.2 ++ [(i : Int)])
  else if k = 2 then (match p.2.getLast? with
    | some j => (((p.1.set i (-1)).set i j).set j.toNat i, p.2.dropLast)
    | none => (p.1.set i (-1), p.2))
  else (p.1.set i (-1), p.2)

def matchS (ks : List Int) : Nat → List Int × List Int
  | 0 => (List.replicate ks.length 0, [])
  | i + 1 => matchStep i (ks.getD i 0) (matchS ks i)

def matchF (ks : List Int) : List Int := (matchS ks ks.length).1

/-- What holds ahead of place i. -/
structure MInv (n i : Nat) (p : List Int × List Int) : Prop where
  len : p.1.length = n
  op : ∀ x ∈ p.2, 0 ≤ x ∧ x < i
  num : p.2.length ≤ i
  low : ∀ x ∈ p.1, -1 ≤ x

theorem MInv.step {n i : Nat} {k : Int} {p : List Int × List Int} (h : MInv n i p) : MInv n (i + 1) (matchStep i k p) := by
  have hset : ∀ (l : List Int) (j : Nat) (v : Int), -1 ≤ v → (∀ x ∈ l, -1 ≤ x) → ∀ x ∈ l.set j v, -1 ≤ x := fun l j v hv hl x hx => by
    rcases List.mem_or_eq_of_mem_set hx with h | h
    · exact hl x h
    · omega
  have h1 := hset p.1 i (-1) (by omega) h.low
  unfold matchStep
  split
  · refine ⟨by simp [h.len], ?_, by simp; have := h.num; omega, h1⟩
    intro x hx
    rcases List.mem_append.1 hx with hx | hx
    · have := h.op x hx; omega
    · simp at hx; omega
  · split
    · split
      · rename_i j hj
        have hjm := List.mem_of_getLast? hj
        have := h.op j hjm
        refine ⟨by simp [h.len], fun x hx => by have := h.op x (List.dropLast_subset _ hx); omega, by simp; have := h.num; omega, ?_⟩
        exact hset _ _ _ (by omega) (hset _ _ _ (by omega) h1)
      · exact ⟨by simp [h.len], fun x hx => by have := h.op x hx; omega, by have := h.num; show p.2.length ≤ i + 1; omega, h1⟩
    · exact ⟨by simp [h.len], fun x hx => by have := h.op x hx; omega, by have := h.num; show p.2.length ≤ i + 1; omega, h1⟩

theorem matchS_inv (ks : List Int) : ∀ i, MInv ks.length i (matchS ks i) := by
  intro i
  induction i with
  | zero => exact ⟨by simp [matchS], by simp [matchS], by simp [matchS], by simp [matchS]⟩
  | succ i ih => exact ih.step

theorem kindsOf_getD {ss : List (ByteArray × Int)} {xs : List Int} {i : Nat} (h : i < xs.length) (h2 : xs[i].toNat < ss.length) : (kindsOf ss xs).getD i 0 = ss[xs[i].toNat].2 := by
  unfold kindsOf
  rw [List.getD_eq_getElem?_getD, List.getElem?_map, List.getElem?_eq_getElem h]
  simp [List.getElem?_eq_getElem h2]
theorem kindsOf_length {ss : List (ByteArray × Int)} {xs : List Int} : (kindsOf ss xs).length = xs.length := by simp [kindsOf]

theorem rep_zero (n : Nat) : rep n [Value.int .i64 0] = (List.replicate n (0 : Int)).map (.int .i64 ·) := by
  induction n with
  | zero => rfl
  | succ n ih => simp only [rep, List.replicate_succ, List.flatten_cons, List.map_cons] at *; rw [ih]; rfl

set_option maxRecDepth 20000 in
set_option maxHeartbeats 4000000 in
theorem wordMatchC (W0 : World) {nx : Nat} {H : Heap} {lv wv : Value} {ss : List (ByteArray × Int)} {xs : List Int} (hl : SymsAt H lv ss) (hw : IntsAt H wv xs) (hx : ∀ x ∈ xs, 0 ≤ x ∧ x < ss.length) (hn : xs.length < 1000000) :
    ACalls Try.prog W0 19 [lv, wv] nx H fun v nx' H' => v = .slice (some ⟨nx, 0, none⟩) xs.length xs.length ∧ H' nx = some (.cells ((matchF (kindsOf ss xs)).map (.int .i64 ·)) 1 none false (some 3)) ∧ Ext nx H nx' H' := by
  obtain ⟨la, lc, rfl, hl⟩ := hl
  obtain ⟨wa, wc, rfl⟩ := hw.slice
  refine ACalls.by_trip (fn := Try.f19) (c := _) Try.func19 rfl (fun tm n hn0 htm => ?_)
  have e0 : tm 0 = .slice (some la) ss.length lc := htm 0
  have e1 : tm 1 = .slice wa xs.length wc := htm 1
  clear htm
  replace hn0 : n = 59 := hn0
  refine Trip.ok fun hok => ?_
  replace hok : ∀ id o, H id = some o → id < nx := hok
  repeat (first | (refine OpsL.p (by subst_vars; decide) (by (first | (exact aop_move (by (first | (simp only [ASt.ev, tmPut, ↓reduceIte, reduceIte, Nat.reduceEqDiff, plain1, *]; rfl) | fail))) | (exact aop_assign (by (first | (simp only [ASt.ev, tmPut, ↓reduceIte, reduceIte, Nat.reduceEqDiff, plain1, *]; rfl) | fail))) | (exact aop_len (by (first | (simp only [ASt.ev, tmPut, ↓reduceIte, reduceIte, Nat.reduceEqDiff, plain1, *]; rfl) | fail)) (by exact rfl)) | fail)) ?_) | (refine Trip.seq ?_) | (refine Trip.ops ?_) | (refine OpsL.nil ?_; ((repeat (first | refine blockExit_eq ?_ | refine blockExit_ne (by decide) ?_ | refine blockExit_normal ?_ | refine blockExit_ret ?_ | refine blockExit_goto ?_)); first | (change Trip _ _ _ _ _) | dsimp only | skip)) | fail)
  refine OpsL.new (o := .cells (rep xs.length [.int .i64 0]) 1 none false (some 3)) (v := .slice (some ⟨nx, 0, none⟩) xs.length xs.length) (by subst_vars; decide) (aop_makeSlice (by (first | (simp only [ASt.ev, tmPut, ↓reduceIte, reduceIte, Nat.reduceEqDiff, plain1, *]; done) | fail)) (by (first | (simp only [ASt.ev, tmPut, ↓reduceIte, reduceIte, Nat.reduceEqDiff, plain1, *]; done) | fail)) (aMakeSlice_ints (el := 3) (by exact rfl) (by exact rfl) (by exact rfl) (by exact rfl) (by omega))) ?_
  repeat (first | (refine OpsL.p (by subst_vars; decide) (by (first | (exact aop_move (by (first | (simp only [ASt.ev, tmPut, ↓reduceIte, reduceIte, Nat.reduceEqDiff, plain1, *]; rfl) | fail))) | (exact aop_assign (by (first | (simp only [ASt.ev, tmPut, ↓reduceIte, reduceIte, Nat.reduceEqDiff, plain1, *]; rfl) | fail))) | (exact aop_len (by (first | (simp only [ASt.ev, tmPut, ↓reduceIte, reduceIte, Nat.reduceEqDiff, plain1, *]; rfl) | fail)) (by exact rfl)) | fail)) ?_) | (refine Trip.seq ?_) | (refine Trip.ops ?_) | (refine Trip.block ?_) | (refine OpsL.nil ?_; ((repeat (first | refine blockExit_eq ?_ | refine blockExit_ne (by decide) ?_ | refine blockExit_normal ?_ | refine blockExit_ret ?_ | refine blockExit_goto ?_)); first | (change Trip _ _ _ _ _) | dsimp only | skip)) | fail)
  generalize hks : kindsOf ss xs = ks at *
  have hkl : ks.length = xs.length := by rw [← hks]; exact kindsOf_length
  refine Trip.inv (fun (i : Nat) s => ∃ (tm : Nat → Value) (nx' : Nat) (H' : Heap) (ob : Option (Nat × Nat)) (v : Value), s = ⟨tm, n, H', nx'⟩ ∧ Ext nx H nx' H' ∧ nx + 1 ≤ nx' ∧ H' nx = some (.cells ((matchS ks i).1.map (.int .i64 ·)) 1 none false (some 3)) ∧
      OwnInts H' ob 3 v (matchS ks i).2 ∧ (∀ b t, ob = some (b, t) → nx + 1 ≤ b ∧ b < nx') ∧ tm 0 = .slice (some la) ss.length lc ∧ tm 5 = .slice (some ⟨nx, 0, none⟩) xs.length xs.length ∧ tm 6 = v ∧ tm 13 = .slice wa xs.length wc ∧ tm 14 = .int .i64 xs.length ∧
      tm 15 = .int .i64 i ∧ i ≤ xs.length) (fun i => xs.length - i) 0 ?_ ?_
  · refine ⟨_, _, _, none, _, rfl, ⟨by omega, fun k hk => by rw [Heap.put_ne (by omega)]⟩, by omega, ?_, ⟨rfl, rfl, rfl⟩, fun _ _ h => (by cases h), e0, rfl, rfl, rfl, rfl, rfl, by omega⟩
    rw [Heap.put_eq, rep_zero, ← hkl]; rfl
  · rintro i s ⟨tm, nx', H', ob, v, rfl, hext, hnx, hm, hown, hob, e0, e5, e6, e13, e14, e15, hi⟩
    have hinv := matchS_inv ks i
    have hstep : matchS ks (i + 1) = matchStep i (ks.getD i 0) (matchS ks i) := rfl
    generalize hp : matchS ks i = pr at *
    obtain ⟨ms, op⟩ := pr
    simp only at hm hown hinv
    have hlen : ms.length = xs.length := by rw [hinv.len, hkl]
    have hon : op.length ≤ i := hinv.num
    refine Trip.ok fun hok' => ?_
    replace hok' : ∀ id o, H' id = some o → id < nx' := hok'
    obtain ⟨oa, oc, rfl⟩ := hown.at.slice
    repeat (first | (refine OpsL.p (by subst_vars; decide) (by (first | (exact aop_move (by (first | (simp only [ASt.ev, tmPut, ↓reduceIte, reduceIte, Nat.reduceEqDiff, plain1, *]; rfl) | fail))) | (exact aop_lss (by (first | (simp only [ASt.ev, tmPut, ↓reduceIte, reduceIte, Nat.reduceEqDiff, plain1, *]; rfl) | fail)) (by (first | (simp only [ASt.ev, tmPut, ↓reduceIte, reduceIte, Nat.reduceEqDiff, plain1, *]; rfl) | fail))) | fail)) ?_) | (refine Trip.seq ?_) | (refine Trip.ops ?_) | (refine Trip.block ?_) | (refine Trip.ite (by (first | (simp only [ASt.ev, tmPut, ↓reduceIte, reduceIte, Nat.reduceEqDiff, plain1, *]; rfl) | fail)) (fun _ => ?_) (fun _ => ?_)) | (refine Trip.skip ?_; ((repeat (first | refine blockExit_eq ?_ | refine blockExit_ne (by decide) ?_ | refine blockExit_normal ?_ | refine blockExit_ret ?_ | refine blockExit_goto ?_)); first | (change Trip _ _ _ _ _) | dsimp only | skip)) | (refine OpsL.nil ?_; ((repeat (first | refine blockExit_eq ?_ | refine blockExit_ne (by decide) ?_ | refine blockExit_normal ?_ | refine blockExit_ret ?_ | refine blockExit_goto ?_)); first | (change Trip _ _ _ _ _) | dsimp only | skip)) | fail)
    · have hlt : i < xs.length := by omega
      obtain ⟨p, rfl, hc⟩ := hw.get hlt
      replace hc : cellAt H' ⟨p.block, p.off + (i : Int).toNat * 1, p.spot⟩ (.int .i64 xs[i]) := by
        have := getc_ext hext hok hc
        simpa [cellAt] using this
      obtain ⟨hx0, hx1⟩ := hx xs[i] (List.getElem_mem hlt)
      have hkd : ks.getD i 0 = ss[xs[i].toNat].2 := by rw [← hks]; exact kindsOf_getD hlt (by omega)
      repeat (first | (refine OpsL.p (by subst_vars; decide) (by (first | (exact aop_move (by (first | (simp only [ASt.ev, tmPut, ↓reduceIte, reduceIte, Nat.reduceEqDiff, plain1, *]; rfl) | fail))) | (exact aop_assign (by (first | (simp only [ASt.ev, tmPut, ↓reduceIte, reduceIte, Nat.reduceEqDiff, plain1, *]; rfl) | fail))) | (exact aop_indexAddr (by (first | (simp only [ASt.ev, tmPut, ↓reduceIte, reduceIte, Nat.reduceEqDiff, plain1, *]; rfl) | fail)) (by (first | (simp only [ASt.ev, tmPut, ↓reduceIte, reduceIte, Nat.reduceEqDiff, plain1, *]; rfl) | fail)) (by exact rfl) (by exact rfl) (by omega) (by omega)) | (exact aop_load (by (first | (simp only [ASt.ev, tmPut, ↓reduceIte, reduceIte, Nat.reduceEqDiff, plain1, *]; rfl) | fail)) (by exact rfl) rfl (by assumption)) | fail)) ?_) | (refine Trip.seq ?_) | (refine Trip.ops ?_) | (refine OpsL.nil ?_; ((repeat (first | refine blockExit_eq ?_ | refine blockExit_ne (by decide) ?_ | refine blockExit_normal ?_ | refine blockExit_ret ?_ | refine blockExit_goto ?_)); first | (change Trip _ _ _ _ _) | dsimp only | skip)) | fail)
      refine OpsL.storeAt i (by (first | (simp only [ASt.ev, tmPut, ↓reduceIte, reduceIte, Nat.reduceEqDiff, plain1, *]; rfl) | fail)) (by (first | (simp only [ASt.ev, tmPut, ↓reduceIte, reduceIte, Nat.reduceEqDiff, plain1, *]; rfl) | fail)) (by exact rfl) rfl rfl hm (by show 0 + _ * 1 = _; omega) (by simp; omega) (set_ints _ _ _) ?_
      have hl' : SymsAt (H'.put nx (.cells ((ms.set i (-1)).map (.int .i64 ·)) 1 none false (some 3))) (.slice (some la) ss.length lc) ss := ⟨la, lc, rfl, fun k hk => by
        rw [getc_put]
        · exact getc_ext hext hok (hl k hk)
        · obtain ⟨o, ho⟩ := getc_some (hl k hk)
          have := hok _ _ ho
          simp only at this ⊢
          omega⟩
      repeat (first | (refine OpsL.p (by subst_vars; decide) (by (first | (exact aop_move (by (first | (simp only [ASt.ev, tmPut, ↓reduceIte, reduceIte, Nat.reduceEqDiff, plain1, *]; rfl) | fail))) | fail)) ?_) | (refine Trip.seq ?_) | (refine Trip.ops ?_) | (refine OpsL.nil ?_; ((repeat (first | refine blockExit_eq ?_ | refine blockExit_ne (by decide) ?_ | refine blockExit_normal ?_ | refine blockExit_ret ?_ | refine blockExit_goto ?_)); first | (change Trip _ _ _ _ _) | dsimp only | skip)) | fail)
      refine OpsL.call2 (by subst_vars; decide) (by (first | (simp only [ASt.ev, tmPut, ↓reduceIte, reduceIte, Nat.reduceEqDiff, plain1, *]; done) | fail)) (by (first | (simp only [ASt.ev, tmPut, ↓reduceIte, reduceIte, Nat.reduceEqDiff, plain1, *]; done) | fail)) entersSymAt (symAtC W0 hl' hx0 hx1).ok ?_
      rintro v2 nx2 H2 ⟨⟨rfl, hx2⟩, hok2⟩
      have hm2 : H2 nx = some (.cells ((ms.set i (-1)).map (.int .i64 ·)) 1 none false (some 3)) := by rw [hx2.2 nx (by omega), Heap.put_eq]
      have hown2 : OwnInts H2 ob 3 (.slice oa op.length oc) op := (OwnRow.put_ne hown (fun b t hb => by have := hob b t hb; omega)).ext hx2 (fun b t hb => (hob b t hb).2)
      have hext2 : Ext nx H nx2 H2 := (hext.put (Nat.le_refl _)).trans hx2
      have hle2 : nx' ≤ nx2 := hx2.1
      repeat (first | (refine OpsL.p (by subst_vars; decide) (by (first | (exact aop_move (by (first | (simp only [ASt.ev, tmPut, ↓reduceIte, reduceIte, Nat.reduceEqDiff, plain1, *]; rfl) | fail))) | (exact aop_assign (by (first | (simp only [ASt.ev, tmPut, ↓reduceIte, reduceIte, Nat.reduceEqDiff, plain1, *]; rfl) | fail))) | (exact aop_eql (by (first | (simp only [ASt.ev, tmPut, ↓reduceIte, reduceIte, Nat.reduceEqDiff, plain1, *]; rfl) | fail)) (by (first | (simp only [ASt.ev, tmPut, ↓reduceIte, reduceIte, Nat.reduceEqDiff, plain1, *]; rfl) | fail))) | (exact aop_field (by (first | (simp only [ASt.ev, tmPut, ↓reduceIte, reduceIte, Nat.reduceEqDiff, plain1, *]; rfl) | fail)) (by exact rfl) (by exact rfl) (by exact rfl) rfl (by exact rfl)) | fail)) ?_) | (refine Trip.seq ?_) | (refine Trip.ops ?_) | (refine Trip.block ?_) | (refine Trip.ite (by (first | (simp only [ASt.ev, tmPut, ↓reduceIte, reduceIte, Nat.reduceEqDiff, plain1, *]; rfl) | fail)) (fun _ => ?_) (fun _ => ?_)) | (refine OpsL.nil ?_; ((repeat (first | refine blockExit_eq ?_ | refine blockExit_ne (by decide) ?_ | refine blockExit_normal ?_ | refine blockExit_ret ?_ | refine blockExit_goto ?_)); first | (change Trip _ _ _ _ _) | dsimp only | skip)) | fail)
      · rename_i hk1
        have hst : matchS ks (i + 1) = (ms.set i (-1), op ++ [(i : Int)]) := by rw [hstep]; unfold matchStep; rw [hkd, if_pos hk1]
        refine OpsL.appendI (by subst_vars; decide) (by subst_vars; decide) (by (first | (simp only [ASt.ev, tmPut, ↓reduceIte, reduceIte, Nat.reduceEqDiff, plain1, *]; rfl) | fail)) (by decide) (by (simp only [tmPut, ↓reduceIte, reduceIte, Option.some.injEq, Nat.reduceEqDiff, *])) hown2 (fun b t hb => by have := hob b t hb; omega) (by exact rfl) (by exact rfl) (by exact rfl) (by exact rfl) (by have := hinv.num; simp only at this; omega) ?_
        rintro v' ob' H3 hown' ⟨b, rfl, hb⟩ hsame
        have hbl : nx + 1 ≤ b ∧ b < nx2 + 1 + 1 := by
          rcases hb with rfl | ⟨t, hb⟩
          · omega
          · have := hob b t hb; omega
        repeat (first | (refine OpsL.p (by subst_vars; decide) (by (first | (exact aop_move (by (first | (simp only [ASt.ev, tmPut, ↓reduceIte, reduceIte, Nat.reduceEqDiff, plain1, *]; rfl) | fail))) | (exact aop_assign (by (first | (simp only [ASt.ev, tmPut, ↓reduceIte, reduceIte, Nat.reduceEqDiff, plain1, *]; rfl) | fail))) | (exact aop_add (by (first | (simp only [ASt.ev, tmPut, ↓reduceIte, reduceIte, Nat.reduceEqDiff, plain1, *]; rfl) | fail)) (by (first | (simp only [ASt.ev, tmPut, ↓reduceIte, reduceIte, Nat.reduceEqDiff, plain1, *]; rfl) | fail)) (by omega)) | fail)) ?_) | (refine Trip.ops ?_) | (refine OpsL.nil ?_; ((repeat (first | refine blockExit_eq ?_ | refine blockExit_ne (by decide) ?_ | refine blockExit_normal ?_ | refine blockExit_ret ?_ | refine blockExit_goto ?_)); first | (change Trip _ _ _ _ _) | dsimp only | skip)) | fail)
        refine ⟨i + 1, ⟨_, _, _, some (b, nx2 + 1), v', rfl, ⟨by omega, fun k hk => by rw [hsame k (by omega) (fun b t hb => by have := hob b t hb; omega), hext2.2 k hk]⟩, by omega, ?_, ?_, ?_, ?_, ?_, ?_, ?_, ?_, ?_, by omega⟩, by omega⟩
        · rw [hst, hsame nx (by omega) (fun b t hb => by have := hob b t hb; omega)]; exact hm2
        · rw [hst]; exact hown'
        · intro b' t' hb'; cases hb'; exact hbl
        all_goals simp [tmPut, *]
      · rename_i hk1
        repeat (first | (refine OpsL.p (by subst_vars; decide) (by (first | (exact aop_move (by (first | (simp only [ASt.ev, tmPut, ↓reduceIte, reduceIte, Nat.reduceEqDiff, plain1, *]; rfl) | fail))) | (exact aop_assign (by (first | (simp only [ASt.ev, tmPut, ↓reduceIte, reduceIte, Nat.reduceEqDiff, plain1, *]; rfl) | fail))) | (exact aop_geq (by (first | (simp only [ASt.ev, tmPut, ↓reduceIte, reduceIte, Nat.reduceEqDiff, plain1, *]; rfl) | fail)) (by (first | (simp only [ASt.ev, tmPut, ↓reduceIte, reduceIte, Nat.reduceEqDiff, plain1, *]; rfl) | fail))) | (exact aop_eql (by (first | (simp only [ASt.ev, tmPut, ↓reduceIte, reduceIte, Nat.reduceEqDiff, plain1, *]; rfl) | fail)) (by (first | (simp only [ASt.ev, tmPut, ↓reduceIte, reduceIte, Nat.reduceEqDiff, plain1, *]; rfl) | fail))) | (exact aop_sub (by (first | (simp only [ASt.ev, tmPut, ↓reduceIte, reduceIte, Nat.reduceEqDiff, plain1, *]; rfl) | fail)) (by (first | (simp only [ASt.ev, tmPut, ↓reduceIte, reduceIte, Nat.reduceEqDiff, plain1, *]; rfl) | fail)) (by omega)) | (exact aop_len (by (first | (simp only [ASt.ev, tmPut, ↓reduceIte, reduceIte, Nat.reduceEqDiff, plain1, *]; rfl) | fail)) (by exact rfl)) | fail)) ?_) | (refine Trip.seq ?_) | (refine Trip.ops ?_) | (refine Trip.ite (by (first | (simp only [ASt.ev, tmPut, ↓reduceIte, reduceIte, Nat.reduceEqDiff, plain1, *]; rfl) | fail)) (fun _ => ?_) (fun _ => ?_)) | (refine OpsL.nil ?_; ((repeat (first | refine blockExit_eq ?_ | refine blockExit_ne (by decide) ?_ | refine blockExit_normal ?_ | refine blockExit_ret ?_ | refine blockExit_goto ?_)); first | (change Trip _ _ _ _ _) | dsimp only | skip)) | fail)
        · rename_i hk2 hlast
          have hop0 : op.length - 1 < op.length := by omega
          obtain ⟨q, rfl, hcq⟩ := hown2.at.get hop0
          have hjm : op[op.length - 1] ∈ op := List.getElem_mem hop0
          have hjr := hinv.op _ hjm
          have hgl : op.getLast? = some op[op.length - 1] := by rw [List.getLast?_eq_getElem?, List.getElem?_eq_getElem hop0]
          generalize hj : op[op.length - 1] = j at *
          have hst : matchS ks (i + 1) = (((ms.set i (-1)).set i j).set j.toNat i, op.dropLast) := by rw [hstep]; unfold matchStep; rw [hkd, if_neg hk1, if_pos hk2]; simp only [hgl]
          replace hcq : cellAt H2 ⟨q.block, q.off + ((op.length : Int) - 1).toNat * 1, q.spot⟩ (.int .i64 j) := by
            have : ((op.length : Int) - 1).toNat * 1 = op.length - 1 := by omega
            rw [this]; exact hcq
          refine OpsL.drawn fit.mixed (by kernel_rfl) (by kernel_rfl) ?_
          repeat (first | (refine OpsL.p (by subst_vars; decide) (by (first | (exact aop_move (by (first | (simp only [ASt.ev, tmPut, ↓reduceIte, reduceIte, Nat.reduceEqDiff, plain1, *]; rfl) | fail))) | (exact aop_indexAddr (by (first | (simp only [ASt.ev, tmPut, ↓reduceIte, reduceIte, Nat.reduceEqDiff, plain1, *]; rfl) | fail)) (by (first | (simp only [ASt.ev, tmPut, ↓reduceIte, reduceIte, Nat.reduceEqDiff, plain1, *]; rfl) | fail)) (by exact rfl) (by exact rfl) (by omega) (by omega)) | (exact aop_load (by (first | (simp only [ASt.ev, tmPut, ↓reduceIte, reduceIte, Nat.reduceEqDiff, plain1, *]; rfl) | fail)) (by exact rfl) rfl (by assumption)) | fail)) ?_) | fail)
          refine OpsL.storeAt i (by (first | (simp only [ASt.ev, tmPut, ↓reduceIte, reduceIte, Nat.reduceEqDiff, plain1, *]; rfl) | fail)) (by (first | (simp only [ASt.ev, tmPut, ↓reduceIte, reduceIte, Nat.reduceEqDiff, plain1, *]; rfl) | fail)) (by exact rfl) rfl rfl hm2 (by show 0 + _ * 1 = _; omega) (by simp; omega) (set_ints _ _ _) ?_
          repeat (first | (refine OpsL.p (by subst_vars; decide) (by (first | (exact aop_indexAddr (by (first | (simp only [ASt.ev, tmPut, ↓reduceIte, reduceIte, Nat.reduceEqDiff, plain1, *]; rfl) | fail)) (by (first | (simp only [ASt.ev, tmPut, ↓reduceIte, reduceIte, Nat.reduceEqDiff, plain1, *]; rfl) | fail)) (by exact rfl) (by exact rfl) (by omega) (by omega)) | fail)) ?_) | fail)
          refine OpsL.storeAt (a := ⟨nx, 0 + j.toNat * 1, none⟩) j.toNat (by (first | (simp only [ASt.ev, tmPut, ↓reduceIte, reduceIte, Nat.reduceEqDiff, plain1, *]; rfl) | fail)) (by (first | (simp only [ASt.ev, tmPut, ↓reduceIte, reduceIte, Nat.reduceEqDiff, plain1, *]; rfl) | fail)) (by exact rfl) rfl rfl Heap.put_eq (by show 0 + _ * 1 = _; omega) (by simp; omega) (set_ints _ _ _) ?_
          have hown3 : OwnInts ((H2.put nx (.cells (((ms.set i (-1)).set i j).map (.int .i64 ·)) 1 none false (some 3))).put nx (.cells ((((ms.set i (-1)).set i j).set j.toNat i).map (.int .i64 ·)) 1 none false (some 3))) ob 3 (.slice (some q) op.length oc) op :=
            OwnRow.put_ne (OwnRow.put_ne hown2 (fun b t hb => by have := hob b t hb; omega)) (fun b t hb => by have := hob b t hb; omega)
          obtain ⟨r, hr, hwr⟩ := hown3.take (P := Try.prog) (t := 22) (k := op.length - 1) (lo := none) (hi := some (.int .i64 ((op.length : Int) - 1))) (by exact rfl) (by exact rfl) (by omega) (.inl ⟨rfl, rfl⟩) (.inr ⟨.i64, by congr 2; omega⟩)
          repeat (first | (refine OpsL.p (by subst_vars; decide) (by (first | (exact aop_move (by (first | (simp only [ASt.ev, tmPut, ↓reduceIte, reduceIte, Nat.reduceEqDiff, plain1, *]; rfl) | fail))) | fail)) ?_) | (refine Trip.ops ?_) | (refine OpsL.nil ?_; ((repeat (first | refine blockExit_eq ?_ | refine blockExit_ne (by decide) ?_ | refine blockExit_normal ?_ | refine blockExit_ret ?_ | refine blockExit_goto ?_)); first | (change Trip _ _ _ _ _) | dsimp only | skip)) | fail)
          refine OpsL.p (by subst_vars; decide) (aop_slice (a := none) (b := some (.int .i64 ((op.length : Int) - 1))) (c := none) (by (first | (simp only [ASt.ev, tmPut, ↓reduceIte, reduceIte, Nat.reduceEqDiff, plain1, *]; done) | fail)) rfl (by simp only [evOpt, ASt.ev, tmPut, ↓reduceIte, reduceIte, Option.some.injEq, Nat.reduceEqDiff, Option.map_some, *]) rfl hr) ?_
          repeat (first | (refine OpsL.p (by subst_vars; decide) (by (first | (exact aop_move (by (first | (simp only [ASt.ev, tmPut, ↓reduceIte, reduceIte, Nat.reduceEqDiff, plain1, *]; rfl) | fail))) | (exact aop_assign (by (first | (simp only [ASt.ev, tmPut, ↓reduceIte, reduceIte, Nat.reduceEqDiff, plain1, *]; rfl) | fail))) | (exact aop_add (by (first | (simp only [ASt.ev, tmPut, ↓reduceIte, reduceIte, Nat.reduceEqDiff, plain1, *]; rfl) | fail)) (by (first | (simp only [ASt.ev, tmPut, ↓reduceIte, reduceIte, Nat.reduceEqDiff, plain1, *]; rfl) | fail)) (by omega)) | fail)) ?_) | (refine Trip.ops ?_) | (refine OpsL.nil ?_; ((repeat (first | refine blockExit_eq ?_ | refine blockExit_ne (by decide) ?_ | refine blockExit_normal ?_ | refine blockExit_ret ?_ | refine blockExit_goto ?_)); first | (change Trip _ _ _ _ _) | dsimp only | skip)) | fail)
          refine ⟨i + 1, ⟨_, _, _, ob, r, rfl, ((hext2.put (Nat.le_refl _)).put (Nat.le_refl _)), by omega, ?_, ?_, fun b t hb => by have := hob b t hb; omega, ?_, ?_, ?_, ?_, ?_, ?_, by omega⟩, by omega⟩
          · rw [hst]; exact Heap.put_eq
          · rw [hst, List.dropLast_eq_take]; exact hwr
          all_goals simp [tmPut, *]
        · rename_i hk2 hlast
          have hop0 : op = [] := by rw [← List.length_eq_zero_iff]; omega
          subst hop0
          have hst : matchS ks (i + 1) = (ms.set i (-1), []) := by rw [hstep]; unfold matchStep; rw [hkd, if_neg hk1, if_pos hk2]; rfl
          repeat (first | (refine OpsL.p (by subst_vars; decide) (by (first | (exact aop_move (by (first | (simp only [ASt.ev, tmPut, ↓reduceIte, reduceIte, Nat.reduceEqDiff, plain1, *]; rfl) | fail))) | (exact aop_add (by (first | (simp only [ASt.ev, tmPut, ↓reduceIte, reduceIte, Nat.reduceEqDiff, plain1, *]; rfl) | fail)) (by (first | (simp only [ASt.ev, tmPut, ↓reduceIte, reduceIte, Nat.reduceEqDiff, plain1, *]; rfl) | fail)) (by omega)) | fail)) ?_) | (refine Trip.ops ?_) | (refine Trip.skip ?_; ((repeat (first | refine blockExit_eq ?_ | refine blockExit_ne (by decide) ?_ | refine blockExit_normal ?_ | refine blockExit_ret ?_ | refine blockExit_goto ?_)); first | (change Trip _ _ _ _ _) | dsimp only | skip)) | (refine OpsL.nil ?_; ((repeat (first | refine blockExit_eq ?_ | refine blockExit_ne (by decide) ?_ | refine blockExit_normal ?_ | refine blockExit_ret ?_ | refine blockExit_goto ?_)); first | (change Trip _ _ _ _ _) | dsimp only | skip)) | fail)
          refine ⟨i + 1, ⟨_, _, _, ob, _, rfl, hext2, by omega, ?_, ?_, fun b t hb => by have := hob b t hb; omega, ?_, ?_, rfl, ?_, ?_, ?_, by omega⟩, by omega⟩
          · rw [hst]; exact hm2
          · rw [hst]; simpa [tmPut, e6] using hown2
          all_goals simp [tmPut, *]
        · rename_i hk2
          have hst : matchS ks (i + 1) = (ms.set i (-1), op) := by rw [hstep]; unfold matchStep; rw [hkd, if_neg hk1, if_neg hk2]
          repeat (first | (refine OpsL.p (by subst_vars; decide) (by (first | (exact aop_move (by (first | (simp only [ASt.ev, tmPut, ↓reduceIte, reduceIte, Nat.reduceEqDiff, plain1, *]; rfl) | fail))) | (exact aop_add (by (first | (simp only [ASt.ev, tmPut, ↓reduceIte, reduceIte, Nat.reduceEqDiff, plain1, *]; rfl) | fail)) (by (first | (simp only [ASt.ev, tmPut, ↓reduceIte, reduceIte, Nat.reduceEqDiff, plain1, *]; rfl) | fail)) (by omega)) | fail)) ?_) | (refine Trip.ops ?_) | (refine Trip.skip ?_; ((repeat (first | refine blockExit_eq ?_ | refine blockExit_ne (by decide) ?_ | refine blockExit_normal ?_ | refine blockExit_ret ?_ | refine blockExit_goto ?_)); first | (change Trip _ _ _ _ _) | dsimp only | skip)) | (refine OpsL.nil ?_; ((repeat (first | refine blockExit_eq ?_ | refine blockExit_ne (by decide) ?_ | refine blockExit_normal ?_ | refine blockExit_ret ?_ | refine blockExit_goto ?_)); first | (change Trip _ _ _ _ _) | dsimp only | skip)) | fail)
          refine ⟨i + 1, ⟨_, _, _, ob, _, rfl, hext2, by omega, ?_, ?_, fun b t hb => by have := hob b t hb; omega, ?_, ?_, rfl, ?_, ?_, ?_, by omega⟩, by omega⟩
          · rw [hst]; exact hm2
          · rw [hst]; simpa [tmPut, e6] using hown2
          all_goals simp [tmPut, *]
    · repeat (first | (refine OpsL.p (by subst_vars; decide) (by (first | (exact aop_move (by (first | (simp only [ASt.ev, tmPut, ↓reduceIte, reduceIte, Nat.reduceEqDiff, plain1, *]; rfl) | fail))) | (exact aop_assign (by (first | (simp only [ASt.ev, tmPut, ↓reduceIte, reduceIte, Nat.reduceEqDiff, plain1, *]; rfl) | fail))) | fail)) ?_) | (refine Trip.seq ?_) | (refine Trip.ops ?_) | (refine Trip.exit ?_; ((repeat (first | refine blockExit_eq ?_ | refine blockExit_ne (by decide) ?_ | refine blockExit_normal ?_ | refine blockExit_ret ?_ | refine blockExit_goto ?_)); first | (change Trip _ _ _ _ _) | dsimp only | skip)) | (refine Trip.ret ?_; ((repeat (first | refine blockExit_eq ?_ | refine blockExit_ne (by decide) ?_ | refine blockExit_normal ?_ | refine blockExit_ret ?_ | refine blockExit_goto ?_)); first | (change Trip _ _ _ _ _) | dsimp only | skip)) | (refine OpsL.nil ?_; ((repeat (first | refine blockExit_eq ?_ | refine blockExit_ne (by decide) ?_ | refine blockExit_normal ?_ | refine blockExit_ret ?_ | refine blockExit_goto ?_)); first | (change Trip _ _ _ _ _) | dsimp only | skip)) | fail)
      have hi2 : i = xs.length := by omega
      subst hi2
      refine ⟨.inr rfl, _, res_tmp, by simp [tmPut, *], ?_, hext⟩
      rw [← hkl] at hp
      rw [matchF, hp]
      exact hm

set_option maxRecDepth 20000 in
set_option maxHeartbeats 4000000 in
theorem refMatchC (W0 : World) {nx : Nat} {H : Heap} {lv wv : Value} {ss : List (ByteArray × Int)} {xs : List Int} (hl : SymsAt H lv ss) (hw : IntsAt H wv xs) (hx : ∀ x ∈ xs, 0 ≤ x ∧ x < ss.length) (hn : xs.length < 1000000) :
    ACalls Try.prog W0 20 [lv, wv] nx H fun v nx' H' => v = .slice (some ⟨nx, 0, none⟩) xs.length xs.length ∧ H' nx = some (.cells ((matchF (kindsOf ss xs)).map (.int .i64 ·)) 1 none false (some 3)) ∧ Ext nx H nx' H' := by
  obtain ⟨la, lc, rfl, hl⟩ := hl
  obtain ⟨wa, wc, rfl⟩ := hw.slice
  refine ACalls.by_trip (fn := Try.f20) (c := _) Try.func20 rfl (fun tm n hn0 htm => ?_)
  have e0 : tm 0 = .slice (some la) ss.length lc := htm 0
  have e1 : tm 1 = .slice wa xs.length wc := htm 1
  clear htm
  replace hn0 : n = 60 := hn0
  refine Trip.ok fun hok => ?_
  replace hok : ∀ id o, H id = some o → id < nx := hok
  repeat (first | (refine OpsL.p (by subst_vars; decide) (by (first | (exact aop_move (by (first | (simp only [ASt.ev, tmPut, ↓reduceIte, reduceIte, Nat.reduceEqDiff, plain1, *]; rfl) | fail))) | (exact aop_assign (by (first | (simp only [ASt.ev, tmPut, ↓reduceIte, reduceIte, Nat.reduceEqDiff, plain1, *]; rfl) | fail))) | (exact aop_len (by (first | (simp only [ASt.ev, tmPut, ↓reduceIte, reduceIte, Nat.reduceEqDiff, plain1, *]; rfl) | fail)) (by exact rfl)) | fail)) ?_) | (refine Trip.seq ?_) | (refine Trip.ops ?_) | (refine OpsL.nil ?_; ((repeat (first | refine blockExit_eq ?_ | refine blockExit_ne (by decide) ?_ | refine blockExit_normal ?_ | refine blockExit_ret ?_ | refine blockExit_goto ?_)); first | (change Trip _ _ _ _ _) | dsimp only | skip)) | fail)
  refine OpsL.new (o := .cells (rep xs.length [.int .i64 0]) 1 none false (some 3)) (v := .slice (some ⟨nx, 0, none⟩) xs.length xs.length) (by subst_vars; decide) (aop_makeSlice (by (first | (simp only [ASt.ev, tmPut, ↓reduceIte, reduceIte, Nat.reduceEqDiff, plain1, *]; done) | fail)) (by (first | (simp only [ASt.ev, tmPut, ↓reduceIte, reduceIte, Nat.reduceEqDiff, plain1, *]; done) | fail)) (aMakeSlice_ints (el := 3) (by exact rfl) (by exact rfl) (by exact rfl) (by exact rfl) (by omega))) ?_
  repeat (first | (refine OpsL.p (by subst_vars; decide) (by (first | (exact aop_assign (by (first | (simp only [ASt.ev, tmPut, ↓reduceIte, reduceIte, Nat.reduceEqDiff, plain1, *]; rfl) | fail))) | fail)) ?_) | (refine Trip.seq ?_) | (refine Trip.ops ?_) | (refine Trip.block ?_) | (refine OpsL.nil ?_; ((repeat (first | refine blockExit_eq ?_ | refine blockExit_ne (by decide) ?_ | refine blockExit_normal ?_ | refine blockExit_ret ?_ | refine blockExit_goto ?_)); first | (change Trip _ _ _ _ _) | dsimp only | skip)) | fail)
  generalize hks : kindsOf ss xs = ks at *
  have hkl : ks.length = xs.length := by rw [← hks]; exact kindsOf_length
  refine Trip.inv (fun (i : Nat) s => ∃ (tm : Nat → Value) (nx' : Nat) (H' : Heap) (ob : Option (Nat × Nat)) (v : Value), s = ⟨tm, n, H', nx'⟩ ∧ Ext nx H nx' H' ∧ nx + 1 ≤ nx' ∧ H' nx = some (.cells ((matchS ks i).1.map (.int .i64 ·)) 1 none false (some 3)) ∧
      OwnInts H' ob 3 v (matchS ks i).2 ∧ (∀ b t, ob = some (b, t) → nx + 1 ≤ b ∧ b < nx') ∧ tm 0 = .slice (some la) ss.length lc ∧ tm 1 = .slice wa xs.length wc ∧ tm 5 = .slice (some ⟨nx, 0, none⟩) xs.length xs.length ∧ tm 6 = v ∧
      tm 7 = .int .i64 i ∧ i ≤ xs.length) (fun i => xs.length - i) 0 ?_ ?_
  · refine ⟨_, _, _, none, _, rfl, ⟨by omega, fun k hk => by rw [Heap.put_ne (by omega)]⟩, by omega, ?_, ⟨rfl, rfl, rfl⟩, fun _ _ h => (by cases h), e0, e1, rfl, rfl, rfl, by omega⟩
    rw [Heap.put_eq, rep_zero, ← hkl]; rfl
  · rintro i s ⟨tm, nx', H', ob, v, rfl, hext, hnx, hm, hown, hob, e0, e1, e5, e6, e7, hi⟩
    have hinv := matchS_inv ks i
    have hstep : matchS ks (i + 1) = matchStep i (ks.getD i 0) (matchS ks i) := rfl
    generalize hp : matchS ks i = pr at *
    obtain ⟨ms, op⟩ := pr
    simp only at hm hown hinv
    have hlen : ms.length = xs.length := by rw [hinv.len, hkl]
    have hon : op.length ≤ i := hinv.num
    refine Trip.ok fun hok' => ?_
    replace hok' : ∀ id o, H' id = some o → id < nx' := hok'
    obtain ⟨oa, oc, rfl⟩ := hown.at.slice
    repeat (first | (refine OpsL.p (by subst_vars; decide) (by (first | (exact aop_move (by (first | (simp only [ASt.ev, tmPut, ↓reduceIte, reduceIte, Nat.reduceEqDiff, plain1, *]; rfl) | fail))) | (exact aop_lss (by (first | (simp only [ASt.ev, tmPut, ↓reduceIte, reduceIte, Nat.reduceEqDiff, plain1, *]; rfl) | fail)) (by (first | (simp only [ASt.ev, tmPut, ↓reduceIte, reduceIte, Nat.reduceEqDiff, plain1, *]; rfl) | fail))) | (exact aop_len (by (first | (simp only [ASt.ev, tmPut, ↓reduceIte, reduceIte, Nat.reduceEqDiff, plain1, *]; rfl) | fail)) (by exact rfl)) | (exact aop_indexAddr (by (first | (simp only [ASt.ev, tmPut, ↓reduceIte, reduceIte, Nat.reduceEqDiff, plain1, *]; rfl) | fail)) (by (first | (simp only [ASt.ev, tmPut, ↓reduceIte, reduceIte, Nat.reduceEqDiff, plain1, *]; rfl) | fail)) (by exact rfl) (by exact rfl) (by omega) (by omega)) | fail)) ?_) | (refine Trip.seq ?_) | (refine Trip.ops ?_) | (refine Trip.block ?_) | (refine Trip.ite (by (first | (simp only [ASt.ev, tmPut, ↓reduceIte, reduceIte, Nat.reduceEqDiff, plain1, *]; rfl) | fail)) (fun _ => ?_) (fun _ => ?_)) | (refine Trip.skip ?_; ((repeat (first | refine blockExit_eq ?_ | refine blockExit_ne (by decide) ?_ | refine blockExit_normal ?_ | refine blockExit_ret ?_ | refine blockExit_goto ?_)); first | (change Trip _ _ _ _ _) | dsimp only | skip)) | (refine OpsL.nil ?_; ((repeat (first | refine blockExit_eq ?_ | refine blockExit_ne (by decide) ?_ | refine blockExit_normal ?_ | refine blockExit_ret ?_ | refine blockExit_goto ?_)); first | (change Trip _ _ _ _ _) | dsimp only | skip)) | fail)
    · have hlt : i < xs.length := by omega
      obtain ⟨p, rfl, hc⟩ := hw.get hlt
      have hpn : p.block ≠ nx := by
        obtain ⟨o, ho⟩ := getc_some hc
        have := hok _ _ ho
        simp only at this
        omega
      replace hc : cellAt H' ⟨p.block, p.off + (i : Int).toNat * 1, p.spot⟩ (.int .i64 xs[i]) := by
        have := getc_ext hext hok hc
        simpa [cellAt] using this
      obtain ⟨hx0, hx1⟩ := hx xs[i] (List.getElem_mem hlt)
      have hkd : ks.getD i 0 = ss[xs[i].toNat].2 := by rw [← hks]; exact kindsOf_getD hlt (by omega)
      repeat fail
      refine OpsL.storeAt i (by (first | (simp only [ASt.ev, tmPut, ↓reduceIte, reduceIte, Nat.reduceEqDiff, plain1, *]; rfl) | fail)) (by (first | (simp only [ASt.ev, tmPut, ↓reduceIte, reduceIte, Nat.reduceEqDiff, plain1, *]; rfl) | fail)) (by exact rfl) rfl rfl hm (by show 0 + _ * 1 = _; omega) (by simp; omega) (set_ints _ _ _) ?_
      have hx2 : cellAt (H'.put nx (.cells ((ms.set i (-1)).map (.int .i64 ·)) 1 none false (some 3))) ⟨la.block, la.off + xs[i].toNat * 2 + 1, la.spot⟩ (.int .i64 ss[xs[i].toNat].2) := by
        have h0 := cellAt_of_getc (hl xs[i].toNat (by omega))
        obtain ⟨o, ho⟩ := getc_some h0
        have := hok _ _ ho
        simp only at this
        unfold cellAt
        rw [getc_put (by simp only; omega)]
        exact getc_ext hext hok h0
      replace hc : cellAt (H'.put nx (.cells ((ms.set i (-1)).map (.int .i64 ·)) 1 none false (some 3))) ⟨p.block, p.off + (i : Int).toNat * 1, p.spot⟩ (.int .i64 xs[i]) := by
        unfold cellAt
        rw [getc_put (by simp only; exact hpn)]
        exact hc
      generalize hH2 : H'.put nx (.cells ((ms.set i (-1)).map (.int .i64 ·)) 1 none false (some 3)) = H2 at *
      have hm2 : H2 nx = some (.cells ((ms.set i (-1)).map (.int .i64 ·)) 1 none false (some 3)) := by rw [← hH2, Heap.put_eq]
      have hown2 : OwnInts H2 ob 3 (.slice oa op.length oc) op := by rw [← hH2]; exact OwnRow.put_ne hown (fun b t hb => by have := hob b t hb; omega)
      have hext2 : Ext nx H nx' H2 := by rw [← hH2]; exact hext.put (Nat.le_refl _)
      repeat (first | (refine OpsL.p (by subst_vars; decide) (by (first | (exact aop_move (by (first | (simp only [ASt.ev, tmPut, ↓reduceIte, reduceIte, Nat.reduceEqDiff, plain1, *]; rfl) | fail))) | (exact aop_assign (by (first | (simp only [ASt.ev, tmPut, ↓reduceIte, reduceIte, Nat.reduceEqDiff, plain1, *]; rfl) | fail))) | (exact aop_eql (by (first | (simp only [ASt.ev, tmPut, ↓reduceIte, reduceIte, Nat.reduceEqDiff, plain1, *]; rfl) | fail)) (by (first | (simp only [ASt.ev, tmPut, ↓reduceIte, reduceIte, Nat.reduceEqDiff, plain1, *]; rfl) | fail))) | (exact aop_indexAddr (by (first | (simp only [ASt.ev, tmPut, ↓reduceIte, reduceIte, Nat.reduceEqDiff, plain1, *]; rfl) | fail)) (by (first | (simp only [ASt.ev, tmPut, ↓reduceIte, reduceIte, Nat.reduceEqDiff, plain1, *]; rfl) | fail)) (by exact rfl) (by exact rfl) (by omega) (by omega)) | (exact aop_fieldAddr (by (first | (simp only [ASt.ev, tmPut, ↓reduceIte, reduceIte, Nat.reduceEqDiff, plain1, *]; rfl) | fail)) (by exact rfl)) | (exact aop_load (by (first | (simp only [ASt.ev, tmPut, ↓reduceIte, reduceIte, Nat.reduceEqDiff, plain1, *]; rfl) | fail)) (by exact rfl) rfl (by assumption)) | fail)) ?_) | (refine Trip.seq ?_) | (refine Trip.ops ?_) | (refine Trip.block ?_) | (refine Trip.ite (by (first | (simp only [ASt.ev, tmPut, ↓reduceIte, reduceIte, Nat.reduceEqDiff, plain1, *]; rfl) | fail)) (fun _ => ?_) (fun _ => ?_)) | (refine OpsL.nil ?_; ((repeat (first | refine blockExit_eq ?_ | refine blockExit_ne (by decide) ?_ | refine blockExit_normal ?_ | refine blockExit_ret ?_ | refine blockExit_goto ?_)); first | (change Trip _ _ _ _ _) | dsimp only | skip)) | fail)
      · rename_i hk1
        have hst : matchS ks (i + 1) = (ms.set i (-1), op ++ [(i : Int)]) := by rw [hstep]; unfold matchStep; rw [hkd, if_pos hk1]
        refine OpsL.appendI (by subst_vars; decide) (by subst_vars; decide) (by (first | (simp only [ASt.ev, tmPut, ↓reduceIte, reduceIte, Nat.reduceEqDiff, plain1, *]; rfl) | fail)) (by decide) (by (simp only [tmPut, ↓reduceIte, reduceIte, Option.some.injEq, Nat.reduceEqDiff, *])) hown2 (fun b t hb => by have := hob b t hb; omega) (by exact rfl) (by exact rfl) (by exact rfl) (by exact rfl) (by have := hinv.num; simp only at this; omega) ?_
        rintro v' ob' H3 hown' ⟨b, rfl, hb⟩ hsame
        have hbl : nx + 1 ≤ b ∧ b < nx' + 1 + 1 := by
          rcases hb with rfl | ⟨t, hb⟩
          · omega
          · have := hob b t hb; omega
        repeat (first | (refine OpsL.p (by subst_vars; decide) (by (first | (exact aop_move (by (first | (simp only [ASt.ev, tmPut, ↓reduceIte, reduceIte, Nat.reduceEqDiff, plain1, *]; rfl) | fail))) | (exact aop_assign (by (first | (simp only [ASt.ev, tmPut, ↓reduceIte, reduceIte, Nat.reduceEqDiff, plain1, *]; rfl) | fail))) | (exact aop_add (by (first | (simp only [ASt.ev, tmPut, ↓reduceIte, reduceIte, Nat.reduceEqDiff, plain1, *]; rfl) | fail)) (by (first | (simp only [ASt.ev, tmPut, ↓reduceIte, reduceIte, Nat.reduceEqDiff, plain1, *]; rfl) | fail)) (by omega)) | fail)) ?_) | (refine Trip.ops ?_) | (refine OpsL.nil ?_; ((repeat (first | refine blockExit_eq ?_ | refine blockExit_ne (by decide) ?_ | refine blockExit_normal ?_ | refine blockExit_ret ?_ | refine blockExit_goto ?_)); first | (change Trip _ _ _ _ _) | dsimp only | skip)) | fail)
        refine ⟨i + 1, ⟨_, _, _, some (b, nx' + 1), v', rfl, ⟨by omega, fun k hk => by rw [hsame k (by omega) (fun b t hb => by have := hob b t hb; omega), hext2.2 k hk]⟩, by omega, ?_, ?_, ?_, ?_, ?_, ?_, ?_, ?_, by omega⟩, by omega⟩
        · rw [hst, hsame nx (by omega) (fun b t hb => by have := hob b t hb; omega)]; exact hm2
        · rw [hst]; exact hown'
        · intro b' t' hb'; cases hb'; exact hbl
        all_goals simp [tmPut, *]
      · rename_i hk1
        repeat (first | (refine OpsL.p (by subst_vars; decide) (by (first | (exact aop_move (by (first | (simp only [ASt.ev, tmPut, ↓reduceIte, reduceIte, Nat.reduceEqDiff, plain1, *]; rfl) | fail))) | (exact aop_assign (by (first | (simp only [ASt.ev, tmPut, ↓reduceIte, reduceIte, Nat.reduceEqDiff, plain1, *]; rfl) | fail))) | (exact aop_gtr (by (first | (simp only [ASt.ev, tmPut, ↓reduceIte, reduceIte, Nat.reduceEqDiff, plain1, *]; rfl) | fail)) (by (first | (simp only [ASt.ev, tmPut, ↓reduceIte, reduceIte, Nat.reduceEqDiff, plain1, *]; rfl) | fail))) | (exact aop_eql (by (first | (simp only [ASt.ev, tmPut, ↓reduceIte, reduceIte, Nat.reduceEqDiff, plain1, *]; rfl) | fail)) (by (first | (simp only [ASt.ev, tmPut, ↓reduceIte, reduceIte, Nat.reduceEqDiff, plain1, *]; rfl) | fail))) | (exact aop_sub (by (first | (simp only [ASt.ev, tmPut, ↓reduceIte, reduceIte, Nat.reduceEqDiff, plain1, *]; rfl) | fail)) (by (first | (simp only [ASt.ev, tmPut, ↓reduceIte, reduceIte, Nat.reduceEqDiff, plain1, *]; rfl) | fail)) (by omega)) | (exact aop_len (by (first | (simp only [ASt.ev, tmPut, ↓reduceIte, reduceIte, Nat.reduceEqDiff, plain1, *]; rfl) | fail)) (by exact rfl)) | fail)) ?_) | (refine Trip.seq ?_) | (refine Trip.ops ?_) | (refine Trip.ite (by (first | (simp only [ASt.ev, tmPut, ↓reduceIte, reduceIte, Nat.reduceEqDiff, plain1, *]; rfl) | fail)) (fun _ => ?_) (fun _ => ?_)) | (refine OpsL.nil ?_; ((repeat (first | refine blockExit_eq ?_ | refine blockExit_ne (by decide) ?_ | refine blockExit_normal ?_ | refine blockExit_ret ?_ | refine blockExit_goto ?_)); first | (change Trip _ _ _ _ _) | dsimp only | skip)) | fail)
        · rename_i hk2 hlast
          have hop0 : op.length - 1 < op.length := by omega
          obtain ⟨q, rfl, hcq⟩ := hown2.at.get hop0
          have hjm : op[op.length - 1] ∈ op := List.getElem_mem hop0
          have hjr := hinv.op _ hjm
          have hgl : op.getLast? = some op[op.length - 1] := by rw [List.getLast?_eq_getElem?, List.getElem?_eq_getElem hop0]
          generalize hj : op[op.length - 1] = j at *
          have hst : matchS ks (i + 1) = (((ms.set i (-1)).set i j).set j.toNat i, op.dropLast) := by rw [hstep]; unfold matchStep; rw [hkd, if_neg hk1, if_pos hk2]; simp only [hgl]
          replace hcq : cellAt H2 ⟨q.block, q.off + ((op.length : Int) - 1).toNat * 1, q.spot⟩ (.int .i64 j) := by
            have : ((op.length : Int) - 1).toNat * 1 = op.length - 1 := by omega
            rw [this]; exact hcq
          obtain ⟨r, hr, hwr⟩ := hown2.take (P := Try.prog) (t := 22) (k := op.length - 1) (lo := none) (hi := some (.int .i64 ((op.length : Int) - 1))) (by exact rfl) (by exact rfl) (by omega) (.inl ⟨rfl, rfl⟩) (.inr ⟨.i64, by congr 2; omega⟩)
          repeat (first | (refine OpsL.p (by subst_vars; decide) (by (first | (exact aop_move (by (first | (simp only [ASt.ev, tmPut, ↓reduceIte, reduceIte, Nat.reduceEqDiff, plain1, *]; rfl) | fail))) | (exact aop_assign (by (first | (simp only [ASt.ev, tmPut, ↓reduceIte, reduceIte, Nat.reduceEqDiff, plain1, *]; rfl) | fail))) | (exact aop_sub (by (first | (simp only [ASt.ev, tmPut, ↓reduceIte, reduceIte, Nat.reduceEqDiff, plain1, *]; rfl) | fail)) (by (first | (simp only [ASt.ev, tmPut, ↓reduceIte, reduceIte, Nat.reduceEqDiff, plain1, *]; rfl) | fail)) (by omega)) | (exact aop_len (by (first | (simp only [ASt.ev, tmPut, ↓reduceIte, reduceIte, Nat.reduceEqDiff, plain1, *]; rfl) | fail)) (by exact rfl)) | (exact aop_indexAddr (by (first | (simp only [ASt.ev, tmPut, ↓reduceIte, reduceIte, Nat.reduceEqDiff, plain1, *]; rfl) | fail)) (by (first | (simp only [ASt.ev, tmPut, ↓reduceIte, reduceIte, Nat.reduceEqDiff, plain1, *]; rfl) | fail)) (by exact rfl) (by exact rfl) (by omega) (by omega)) | (exact aop_load (by (first | (simp only [ASt.ev, tmPut, ↓reduceIte, reduceIte, Nat.reduceEqDiff, plain1, *]; rfl) | fail)) (by exact rfl) rfl (by assumption)) | fail)) ?_) | (refine Trip.seq ?_) | (refine Trip.ops ?_) | (refine OpsL.nil ?_; ((repeat (first | refine blockExit_eq ?_ | refine blockExit_ne (by decide) ?_ | refine blockExit_normal ?_ | refine blockExit_ret ?_ | refine blockExit_goto ?_)); first | (change Trip _ _ _ _ _) | dsimp only | skip)) | fail)
          refine OpsL.p (by subst_vars; decide) (aop_slice (a := none) (b := some (.int .i64 ((op.length : Int) - 1))) (c := none) (by (first | (simp only [ASt.ev, tmPut, ↓reduceIte, reduceIte, Nat.reduceEqDiff, plain1, *]; done) | fail)) rfl (by simp only [evOpt, ASt.ev, tmPut, ↓reduceIte, reduceIte, Option.some.injEq, Nat.reduceEqDiff, Option.map_some, *]) rfl hr) ?_
          repeat (first | (refine OpsL.p (by subst_vars; decide) (by (first | (exact aop_move (by (first | (simp only [ASt.ev, tmPut, ↓reduceIte, reduceIte, Nat.reduceEqDiff, plain1, *]; rfl) | fail))) | (exact aop_assign (by (first | (simp only [ASt.ev, tmPut, ↓reduceIte, reduceIte, Nat.reduceEqDiff, plain1, *]; rfl) | fail))) | (exact aop_indexAddr (by (first | (simp only [ASt.ev, tmPut, ↓reduceIte, reduceIte, Nat.reduceEqDiff, plain1, *]; rfl) | fail)) (by (first | (simp only [ASt.ev, tmPut, ↓reduceIte, reduceIte, Nat.reduceEqDiff, plain1, *]; rfl) | fail)) (by exact rfl) (by exact rfl) (by omega) (by omega)) | fail)) ?_) | (refine Trip.ops ?_) | (refine OpsL.nil ?_; ((repeat (first | refine blockExit_eq ?_ | refine blockExit_ne (by decide) ?_ | refine blockExit_normal ?_ | refine blockExit_ret ?_ | refine blockExit_goto ?_)); first | (change Trip _ _ _ _ _) | dsimp only | skip)) | fail)
          refine OpsL.storeAt i (by (first | (simp only [ASt.ev, tmPut, ↓reduceIte, reduceIte, Nat.reduceEqDiff, plain1, *]; rfl) | fail)) (by (first | (simp only [ASt.ev, tmPut, ↓reduceIte, reduceIte, Nat.reduceEqDiff, plain1, *]; rfl) | fail)) (by exact rfl) rfl rfl hm2 (by show 0 + _ * 1 = _; omega) (by simp; omega) (set_ints _ _ _) ?_
          repeat (first | (refine OpsL.p (by subst_vars; decide) (by (first | (exact aop_indexAddr (by (first | (simp only [ASt.ev, tmPut, ↓reduceIte, reduceIte, Nat.reduceEqDiff, plain1, *]; rfl) | fail)) (by (first | (simp only [ASt.ev, tmPut, ↓reduceIte, reduceIte, Nat.reduceEqDiff, plain1, *]; rfl) | fail)) (by exact rfl) (by exact rfl) (by omega) (by omega)) | fail)) ?_) | fail)
          refine OpsL.storeAt (a := ⟨nx, 0 + j.toNat * 1, none⟩) j.toNat (by (first | (simp only [ASt.ev, tmPut, ↓reduceIte, reduceIte, Nat.reduceEqDiff, plain1, *]; rfl) | fail)) (by (first | (simp only [ASt.ev, tmPut, ↓reduceIte, reduceIte, Nat.reduceEqDiff, plain1, *]; rfl) | fail)) (by exact rfl) rfl rfl Heap.put_eq (by show 0 + _ * 1 = _; omega) (by simp; omega) (set_ints _ _ _) ?_
          repeat (first | (refine OpsL.p (by subst_vars; decide) (by (first | (exact aop_move (by (first | (simp only [ASt.ev, tmPut, ↓reduceIte, reduceIte, Nat.reduceEqDiff, plain1, *]; rfl) | fail))) | (exact aop_assign (by (first | (simp only [ASt.ev, tmPut, ↓reduceIte, reduceIte, Nat.reduceEqDiff, plain1, *]; rfl) | fail))) | (exact aop_add (by (first | (simp only [ASt.ev, tmPut, ↓reduceIte, reduceIte, Nat.reduceEqDiff, plain1, *]; rfl) | fail)) (by (first | (simp only [ASt.ev, tmPut, ↓reduceIte, reduceIte, Nat.reduceEqDiff, plain1, *]; rfl) | fail)) (by omega)) | fail)) ?_) | (refine Trip.ops ?_) | (refine OpsL.nil ?_; ((repeat (first | refine blockExit_eq ?_ | refine blockExit_ne (by decide) ?_ | refine blockExit_normal ?_ | refine blockExit_ret ?_ | refine blockExit_goto ?_)); first | (change Trip _ _ _ _ _) | dsimp only | skip)) | fail)
          refine ⟨i + 1, ⟨_, _, _, ob, r, rfl, ((hext2.put (Nat.le_refl _)).put (Nat.le_refl _)), by omega, ?_, ?_, fun b t hb => by have := hob b t hb; omega, ?_, ?_, ?_, ?_, ?_, by omega⟩, by omega⟩
          · rw [hst]; exact Heap.put_eq
          · rw [hst, List.dropLast_eq_take]; exact OwnRow.put_ne (OwnRow.put_ne hwr (fun b t hb => by have := hob b t hb; omega)) (fun b t hb => by have := hob b t hb; omega)
          all_goals simp [tmPut, *]
        · rename_i hk2 hlast
          have hop0 : op = [] := by rw [← List.length_eq_zero_iff]; omega
          subst hop0
          have hst : matchS ks (i + 1) = (ms.set i (-1), []) := by rw [hstep]; unfold matchStep; rw [hkd, if_neg hk1, if_pos hk2]; rfl
          repeat (first | (refine OpsL.p (by subst_vars; decide) (by (first | (exact aop_move (by (first | (simp only [ASt.ev, tmPut, ↓reduceIte, reduceIte, Nat.reduceEqDiff, plain1, *]; rfl) | fail))) | (exact aop_assign (by (first | (simp only [ASt.ev, tmPut, ↓reduceIte, reduceIte, Nat.reduceEqDiff, plain1, *]; rfl) | fail))) | (exact aop_add (by (first | (simp only [ASt.ev, tmPut, ↓reduceIte, reduceIte, Nat.reduceEqDiff, plain1, *]; rfl) | fail)) (by (first | (simp only [ASt.ev, tmPut, ↓reduceIte, reduceIte, Nat.reduceEqDiff, plain1, *]; rfl) | fail)) (by omega)) | fail)) ?_) | (refine Trip.ops ?_) | (refine Trip.skip ?_; ((repeat (first | refine blockExit_eq ?_ | refine blockExit_ne (by decide) ?_ | refine blockExit_normal ?_ | refine blockExit_ret ?_ | refine blockExit_goto ?_)); first | (change Trip _ _ _ _ _) | dsimp only | skip)) | (refine OpsL.nil ?_; ((repeat (first | refine blockExit_eq ?_ | refine blockExit_ne (by decide) ?_ | refine blockExit_normal ?_ | refine blockExit_ret ?_ | refine blockExit_goto ?_)); first | (change Trip _ _ _ _ _) | dsimp only | skip)) | fail)
          refine ⟨i + 1, ⟨_, _, _, ob, _, rfl, hext2, by omega, ?_, ?_, fun b t hb => by have := hob b t hb; omega, ?_, ?_, ?_, rfl, ?_, by omega⟩, by omega⟩
          · rw [hst]; exact hm2
          · rw [hst]; simpa [tmPut, e6] using hown2
          all_goals simp [tmPut, *]
        · rename_i hk2
          have hst : matchS ks (i + 1) = (ms.set i (-1), op) := by rw [hstep]; unfold matchStep; rw [hkd, if_neg hk1, if_neg hk2]
          repeat (first | (refine OpsL.p (by subst_vars; decide) (by (first | (exact aop_move (by (first | (simp only [ASt.ev, tmPut, ↓reduceIte, reduceIte, Nat.reduceEqDiff, plain1, *]; rfl) | fail))) | (exact aop_assign (by (first | (simp only [ASt.ev, tmPut, ↓reduceIte, reduceIte, Nat.reduceEqDiff, plain1, *]; rfl) | fail))) | (exact aop_add (by (first | (simp only [ASt.ev, tmPut, ↓reduceIte, reduceIte, Nat.reduceEqDiff, plain1, *]; rfl) | fail)) (by (first | (simp only [ASt.ev, tmPut, ↓reduceIte, reduceIte, Nat.reduceEqDiff, plain1, *]; rfl) | fail)) (by omega)) | fail)) ?_) | (refine Trip.ops ?_) | (refine Trip.skip ?_; ((repeat (first | refine blockExit_eq ?_ | refine blockExit_ne (by decide) ?_ | refine blockExit_normal ?_ | refine blockExit_ret ?_ | refine blockExit_goto ?_)); first | (change Trip _ _ _ _ _) | dsimp only | skip)) | (refine OpsL.nil ?_; ((repeat (first | refine blockExit_eq ?_ | refine blockExit_ne (by decide) ?_ | refine blockExit_normal ?_ | refine blockExit_ret ?_ | refine blockExit_goto ?_)); first | (change Trip _ _ _ _ _) | dsimp only | skip)) | fail)
          refine ⟨i + 1, ⟨_, _, _, ob, _, rfl, hext2, by omega, ?_, ?_, fun b t hb => by have := hob b t hb; omega, ?_, ?_, ?_, rfl, ?_, by omega⟩, by omega⟩
          · rw [hst]; exact hm2
          · rw [hst]; simpa [tmPut, e6] using hown2
          all_goals simp [tmPut, *]
    · repeat (first | (refine OpsL.p (by subst_vars; decide) (by (first | (exact aop_move (by (first | (simp only [ASt.ev, tmPut, ↓reduceIte, reduceIte, Nat.reduceEqDiff, plain1, *]; rfl) | fail))) | (exact aop_assign (by (first | (simp only [ASt.ev, tmPut, ↓reduceIte, reduceIte, Nat.reduceEqDiff, plain1, *]; rfl) | fail))) | fail)) ?_) | (refine Trip.seq ?_) | (refine Trip.ops ?_) | (refine Trip.exit ?_; ((repeat (first | refine blockExit_eq ?_ | refine blockExit_ne (by decide) ?_ | refine blockExit_normal ?_ | refine blockExit_ret ?_ | refine blockExit_goto ?_)); first | (change Trip _ _ _ _ _) | dsimp only | skip)) | (refine Trip.ret ?_; ((repeat (first | refine blockExit_eq ?_ | refine blockExit_ne (by decide) ?_ | refine blockExit_normal ?_ | refine blockExit_ret ?_ | refine blockExit_goto ?_)); first | (change Trip _ _ _ _ _) | dsimp only | skip)) | (refine OpsL.nil ?_; ((repeat (first | refine blockExit_eq ?_ | refine blockExit_ne (by decide) ?_ | refine blockExit_normal ?_ | refine blockExit_ret ?_ | refine blockExit_goto ?_)); first | (change Trip _ _ _ _ _) | dsimp only | skip)) | fail)
      have hi2 : i = xs.length := by omega
      subst hi2
      refine ⟨.inr rfl, _, res_tmp, by simp [tmPut, *], ?_, hext⟩
      rw [← hkl] at hp
      rw [matchF, hp]
      exact hm
end Go.Proofs.Ytngekapiemkgnaa
/-
  Rows of one's own: copied from another row, written into.
-/
namespace Go.Proofs.Ytngekapiemkgnaa
set_option linter.unusedSimpArgs false
set_option linter.unusedVariables false
open Go.Am Go.RowKit

section
variable {P : Program} {W0 : World} {H : Heap} {nx n : Nat} {ev : Operand → Option Value} {dst : Option Tmp} {type : TypeId} {pos : String} {after : Array Edge} {guard : Option (Nat × Bool)}

/-- An append to a row that has no room. -/
theorem aop_append_new {b k m sz bytes : Nat} {el : TypeId} {u : Value} {cs xs z : List Value} {q : Option TypeId} {ro : Bool} {esz : Nat} {x y : Operand} {st xt : TypeId} {xd : TypeDesc} (hx : ev x = some (.slice (some ⟨b, 0, none⟩) k k)) (hy : ev y = some u)
    (hH : H b = some (.cells cs esz none ro q)) (hc : cs.length = k * sz)
    (hs : source H sz u none = some (m, xs)) (h1 : xs.all (·.oneCell') = true) (hm : m ≠ 0) (hst : P.underlying st = some (.slice el)) (hxt : P.underlying xt = some xd) (hxd : notInt xd = true)
    (hsz : szOf P el = some sz) (hby : bytesOfT P el = some bytes) (hz : zeroOf P el = some z) (hzl : z.length = sz) (hle : k + m ≤ 1099511627776) (hle2 : (2 * (k + m) + 192) * bytes ≤ 281474976710656) :
    aop P H nx ev ⟨dst, .call ⟨.builtin .append, #[x, y], #[st, xt]⟩, type, pos, after, guard⟩ = some (.slice (some ⟨nx, 0, some nx⟩) (k + m) (k + m), .new (.cells (cs ++ xs) sz (some nx) false (some el))) := by
  have hg : getc H ⟨b, 0, none⟩ (k * sz) = some cs := by
    unfold getc
    simp only [hH]
    rw [if_pos ⟨trivial, by omega⟩]
    simp [← hc]
  simp [aop, hx, hy, evAll, aBuiltin, aAppend, hst, hxt, hsz, hby, hz, hxd, hzl, hs, hm, hH, hle, hle2, hg]
  rw [if_pos (by simpa using h1), if_neg (by omega : ¬ (k + m ≤ k))]

/-- An append of nothing. -/
theorem aop_append_none {b k sz bytes : Nat} {el : TypeId} {u : Value} {cs xs z : List Value} {q : Option TypeId} {tg : Option Nat} {ro : Bool} {esz : Nat} {x y : Operand} {st xt : TypeId} {xd : TypeDesc} (hx : ev x = some (.slice (some ⟨b, 0, tg⟩) k k)) (hy : ev y = some u)
    (hH : H b = some (.cells cs esz tg ro q))
    (hs : source H sz u none = some (0, xs)) (h1 : xs.all (·.oneCell') = true) (hst : P.underlying st = some (.slice el)) (hxt : P.underlying xt = some xd) (hxd : notInt xd = true)
    (hsz : szOf P el = some sz) (hby : bytesOfT P el = some bytes) (hz : zeroOf P el = some z) (hzl : z.length = sz) :
    aop P H nx ev ⟨dst, .call ⟨.builtin .append, #[x, y], #[st, xt]⟩, type, pos, after, guard⟩ = some (.slice (some ⟨b, 0, tg⟩) k k, .none) := by
  simp [aop, hx, hy, evAll, aBuiltin, aAppend, hst, hxt, hsz, hby, hz, hxd, hzl, hs, hH]
  rw [if_pos (by simpa using h1)]

attribute [local irreducible] aop OpsL Trip blockExit OpsD OpsK
variable {ops : Array Oper} {l : List Oper} {tm : Nat → Value} {QQ : ASt → Prop} {d : Tmp}
/-- A number written into a row of one's own. -/
theorem OpsL.storeOwn {ob : Option (Nat × Nat)} {el t : TypeId} {v : Value} {ys : List Int} {i : Nat} {a : Addr} {c : Int} {x y : Operand} (hv : OwnInts H ob el v ys) (hi : i < ys.length) (hx : ASt.ev ⟨tm, n, H, nx⟩ x = some (.pointer (some a))) (hy : ASt.ev ⟨tm, n, H, nx⟩ y = some (.int .i64 c)) (hz : szOf P t = some 1)
    (ha : ∀ b s, v = .slice (some ⟨b, 0, s⟩) ys.length ys.length → a = ⟨b, 0 + i * 1, s⟩)
    (h : ∀ H', OwnInts H' ob el v (ys.set i c) → (∀ k, (∀ b s, ob = some (b, s) → k ≠ b) → H' k = H k) → OpsL P W0 ops l ⟨tm, n, H', nx⟩ QQ) :
    OpsL P W0 ops (⟨none, .store t x y, type, pos, after, none⟩ :: l) ⟨tm, n, H, nx⟩ QQ := by
  cases ob with
  | none => obtain ⟨_, h2, _⟩ := hv; simp at h2; subst h2; simp at hi
  | some bt =>
    obtain ⟨b, s⟩ := bt
    obtain ⟨hv1, hc, rest, hH⟩ := hv
    have e := ha b (some s) hv1
    subst e
    refine OpsL.storeAt (j := i) (cs := ys.map (.int .i64 ·) ++ rest) (cs' := (ys.set i c).map (.int .i64 ·) ++ rest) hx hy hz rfl rfl hH (by simp) (by simp; omega) (by rw [List.set_append_left _ _ (by simpa using hi), set_ints]) (h _ ⟨by rw [List.length_set]; exact hv1, by simp, rest, Heap.put_eq⟩ ?_)
    intro k hk
    rw [Heap.put_ne (hk b s rfl)]
end

theorem ok_putN {H : Heap} {nx : Nat} {o : AObj} (hok : ∀ id o, H id = some o → id < nx) : ∀ id o', (H.put nx o) id = some o' → id < nx + 1 := fun id o' h => by
  by_cases hi : id = nx
  · omega
  · rw [Heap.put_ne hi] at h
    have := hok id o' h
    omega

/-- Rows of symbols, all their cells. -/
def flatS (ss : List (ByteArray × Int)) : List Value := ss.flatMap fun s => [.string s.1, .int .i64 s.2]
theorem flatS_len (ss : List (ByteArray × Int)) : (flatS ss).length = ss.length * 2 := by
  induction ss with
  | nil => rfl
  | cons s ss ih => simp only [flatS, List.flatMap_cons, List.length_append, List.length_cons, List.length_nil] at *; omega
theorem flatS_one (ss : List (ByteArray × Int)) : (flatS ss).all (·.oneCell') = true := by
  simp [flatS, Value.oneCell']
theorem flatS_at : ∀ (ss : List (ByteArray × Int)) (i : Nat) (h : i < ss.length), ((flatS ss).drop (i * 2)).take 2 = [.string ss[i].1, .int .i64 ss[i].2] := by
  intro ss
  induction ss with
  | nil => intro i h; simp at h
  | cons s ss ih =>
    intro i h
    cases i with
    | zero => rfl
    | succ i =>
      have := ih i (by simpa using h)
      rw [show (i + 1) * 2 = i * 2 + 1 + 1 by omega]
      simpa [flatS] using this
theorem symsAt_own {H : Heap} {b c e : Nat} {t : Option Nat} {ss : List (ByteArray × Int)} {ro : Bool} {q : Option TypeId} (hH : H b = some (.cells (flatS ss) e t ro q)) : SymsAt H (.slice (some ⟨b, 0, t⟩) ss.length c) ss := by
  refine ⟨_, c, rfl, fun i h => ?_⟩
  have hl := flatS_len ss
  unfold getc
  simp only [hH, Nat.zero_add]
  rw [if_pos ⟨trivial, by omega⟩, flatS_at ss i h]
theorem symsAt_src {H : Heap} {v : Value} {ss : List (ByteArray × Int)} (h : SymsAt H v ss) (h0 : 0 < ss.length) : source H 2 v none = some (ss.length, flatS ss) := by
  obtain ⟨a, c, rfl, hs⟩ := h
  have key : ∀ m (hm : m ≤ ss.length), getc H a (m * 2) = some (flatS (ss.take m)) := by
    intro m
    induction m with
    | zero =>
      intro _
      have h1 := hs 0 h0
      unfold getc at h1 ⊢
      split at h1
      · rename_i c' e t r q ho
        simp only [ho]
        split at h1
        · rename_i hc
          simp only [Nat.zero_mul, Nat.add_zero] at hc ⊢
          rw [if_pos ⟨hc.1, by omega⟩]
          rfl
        · cases h1
      all_goals cases h1
    | succ m ih =>
      intro hm
      have h1 := hs m (by omega)
      have h2 := ih (by omega)
      unfold getc at h1 h2 ⊢
      split at h1
      · rename_i c' e t r q ho
        simp only [ho] at h2 ⊢
        split at h1
        · rename_i hc
          split at h2
          · rw [if_pos ⟨hc.1, by have := hc.2; simp only at this; omega⟩]
            simp only [Option.some.injEq] at h1 h2 ⊢
            rw [show (m + 1) * 2 = m * 2 + 2 by omega, List.take_add, h2, List.drop_drop, h1, List.take_add_one (l := ss) (i := m), List.getElem?_eq_getElem (by omega : m < ss.length)]
            show _ = flatS (ss.take m ++ [ss[m]])
            unfold flatS
            rw [List.flatMap_append]
            rfl
          · cases h2
        · cases h1
      all_goals cases h1
  show (if ss.length * 2 = 0 then some (ss.length, []) else (getc H a (ss.length * 2)).map (ss.length, ·)) = _
  rw [if_neg (by omega), key ss.length (Nat.le_refl _), List.take_length]
  rfl

end Go.Proofs.Ytngekapiemkgnaa
/-
  Chapter 1: partners, by an invariant of the walk.
-/
namespace Go.Proofs.Ytngekapiemkgnaa
set_option linter.unusedSimpArgs false
set_option linter.unusedVariables false
open Go.Am Go.RowKit
attribute [local irreducible] aop OpsL Trip blockExit OpsD

theorem getD_set (l : List Int) (i j : Nat) (v : Int) (h : i < l.length) : (l.set i v).getD j 0 = if j = i then v else l.getD j 0 := by
  rw [List.getD_eq_getElem?_getD, List.getD_eq_getElem?_getD, List.getElem?_set]
  by_cases e : i = j
  · subst e; simp [h]
  · simp [e, Ne.symm e, show ¬ j = i from fun x => e x.symm]

/-- What holds of the partners ahead of place i; 's': the places that wait. -/
structure PInv (ks : List Int) (i : Nat) (m : List Int) (s : List Nat) : Prop where
  len : m.length = ks.length
  asc : s.Pairwise (· < ·)
  mem : ∀ x ∈ s, x < i ∧ ks.getD x 0 = 1 ∧ m.getD x 0 = -1
  par : ∀ j, j < i → m.getD j 0 ≠ -1 → ∃ k : Nat, m.getD j 0 = k ∧ k < i ∧ k ≠ j ∧ m.getD k 0 = j ∧ (j < k → ks.getD j 0 = 1 ∧ ks.getD k 0 = 2) ∧ (k < j → ks.getD k 0 = 1 ∧ ks.getD j 0 = 2)
  btw : ∀ j k q, j < i → m.getD j 0 = (k : Nat) → j < q → q < k → (m.getD q 0 = -1 → ks.getD q 0 = 3) ∧ (m.getD q 0 ≠ -1 → (j : Int) < m.getD q 0 ∧ m.getD q 0 < k)
  wait : ∀ x ∈ s, ∀ k, x < k → k < i → k ∈ s ∨ (m.getD k 0 = -1 ∧ ks.getD k 0 = 3) ∨ (m.getD k 0 ≠ -1 ∧ (x : Int) < m.getD k 0)

theorem PInv.plain {ks : List Int} {i : Nat} {m : List Int} {s : List Nat} (h : PInv ks i m s) (hi : i < ks.length) (hk : s = [] ∨ ks.getD i 0 = 3) : PInv ks (i + 1) (m.set i (-1)) s := by
  have hl : i < m.length := by rw [h.len]; exact hi
  have G : ∀ j, (m.set i (-1)).getD j 0 = if j = i then -1 else m.getD j 0 := fun j => getD_set m i j (-1) hl
  have G1 : ∀ j, j < i → (m.set i (-1)).getD j 0 = m.getD j 0 := fun j hj => by rw [G]; simp [show j ≠ i by omega]
  have Gi : (m.set i (-1)).getD i 0 = -1 := by rw [G]; simp
  refine ⟨by simp [h.len], h.asc, fun x hx => ?_, fun j hj hne => ?_, fun j k q hj hk2 hq1 hq2 => ?_, fun x hx k hxk hk2 => ?_⟩
  · obtain ⟨a, b, c⟩ := h.mem x hx
    exact ⟨by omega, b, by rw [G1 x a]; exact c⟩
  · by_cases e : j = i
    · subst e; exact absurd Gi hne
    · have hj' : j < i := by omega
      rw [G1 j hj'] at hne ⊢
      obtain ⟨k, a, b, c, d, e1, e2⟩ := h.par j hj' hne
      exact ⟨k, a, by omega, c, by rw [G1 k b]; exact d, e1, e2⟩
  · have e : j ≠ i := by rintro rfl; rw [Gi] at hk2; omega
    have hj' : j < i := by omega
    rw [G1 j hj'] at hk2
    obtain ⟨k', a, b, _⟩ := h.par j hj' (by rw [hk2]; omega)
    have : k' = k := by omega
    subst this
    rw [G1 q (by omega)]
    exact h.btw j k' q hj' hk2 hq1 hq2
  · by_cases e : k = i
    · subst e
      right; left
      refine ⟨Gi, ?_⟩
      rcases hk with rfl | hk
      · cases hx
      · exact hk
    · rw [G1 k (by omega)]
      exact h.wait x hx k hxk (by omega)

theorem PInv.push {ks : List Int} {i : Nat} {m : List Int} {s : List Nat} (h : PInv ks i m s) (hi : i < ks.length) (hk : ks.getD i 0 = 1) : PInv ks (i + 1) (m.set i (-1)) (s ++ [i]) := by
  have hl : i < m.length := by rw [h.len]; exact hi
  have G : ∀ j, (m.set i (-1)).getD j 0 = if j = i then -1 else m.getD j 0 := fun j => getD_set m i j (-1) hl
  have G1 : ∀ j, j < i → (m.set i (-1)).getD j 0 = m.getD j 0 := fun j hj => by rw [G]; simp [show j ≠ i by omega]
  have Gi : (m.set i (-1)).getD i 0 = -1 := by rw [G]; simp
  refine ⟨by simp [h.len], ?_, fun x hx => ?_, fun j hj hne => ?_, fun j k q hj hk2 hq1 hq2 => ?_, fun x hx k hxk hk2 => ?_⟩
  · rw [List.pairwise_append]
    exact ⟨h.asc, by simp, fun a ha b hb => by simp at hb; have := (h.mem a ha).1; omega⟩
  · rcases List.mem_append.1 hx with hx | hx
    · obtain ⟨a, b, c⟩ := h.mem x hx
      exact ⟨by omega, b, by rw [G1 x a]; exact c⟩
    · simp at hx; subst hx; exact ⟨by omega, hk, Gi⟩
  · by_cases e : j = i
    · subst e; exact absurd Gi hne
    · have hj' : j < i := by omega
      rw [G1 j hj'] at hne ⊢
      obtain ⟨k, a, b, c, d, e1, e2⟩ := h.par j hj' hne
      exact ⟨k, a, by omega, c, by rw [G1 k b]; exact d, e1, e2⟩
  · have e : j ≠ i := by rintro rfl; rw [Gi] at hk2; omega
    have hj' : j < i := by omega
    rw [G1 j hj'] at hk2
    obtain ⟨k', a, b, _⟩ := h.par j hj' (by rw [hk2]; omega)
    have : k' = k := by omega
    subst this
    rw [G1 q (by omega)]
    exact h.btw j k' q hj' hk2 hq1 hq2
  · by_cases e : k = i
    · subst e; left; simp
    · rcases List.mem_append.1 hx with hx | hx
      · rw [G1 k (by omega)]
        rcases h.wait x hx k hxk (by omega) with c | c | c
        · left; simp [c]
        · right; left; exact c
        · right; right; exact c
      · simp at hx; omega

theorem PInv.pop {ks : List Int} {i t : Nat} {m : List Int} {s : List Nat} (h : PInv ks i m (s ++ [t])) (hi : i < ks.length) (hk : ks.getD i 0 = 2) : PInv ks (i + 1) (((m.set i (-1)).set i t).set t i) s := by
  have hl : i < m.length := by rw [h.len]; exact hi
  obtain ⟨ht1, ht2, ht3⟩ := h.mem t (by simp)
  have hasc := List.pairwise_append.1 h.asc
  have hst : ∀ x ∈ s, x < t := fun x hx => hasc.2.2 x hx t (by simp)
  have G : ∀ j, (((m.set i (-1)).set i (t : Int)).set t i).getD j 0 = if j = t then (i : Int) else if j = i then (t : Int) else m.getD j 0 := fun j => by
    rw [getD_set _ _ _ _ (by simp; omega), getD_set _ _ _ _ (by simp; omega), getD_set _ _ _ _ hl]
    split <;> (try rfl)
    split <;> rfl
  have G1 : ∀ j, j < i → j ≠ t → (((m.set i (-1)).set i (t : Int)).set t i).getD j 0 = m.getD j 0 := fun j hj hj2 => by rw [G]; simp [show j ≠ i by omega, hj2]
  have Gi : (((m.set i (-1)).set i (t : Int)).set t i).getD i 0 = t := by rw [G]; simp [show i ≠ t by omega]
  have Gt : (((m.set i (-1)).set i (t : Int)).set t i).getD t 0 = i := by rw [G]; simp
  -- nothing is partner of t yet
  have hnt : ∀ j, j < i → m.getD j 0 ≠ (t : Int) := fun j hj e => by
    obtain ⟨k, a, b, c, d, _⟩ := h.par j hj (by rw [e]; omega)
    have : k = t := by omega
    subst this
    rw [ht3] at d; omega
  refine ⟨by simp [h.len], hasc.1, fun x hx => ?_, fun j hj hne => ?_, fun j k q hj hk2 hq1 hq2 => ?_, fun x hx k hxk hk2 => ?_⟩
  · obtain ⟨a, b, c⟩ := h.mem x (by simp [hx])
    have := hst x hx
    exact ⟨by omega, b, by rw [G1 x a (by omega)]; exact c⟩
  · by_cases e : j = i
    · subst e
      exact ⟨t, Gi, by omega, by omega, Gt, fun _ => by omega, fun _ => ⟨ht2, hk⟩⟩
    · by_cases e2 : j = t
      · subst e2
        exact ⟨i, Gt, by omega, by omega, Gi, fun _ => ⟨ht2, hk⟩, fun _ => by omega⟩
      · have hj' : j < i := by omega
        rw [G1 j hj' e2] at hne ⊢
        obtain ⟨k, a, b, c, d, e3, e4⟩ := h.par j hj' hne
        have hkt : k ≠ t := fun x => hnt j hj' (by rw [a, x])
        exact ⟨k, a, by omega, c, by rw [G1 k b hkt]; exact d, e3, e4⟩
  · by_cases e : j = i
    · subst e; rw [Gi] at hk2; omega
    · by_cases e2 : j = t
      · subst e2
        rw [Gt] at hk2
        have : k = i := by omega
        subst this
        rw [G1 q hq2 (by omega)]
        rcases h.wait j (by simp) q hq1 hq2 with c | c | c
        · rcases List.mem_append.1 c with c | c
          · have := hst q c; omega
          · simp at c; omega
        · exact ⟨fun _ => c.2, fun hne => absurd c.1 hne⟩
        · refine ⟨fun hne => absurd hne c.1, fun _ => ⟨c.2, ?_⟩⟩
          obtain ⟨k', a, b, _⟩ := h.par q hq2 c.1
          omega
      · have hj' : j < i := by omega
        rw [G1 j hj' e2] at hk2
        obtain ⟨k', a, b, _⟩ := h.par j hj' (by rw [hk2]; omega)
        have : k' = k := by omega
        subst this
        have hb := h.btw j k' q hj' hk2 hq1 hq2
        have hqt : q ≠ t := by
          rintro rfl
          have := hb.1 ht3
          omega
        rw [G1 q (by omega) hqt]
        exact hb
  · have hxt := hst x hx
    by_cases e : k = i
    · subst e
      right; right
      rw [Gi]
      exact ⟨by omega, by omega⟩
    · by_cases e2 : k = t
      · subst e2
        right; right
        rw [Gt]
        exact ⟨by omega, by omega⟩
      · rw [G1 k (by omega) e2]
        rcases h.wait x (by simp [hx]) k hxk (by omega) with c | c | c
        · rcases List.mem_append.1 c with c | c
          · exact .inl c
          · simp at c; omega
        · exact .inr (.inl c)
        · exact .inr (.inr c)

theorem pinv (ks : List Int) (hks : ∀ k ∈ ks, k = 1 ∨ k = 2 ∨ k = 3) : ∀ i, i ≤ ks.length → ∃ s : List Nat, (matchS ks i).2 = s.map Int.ofNat ∧ PInv ks i (matchS ks i).1 s := by
  intro i
  induction i with
  | zero =>
    intro _
    exact ⟨[], rfl, by simp [matchS], by simp, by simp, fun j hj => by omega, fun j k q hj => by omega, by simp⟩
  | succ i ih =>
    intro hi
    obtain ⟨s, h1, h2⟩ := ih (by omega)
    have hki : ks.getD i 0 = 1 ∨ ks.getD i 0 = 2 ∨ ks.getD i 0 = 3 := by
      rw [List.getD_eq_getElem?_getD, List.getElem?_eq_getElem (by omega)]
      exact hks _ (List.getElem_mem _)
    simp only [matchS, matchStep]
    rcases hki with hk | hk | hk
    · rw [if_pos hk]
      exact ⟨s ++ [i], by simp [h1], h2.push (by omega) hk⟩
    · rw [if_neg (by omega), if_pos hk, h1]
      rcases List.eq_nil_or_concat s with rfl | ⟨s', t, rfl⟩
      · exact ⟨[], by simp, h2.plain (by omega) (.inl rfl)⟩
      · rw [List.concat_eq_append] at *
        refine ⟨s', by simp, ?_⟩
        simp only [List.map_append, List.map_cons, List.map_nil, List.getLast?_append, List.getLast?_singleton]
        exact h2.pop (by omega) hk
    · rw [if_neg (by omega), if_neg (by omega)]
      exact ⟨s, h1, h2.plain (by omega) (.inr hk)⟩

theorem kindsOf_mem {ss : List (ByteArray × Int)} {xs : List Int} (hx : ∀ x ∈ xs, 0 ≤ x ∧ x < ss.length) (hk : ∀ s ∈ ss, s.2 = 1 ∨ s.2 = 2 ∨ s.2 = 3) : ∀ k ∈ kindsOf ss xs, k = 1 ∨ k = 2 ∨ k = 3 := by
  intro k h
  unfold kindsOf at h
  rw [List.mem_map] at h
  obtain ⟨x, hxm, rfl⟩ := h
  have := hx x hxm
  rw [List.getElem?_eq_getElem (by omega)]
  exact hk _ (List.getElem_mem _)

end Go.Proofs.Ytngekapiemkgnaa
/-
  Chapter 1: Whole of package word, of the document said a second time; Ints.
-/
namespace Go.Proofs.Ytngekapiemkgnaa
set_option linter.unusedSimpArgs false
set_option linter.unusedVariables false
open Go.Am Go.RowKit
attribute [local irreducible] aop OpsL Trip blockExit OpsD

/-- The place has no partner, and should. -/
def badAt (ks : List Int) (j : Nat) : Prop := (matchF ks).getD j 0 < 0 ∧ ks.getD j 0 ≠ 3

theorem matchF_length (ks : List Int) : (matchF ks).length = ks.length := (matchS_inv ks ks.length).len
theorem matchF_low (ks : List Int) : ∀ x ∈ matchF ks, -1 ≤ x := (matchS_inv ks ks.length).low

theorem entersWMatch : Enters Try.prog 19 := ⟨Try.f19, Try.func19, by kernel_rfl, by kernel_rfl⟩
theorem entersRMatch : Enters Try.prog 20 := ⟨Try.f20, Try.func20, by kernel_rfl, by kernel_rfl⟩

set_option maxRecDepth 20000 in
set_option maxHeartbeats 4000000 in
theorem wordWholeC (W0 : World) {nx : Nat} {H : Heap} {lv wv : Value} {ss : List (ByteArray × Int)} {xs : List Int} (hl : SymsAt H lv ss) (hw : IntsAt H wv xs) (hx : ∀ x ∈ xs, 0 ≤ x ∧ x < ss.length) (hk : ∀ s ∈ ss, s.2 = 1 ∨ s.2 = 2 ∨ s.2 = 3) (hn : xs.length < 1000000) :
    ACalls Try.prog W0 18 [lv, wv] nx H fun v nx' H' => (∃ b, v = .bool b ∧ (b = true ↔ ∀ j, j < xs.length → ¬ badAt (kindsOf ss xs) j)) ∧ Ext nx H nx' H' := by
  have hl0 := hl
  obtain ⟨la, lc, rfl, hl⟩ := hl
  obtain ⟨wa, wc, rfl⟩ := hw.slice
  refine ACalls.by_trip (fn := Try.f18) (c := _) Try.func18 rfl (fun tm n hn0 htm => ?_)
  have e0 : tm 0 = .slice (some la) ss.length lc := htm 0
  have e1 : tm 1 = .slice wa xs.length wc := htm 1
  clear htm
  replace hn0 : n = 35 := hn0
  refine Trip.ok fun hok => ?_
  replace hok : ∀ id o, H id = some o → id < nx := hok
  repeat (first | (refine OpsL.p (by subst_vars; decide) (by (first | (exact aop_move (by (first | (simp only [ASt.ev, tmPut, ↓reduceIte, reduceIte, Nat.reduceEqDiff, plain1, *]; rfl) | fail))) | (exact aop_assign (by (first | (simp only [ASt.ev, tmPut, ↓reduceIte, reduceIte, Nat.reduceEqDiff, plain1, *]; rfl) | fail))) | fail)) ?_) | (refine Trip.seq ?_) | (refine Trip.ops ?_) | (refine OpsL.nil ?_; ((repeat (first | refine blockExit_eq ?_ | refine blockExit_ne (by decide) ?_ | refine blockExit_normal ?_ | refine blockExit_ret ?_ | refine blockExit_goto ?_)); first | (change Trip _ _ _ _ _) | dsimp only | skip)) | fail)
  refine OpsL.call2 (by subst_vars; decide) (by (first | (simp only [ASt.ev, tmPut, ↓reduceIte, reduceIte, Nat.reduceEqDiff, plain1, *]; done) | fail)) (by (first | (simp only [ASt.ev, tmPut, ↓reduceIte, reduceIte, Nat.reduceEqDiff, plain1, *]; done) | fail)) entersWMatch (wordMatchC W0 hl0 hw hx hn).ok ?_
  rintro v nx1 H1 ⟨⟨rfl, hm, hx1⟩, hok1⟩
  have hkd : ∀ i (h : i < xs.length) (h2 : xs[i].toNat < ss.length), (kindsOf ss xs).getD i 0 = ss[xs[i].toNat].2 := fun i h h2 => kindsOf_getD h h2
  generalize hks : kindsOf ss xs = ks at *
  have hkl : ks.length = xs.length := by rw [← hks]; exact kindsOf_length
  have hml : (matchF ks).length = xs.length := by rw [matchF_length, hkl]
  repeat (first | (refine OpsL.p (by subst_vars; decide) (by (first | (exact aop_move (by (first | (simp only [ASt.ev, tmPut, ↓reduceIte, reduceIte, Nat.reduceEqDiff, plain1, *]; rfl) | fail))) | (exact aop_len (by (first | (simp only [ASt.ev, tmPut, ↓reduceIte, reduceIte, Nat.reduceEqDiff, plain1, *]; rfl) | fail)) (by exact rfl)) | fail)) ?_) | (refine Trip.block ?_) | (refine OpsL.nil ?_; ((repeat (first | refine blockExit_eq ?_ | refine blockExit_ne (by decide) ?_ | refine blockExit_normal ?_ | refine blockExit_ret ?_ | refine blockExit_goto ?_)); first | (change Trip _ _ _ _ _) | dsimp only | skip)) | fail)
  refine Trip.inv (fun (i : Nat) s => ∃ (tm : Nat → Value) (nx' : Nat) (H' : Heap), s = ⟨tm, n, H', nx'⟩ ∧ Ext nx1 H1 nx' H' ∧ tm 0 = .slice (some la) ss.length lc ∧ tm 1 = .slice wa xs.length wc ∧ tm 10 = .slice (some ⟨nx, 0, none⟩) xs.length xs.length ∧ tm 11 = .int .i64 xs.length ∧ i ≤ xs.length ∧ tm 12 = .int .i64 i ∧ ∀ j, j < i → ¬ badAt ks j) (fun i => xs.length - i) 0 ?_ ?_
  · exact ⟨_, _, _, rfl, Ext.refl, e0, e1, rfl, rfl, by omega, rfl, fun j hj => by omega⟩
  · rintro i s ⟨tm, nx', H', rfl, hext, e0, e1, e10, e11, hi, e12, hgood⟩
    have hx1' := hx1.trans hext
    repeat (first | (refine OpsL.p (by subst_vars; decide) (by (first | (exact aop_move (by (first | (simp only [ASt.ev, tmPut, ↓reduceIte, reduceIte, Nat.reduceEqDiff, plain1, *]; rfl) | fail))) | (exact aop_lss (by (first | (simp only [ASt.ev, tmPut, ↓reduceIte, reduceIte, Nat.reduceEqDiff, plain1, *]; rfl) | fail)) (by (first | (simp only [ASt.ev, tmPut, ↓reduceIte, reduceIte, Nat.reduceEqDiff, plain1, *]; rfl) | fail))) | (exact aop_indexAddr (by (first | (simp only [ASt.ev, tmPut, ↓reduceIte, reduceIte, Nat.reduceEqDiff, plain1, *]; rfl) | fail)) (by (first | (simp only [ASt.ev, tmPut, ↓reduceIte, reduceIte, Nat.reduceEqDiff, plain1, *]; rfl) | fail)) (by exact rfl) (by exact rfl) (by omega) (by omega)) | fail)) ?_) | (refine Trip.seq ?_) | (refine Trip.ops ?_) | (refine Trip.block ?_) | (refine Trip.ite (by (first | (simp only [ASt.ev, tmPut, ↓reduceIte, reduceIte, Nat.reduceEqDiff, plain1, *]; rfl) | fail)) (fun _ => ?_) (fun _ => ?_)) | (refine Trip.skip ?_; ((repeat (first | refine blockExit_eq ?_ | refine blockExit_ne (by decide) ?_ | refine blockExit_normal ?_ | refine blockExit_ret ?_ | refine blockExit_goto ?_)); first | (change Trip _ _ _ _ _) | dsimp only | skip)) | (refine OpsL.nil ?_; ((repeat (first | refine blockExit_eq ?_ | refine blockExit_ne (by decide) ?_ | refine blockExit_normal ?_ | refine blockExit_ret ?_ | refine blockExit_goto ?_)); first | (change Trip _ _ _ _ _) | dsimp only | skip)) | fail)
    · have hlt : i < xs.length := by omega
      obtain ⟨p, rfl, hc⟩ := hw.get hlt
      replace hc : cellAt H' ⟨p.block, p.off + (i : Int).toNat * 1, p.spot⟩ (.int .i64 xs[i]) := by
        have := getc_ext hx1' hok hc
        simpa [cellAt] using this
      obtain ⟨hx0, hx2⟩ := hx xs[i] (List.getElem_mem hlt)
      have hcm : cellAt H' ⟨nx, 0 + (i : Int).toNat * 1, none⟩ (.int .i64 ((matchF ks).getD i 0)) := by
        have := cellAt_own (off := i) hm (by simp; omega)
        simp only [List.getElem_map] at this
        rw [List.getD_eq_getElem?_getD, List.getElem?_eq_getElem (by omega)]
        have h2 : cellAt H' _ _ := getc_ext hext hok1 this
        simpa using h2
      have hkd' := hkd i hlt (by omega)
      have hbad : badAt ks i ↔ (matchF ks).getD i 0 < 0 ∧ ss[xs[i].toNat].2 ≠ 3 := by unfold badAt; rw [hkd']
      have hlow : -1 ≤ (matchF ks).getD i 0 := by
        rw [List.getD_eq_getElem?_getD, List.getElem?_eq_getElem (by omega)]
        exact matchF_low ks _ (List.getElem_mem _)
      have hk3 := hk ss[xs[i].toNat] (List.getElem_mem _)
      generalize hmi : (matchF ks).getD i 0 = mi at *
      have hl' : SymsAt H' (.slice (some la) ss.length lc) ss := hl0.ext hx1' hok
      repeat (first | (refine OpsL.p (by subst_vars; decide) (by (first | (exact aop_move (by (first | (simp only [ASt.ev, tmPut, ↓reduceIte, reduceIte, Nat.reduceEqDiff, plain1, *]; rfl) | fail))) | (exact aop_assign (by (first | (simp only [ASt.ev, tmPut, ↓reduceIte, reduceIte, Nat.reduceEqDiff, plain1, *]; rfl) | fail))) | (exact aop_indexAddr (by (first | (simp only [ASt.ev, tmPut, ↓reduceIte, reduceIte, Nat.reduceEqDiff, plain1, *]; rfl) | fail)) (by (first | (simp only [ASt.ev, tmPut, ↓reduceIte, reduceIte, Nat.reduceEqDiff, plain1, *]; rfl) | fail)) (by exact rfl) (by exact rfl) (by omega) (by omega)) | (exact aop_load (by (first | (simp only [ASt.ev, tmPut, ↓reduceIte, reduceIte, Nat.reduceEqDiff, plain1, *]; rfl) | fail)) (by exact rfl) rfl (by assumption)) | fail)) ?_) | (refine Trip.seq ?_) | (refine Trip.ops ?_) | (refine OpsL.nil ?_; ((repeat (first | refine blockExit_eq ?_ | refine blockExit_ne (by decide) ?_ | refine blockExit_normal ?_ | refine blockExit_ret ?_ | refine blockExit_goto ?_)); first | (change Trip _ _ _ _ _) | dsimp only | skip)) | fail)
      refine OpsL.call2 (by subst_vars; decide) (by (first | (simp only [ASt.ev, tmPut, ↓reduceIte, reduceIte, Nat.reduceEqDiff, plain1, *]; done) | fail)) (by (first | (simp only [ASt.ev, tmPut, ↓reduceIte, reduceIte, Nat.reduceEqDiff, plain1, *]; done) | fail)) entersSymAt (symAtC W0 hl' hx0 hx2).ok ?_
      rintro v2 nx2 H2 ⟨⟨rfl, hx5⟩, hok2⟩
      have hgoodN : ¬ badAt ks i → ∀ j, j < i + 1 → ¬ badAt ks j := fun hnb j hj => by
        rcases Nat.lt_succ_iff_lt_or_eq.1 hj with h | rfl
        · exact hgood j h
        · exact hnb
      have hx6 := hx1'.trans hx5
      repeat' (first | (refine OpsL.p (by subst_vars; decide) (by (first | (exact aop_move (by (first | (simp only [ASt.ev, tmPut, ↓reduceIte, reduceIte, Nat.reduceEqDiff, plain1, *]; rfl) | fail))) | (exact aop_assign (by (first | (simp only [ASt.ev, tmPut, ↓reduceIte, reduceIte, Nat.reduceEqDiff, plain1, *]; rfl) | fail))) | (exact aop_eql (by (first | (simp only [ASt.ev, tmPut, ↓reduceIte, reduceIte, Nat.reduceEqDiff, plain1, *]; rfl) | fail)) (by (first | (simp only [ASt.ev, tmPut, ↓reduceIte, reduceIte, Nat.reduceEqDiff, plain1, *]; rfl) | fail))) | (exact aop_add (by (first | (simp only [ASt.ev, tmPut, ↓reduceIte, reduceIte, Nat.reduceEqDiff, plain1, *]; rfl) | fail)) (by (first | (simp only [ASt.ev, tmPut, ↓reduceIte, reduceIte, Nat.reduceEqDiff, plain1, *]; rfl) | fail)) (by omega)) | (exact aop_pickT (by (first | (simp only [ASt.ev, tmPut, ↓reduceIte, reduceIte, Nat.reduceEqDiff, decide_true, decide_false, not_true_eq_false, not_false_eq_true, Bool.not_true, Bool.not_false, *]; done) | fail)) (by (first | (simp only [ASt.ev, tmPut, ↓reduceIte, reduceIte, Nat.reduceEqDiff, plain1, *]; rfl) | fail))) | (exact aop_pickF (by (first | (simp only [ASt.ev, tmPut, ↓reduceIte, reduceIte, Nat.reduceEqDiff, decide_true, decide_false, not_true_eq_false, not_false_eq_true, Bool.not_true, Bool.not_false, *]; done) | fail)) (by (first | (simp only [ASt.ev, tmPut, ↓reduceIte, reduceIte, Nat.reduceEqDiff, plain1, *]; rfl) | fail))) | (exact aop_field (by (first | (simp only [ASt.ev, tmPut, ↓reduceIte, reduceIte, Nat.reduceEqDiff, plain1, *]; rfl) | fail)) (by exact rfl) (by exact rfl) (by exact rfl) rfl (by exact rfl)) | fail)) ?_) | (refine Trip.seq ?_) | (refine Trip.ops ?_) | (refine Trip.ite (by (first | (simp only [ASt.ev, tmPut, ↓reduceIte, reduceIte, Nat.reduceEqDiff, plain1, *]; rfl) | fail)) (fun _ => ?_) (fun _ => ?_)) | (refine Trip.skip ?_; ((repeat (first | refine blockExit_eq ?_ | refine blockExit_ne (by decide) ?_ | refine blockExit_normal ?_ | refine blockExit_ret ?_ | refine blockExit_goto ?_)); first | (change Trip _ _ _ _ _) | dsimp only | skip)) | (refine Trip.ret ?_; ((repeat (first | refine blockExit_eq ?_ | refine blockExit_ne (by decide) ?_ | refine blockExit_normal ?_ | refine blockExit_ret ?_ | refine blockExit_goto ?_)); first | (change Trip _ _ _ _ _) | dsimp only | skip)) | (refine OpsL.nil ?_; ((repeat (first | refine blockExit_eq ?_ | refine blockExit_ne (by decide) ?_ | refine blockExit_normal ?_ | refine blockExit_ret ?_ | refine blockExit_goto ?_)); first | (change Trip _ _ _ _ _) | dsimp only | skip)) | (refine OpsL.unguard (by exact rfl) (by (first | (simp only [ASt.ev, tmPut, ↓reduceIte, reduceIte, Nat.reduceEqDiff, decide_true, decide_false, not_true_eq_false, not_false_eq_true, Bool.not_true, Bool.not_false, *]; done) | fail)) ?_) | (refine OpsL.skipped (by exact rfl) (by (first | (simp only [ASt.ev, tmPut, ↓reduceIte, reduceIte, Nat.reduceEqDiff, decide_true, decide_false, not_true_eq_false, not_false_eq_true, Bool.not_true, Bool.not_false, *]; done) | fail)) (by subst_vars; decide) ?_) | (refine OpsL.skippedU (by exact rfl) (by (first | (simp only [ASt.ev, tmPut, ↓reduceIte, reduceIte, Nat.reduceEqDiff, decide_true, decide_false, not_true_eq_false, not_false_eq_true, Bool.not_true, Bool.not_false, *]; done) | fail)) (by subst_vars; decide) ?_) | (refine OpsL.guardT (by exact rfl) (by (first | (simp only [ASt.ev, tmPut, ↓reduceIte, reduceIte, Nat.reduceEqDiff, plain1, *]; rfl) | fail)) (by subst_vars; decide) (fun _ => ?_) (fun _ => ?_)) | (refine OpsL.guardF (by exact rfl) (by (first | (simp only [ASt.ev, tmPut, ↓reduceIte, reduceIte, Nat.reduceEqDiff, plain1, *]; rfl) | fail)) (by subst_vars; decide) (fun _ => ?_) (fun _ => ?_)) | fail)
      all_goals first | (refine Trip.iteB (b := true) (by (first | (simp only [ASt.ev, tmPut, ↓reduceIte, reduceIte, Nat.reduceEqDiff, decide_true, decide_false, not_true_eq_false, not_false_eq_true, Bool.not_true, Bool.not_false, *]; done) | fail)) (fun _ => ?_) (fun h => absurd h (by decide)); repeat' (first | (refine OpsL.p (by subst_vars; decide) (by (first | (exact aop_assign (by (first | (simp only [ASt.ev, tmPut, ↓reduceIte, reduceIte, Nat.reduceEqDiff, plain1, *]; rfl) | fail))) | fail)) ?_) | (refine Trip.seq ?_) | (refine Trip.ops ?_) | (refine Trip.ret ?_; ((repeat (first | refine blockExit_eq ?_ | refine blockExit_ne (by decide) ?_ | refine blockExit_normal ?_ | refine blockExit_ret ?_ | refine blockExit_goto ?_)); first | (change Trip _ _ _ _ _) | dsimp only | skip)) | (refine OpsL.nil ?_; ((repeat (first | refine blockExit_eq ?_ | refine blockExit_ne (by decide) ?_ | refine blockExit_normal ?_ | refine blockExit_ret ?_ | refine blockExit_goto ?_)); first | (change Trip _ _ _ _ _) | dsimp only | skip)) | fail)) | (refine Trip.iteB (b := false) (by (first | (simp only [ASt.ev, tmPut, ↓reduceIte, reduceIte, Nat.reduceEqDiff, decide_true, decide_false, not_true_eq_false, not_false_eq_true, Bool.not_true, Bool.not_false, *]; done) | fail)) (fun h => absurd h (by decide)) (fun _ => ?_); repeat' (first | (refine OpsL.p (by subst_vars; decide) (by (first | (exact aop_move (by (first | (simp only [ASt.ev, tmPut, ↓reduceIte, reduceIte, Nat.reduceEqDiff, plain1, *]; rfl) | fail))) | (exact aop_add (by (first | (simp only [ASt.ev, tmPut, ↓reduceIte, reduceIte, Nat.reduceEqDiff, plain1, *]; rfl) | fail)) (by (first | (simp only [ASt.ev, tmPut, ↓reduceIte, reduceIte, Nat.reduceEqDiff, plain1, *]; rfl) | fail)) (by omega)) | fail)) ?_) | (refine Trip.ops ?_) | (refine Trip.skip ?_; ((repeat (first | refine blockExit_eq ?_ | refine blockExit_ne (by decide) ?_ | refine blockExit_normal ?_ | refine blockExit_ret ?_ | refine blockExit_goto ?_)); first | (change Trip _ _ _ _ _) | dsimp only | skip)) | (refine OpsL.nil ?_; ((repeat (first | refine blockExit_eq ?_ | refine blockExit_ne (by decide) ?_ | refine blockExit_normal ?_ | refine blockExit_ret ?_ | refine blockExit_goto ?_)); first | (change Trip _ _ _ _ _) | dsimp only | skip)) | fail)) | skip
      all_goals first
        | (refine ⟨.inr rfl, _, res_tmp, ⟨false, by simp [tmPut], by simp; exact ⟨i, hlt, hbad.2 (by omega)⟩⟩, hx6⟩; done)
        | (refine ⟨i + 1, ⟨_, _, _, rfl, hext.trans hx5, e0, e1, e10, e11, by omega, by simp [tmPut, *], hgoodN (by rw [hbad]; omega)⟩, by omega⟩; done)
    · repeat (first | (refine OpsL.p (by subst_vars; decide) (by (first | (exact aop_assign (by (first | (simp only [ASt.ev, tmPut, ↓reduceIte, reduceIte, Nat.reduceEqDiff, plain1, *]; rfl) | fail))) | fail)) ?_) | (refine Trip.seq ?_) | (refine Trip.ops ?_) | (refine Trip.exit ?_; ((repeat (first | refine blockExit_eq ?_ | refine blockExit_ne (by decide) ?_ | refine blockExit_normal ?_ | refine blockExit_ret ?_ | refine blockExit_goto ?_)); first | (change Trip _ _ _ _ _) | dsimp only | skip)) | (refine Trip.ret ?_; ((repeat (first | refine blockExit_eq ?_ | refine blockExit_ne (by decide) ?_ | refine blockExit_normal ?_ | refine blockExit_ret ?_ | refine blockExit_goto ?_)); first | (change Trip _ _ _ _ _) | dsimp only | skip)) | (refine OpsL.nil ?_; ((repeat (first | refine blockExit_eq ?_ | refine blockExit_ne (by decide) ?_ | refine blockExit_normal ?_ | refine blockExit_ret ?_ | refine blockExit_goto ?_)); first | (change Trip _ _ _ _ _) | dsimp only | skip)) | fail)
      exact ⟨.inr rfl, _, res_tmp, ⟨true, by simp [tmPut], by simp; exact fun j hj => hgood j (by omega)⟩, hx1'⟩
end Go.Proofs.Ytngekapiemkgnaa
/-
  Chapter 1: a whole word between changes nothing of the others' partners.
-/
namespace Go.Proofs.Ytngekapiemkgnaa
set_option linter.unusedSimpArgs false
set_option linter.unusedVariables false
open Go.Am Go.RowKit

/-- A place behind the cut moves on. -/
def shiftI (A B : Nat) (v : Int) : Int := if (A : Int) ≤ v then v + B else v
def shiftN (A B : Nat) (j : Nat) : Nat := if A ≤ j then j + B else j
theorem shift_nat (A B j : Nat) : shiftI A B (j : Int) = (shiftN A B j : Int) := by
  unfold shiftI shiftN
  by_cases h : A ≤ j
  · rw [if_pos h, if_pos (by omega)]; omega
  · rw [if_neg h, if_neg (by omega)]
theorem shift_neg (A B : Nat) : shiftI A B (-1) = -1 := by unfold shiftI; rw [if_neg (by omega)]
theorem shiftN_inj {A B i j : Nat} (h : shiftN A B i = shiftN A B j) : i = j := by
  unfold shiftN at h
  split at h <;> split at h <;> omega

theorem getD_setI (l : List Int) (i j : Nat) (v : Int) (h : i < l.length) : (l.set i v).getD j 0 = if j = i then v else l.getD j 0 := getD_set l i j v h

/-- The one walk and the other, side by side. -/
structure Side (A B i : Nat) (p q : List Int × List Int) : Prop where
  st : q.2 = p.2.map (shiftI A B)
  at_ : ∀ j, j < i → q.1.getD (shiftN A B j) 0 = shiftI A B (p.1.getD j 0)

theorem Side.step {A B i n m : Nat} {k : Int} {p q : List Int × List Int} (h : Side A B i p q) (hp : MInv n i p) (hi : i < n) (hq : q.1.length = m) (hm : shiftN A B i < m) : Side A B (i + 1) (matchStep i k p) (matchStep (shiftN A B i) k q) := by
  have hpl : i < p.1.length := by rw [hp.len]; exact hi
  have hql : shiftN A B i < q.1.length := by rw [hq]; exact hm
  have base : ∀ j, j < i + 1 → (q.1.set (shiftN A B i) (-1)).getD (shiftN A B j) 0 = shiftI A B ((p.1.set i (-1)).getD j 0) := by
    intro j hj
    rw [getD_setI _ _ _ _ hql, getD_setI _ _ _ _ hpl]
    by_cases e : j = i
    · subst e; rw [if_pos rfl, if_pos rfl, shift_neg]
    · rw [if_neg (fun x => e (shiftN_inj x)), if_neg e]
      exact h.at_ j (by omega)
  unfold matchStep
  split
  · refine ⟨?_, base⟩
    show q.2 ++ [((shiftN A B i : Nat) : Int)] = (p.2 ++ [(i : Int)]).map (shiftI A B)
    rw [List.map_append, h.st, List.map_cons, List.map_nil, shift_nat]
  · split
    · rw [h.st, List.getLast?_map]
      cases hl : p.2.getLast? with
      | none => exact ⟨by simp, base⟩
      | some t =>
        have ht := hp.op t (List.mem_of_getLast? hl)
        obtain ⟨tn, rfl⟩ : ∃ tn : Nat, t = tn := ⟨t.toNat, by omega⟩
        simp only [Option.map_some, shift_nat]
        refine ⟨?_, ?_⟩
        · show (p.2.map (shiftI A B)).dropLast = p.2.dropLast.map (shiftI A B)
          rw [List.map_dropLast]
        · intro j hj
          show (((q.1.set (shiftN A B i) (-1)).set (shiftN A B i) ((shiftN A B tn : Nat) : Int)).set ((shiftN A B tn : Nat) : Int).toNat ((shiftN A B i : Nat) : Int)).getD (shiftN A B j) 0 = shiftI A B ((((p.1.set i (-1)).set i (tn : Int)).set (tn : Int).toNat (i : Int)).getD j 0)
          have htn : tn < i := by omega
          have hst : shiftN A B tn < q.1.length := by
            have : shiftN A B tn ≤ shiftN A B i := by unfold shiftN; split <;> split <;> omega
            omega
          have L1 : (((q.1.set (shiftN A B i) (-1)).set (shiftN A B i) ((shiftN A B tn : Nat) : Int)).set (shiftN A B tn) ((shiftN A B i : Nat) : Int)).getD (shiftN A B j) 0 = if shiftN A B j = shiftN A B tn then ((shiftN A B i : Nat) : Int) else if shiftN A B j = shiftN A B i then ((shiftN A B tn : Nat) : Int) else (q.1.set (shiftN A B i) (-1)).getD (shiftN A B j) 0 := by
            rw [getD_setI _ _ _ _ (by simpa using hst), getD_setI _ _ _ _ (by simpa using hql)]
          have R1 : (((p.1.set i (-1)).set i (tn : Int)).set tn (i : Int)).getD j 0 = if j = tn then (i : Int) else if j = i then (tn : Int) else (p.1.set i (-1)).getD j 0 := by
            rw [getD_setI _ _ _ _ (by simp; omega), getD_setI _ _ _ _ (by simpa using hpl)]
          rw [Int.toNat_natCast, Int.toNat_natCast, L1, R1]
          by_cases e1 : j = tn
          · subst e1; rw [if_pos rfl, if_pos rfl, shift_nat]
          · rw [if_neg (fun x => e1 (shiftN_inj x)), if_neg e1]
            by_cases e2 : j = i
            · subst e2; rw [if_pos rfl, if_pos rfl, shift_nat]
            · rw [if_neg (fun x => e2 (shiftN_inj x)), if_neg e2]
              exact base j hj
    · exact ⟨h.st, base⟩


/-- A part that takes back only what it pushed leaves all below as it was. -/
theorem frame {b big : List Int} {A : Nat} (hlen : A + b.length ≤ big.length) (hb : ∀ t, t < b.length → big.getD (A + t) 0 = b.getD t 0) (hne : ∀ t, t < b.length → b.getD t 0 = 2 → (matchS b t).2 ≠ []) :
    ∀ t, t ≤ b.length → (matchS big (A + t)).2 = (matchS big A).2 ++ (matchS b t).2.map (fun x => x + (A : Int)) ∧ ∀ j, j < A → (matchS big (A + t)).1.getD j 0 = (matchS big A).1.getD j 0 := by
  intro t
  induction t with
  | zero => intro _; exact ⟨by simp [matchS], fun _ _ => rfl⟩
  | succ t ih =>
    intro ht
    obtain ⟨h1, h2⟩ := ih (by omega)
    have inv := matchS_inv big (A + t)
    have invb := matchS_inv b t
    have hX : A + t < (matchS big (A + t)).1.length := by rw [inv.len]; omega
    have base : ∀ j, j < A → ((matchS big (A + t)).1.set (A + t) (-1)).getD j 0 = (matchS big A).1.getD j 0 := fun j hj => by
      rw [getD_setI _ _ _ _ hX, if_neg (by omega)]; exact h2 j hj
    show (matchStep (A + t) (big.getD (A + t) 0) (matchS big (A + t))).2 = (matchS big A).2 ++ (matchStep t (b.getD t 0) (matchS b t)).2.map (fun x => x + (A : Int)) ∧ ∀ j, j < A → (matchStep (A + t) (big.getD (A + t) 0) (matchS big (A + t))).1.getD j 0 = _
    rw [hb t (by omega)]
    have hn := hne t (by omega)
    unfold matchStep
    split
    · refine ⟨?_, base⟩
      show (matchS big (A + t)).2 ++ [((A + t : Nat) : Int)] = (matchS big A).2 ++ ((matchS b t).2 ++ [(t : Int)]).map (fun x => x + (A : Int))
      rw [h1, List.map_append, List.append_assoc, List.map_cons, List.map_nil]
      rw [show ((A + t : Nat) : Int) = (t : Int) + (A : Int) by omega]
    · split
      · rename_i hk2
        have hne2 := hn hk2
        rcases List.eq_nil_or_concat (matchS b t).2 with h0 | ⟨L, x, hL⟩
        · exact absurd h0 hne2
        · rw [List.concat_eq_append] at hL
          have hx := invb.op x (by rw [hL]; simp)
          have e1 : (matchS b t).2.getLast? = some x := by rw [hL]; simp
          have e2 : (matchS big (A + t)).2.getLast? = some (x + (A : Int)) := by rw [h1, hL]; simp
          rw [e1, e2]
          refine ⟨?_, fun j hj => ?_⟩
          · show (matchS big (A + t)).2.dropLast = (matchS big A).2 ++ (matchS b t).2.dropLast.map (fun x => x + (A : Int))
            rw [h1, hL, List.map_append, ← List.append_assoc]
            simp
          · show ((((matchS big (A + t)).1.set (A + t) (-1)).set (A + t) (x + (A : Int))).set (x + (A : Int)).toNat ((A + t : Nat) : Int)).getD j 0 = _
            rw [getD_setI _ _ _ _ (by simp; omega), if_neg (by omega), getD_setI _ _ _ _ (by simpa using hX), if_neg (by omega)]
            exact base j hj
      · exact ⟨h1, base⟩

theorem keep_none {ks : List Int} (hks : ∀ k ∈ ks, k = 1 ∨ k = 2 ∨ k = 3) {t : Nat} (ht : t < ks.length) (h2 : ks.getD t 0 = 2) (h0 : (matchS ks t).2 = []) : ∀ i, t < i → i ≤ ks.length → (matchS ks i).1.getD t 0 = -1 := by
  intro i
  induction i with
  | zero => intro h; omega
  | succ i ih =>
    intro hi hl
    have inv := matchS_inv ks i
    have hX : i < (matchS ks i).1.length := by rw [inv.len]; omega
    show (matchStep i (ks.getD i 0) (matchS ks i)).1.getD t 0 = -1
    by_cases e : t = i
    · subst e
      unfold matchStep
      rw [h2, if_neg (by omega), if_pos rfl, h0]
      show ((matchS ks t).1.set t (-1)).getD t 0 = -1
      rw [getD_setI _ _ _ _ hX, if_pos rfl]
    · have hprev := ih (by omega) (by omega)
      have base : ((matchS ks i).1.set i (-1)).getD t 0 = -1 := by rw [getD_setI _ _ _ _ hX, if_neg e]; exact hprev
      unfold matchStep
      split
      · exact base
      · split
        · cases hl2 : (matchS ks i).2.getLast? with
          | none => exact base
          | some x =>
            obtain ⟨s, hs, hp⟩ := pinv ks hks i (by omega)
            have hxm := List.mem_of_getLast? hl2
            rw [hs] at hxm
            obtain ⟨xn, hxs, rfl⟩ := List.mem_map.1 hxm
            have hx1 := (hp.mem xn hxs).2.1
            have hxlt := (hp.mem xn hxs).1
            have hxt : t ≠ xn := fun e => by subst e; rw [h2] at hx1; omega
            show ((((matchS ks i).1.set i (-1)).set i (Int.ofNat xn)).set (Int.ofNat xn).toNat (i : Int)).getD t 0 = -1
            rw [getD_setI _ _ _ _ (by simp; omega), if_neg (by simpa using hxt), getD_setI _ _ _ _ (by simpa using hX), if_neg e]
            exact base
        · exact base

/-- A whole word takes back all that it pushed, and nothing else. -/
theorem whole_clean {ks : List Int} (hks : ∀ k ∈ ks, k = 1 ∨ k = 2 ∨ k = 3) (hw : ∀ j, j < ks.length → ¬ badAt ks j) : (∀ t, t < ks.length → ks.getD t 0 = 2 → (matchS ks t).2 ≠ []) ∧ (matchS ks ks.length).2 = [] := by
  constructor
  · intro t ht h2 h0
    have := keep_none hks ht h2 h0 ks.length ht (Nat.le_refl _)
    exact hw t ht ⟨by show (matchS ks ks.length).1.getD t 0 < 0; omega, by omega⟩
  · obtain ⟨s, hs, hp⟩ := pinv ks hks ks.length (Nat.le_refl _)
    rw [hs]
    cases s with
    | nil => rfl
    | cons x s =>
      obtain ⟨h1, h2, h3⟩ := hp.mem x List.mem_cons_self
      exact absurd ⟨by show (matchS ks ks.length).1.getD x 0 < 0; omega, by omega⟩ (hw x h1)

theorem insert_same {a b c : List Int} (hks : ∀ k ∈ b, k = 1 ∨ k = 2 ∨ k = 3) (hw : ∀ j, j < b.length → ¬ badAt b j) : ∀ i, i < a.length + c.length →
    (matchF (a ++ b ++ c)).getD (shiftN a.length b.length i) 0 = shiftI a.length b.length ((matchF (a ++ c)).getD i 0) := by
  obtain ⟨w1, w2⟩ := whole_clean hks hw
  generalize hA : a.length = A at *
  generalize hB : b.length = B at *
  have hbig : (a ++ b ++ c).length = A + B + c.length := by simp [hA, hB]; omega
  have hsm : (a ++ c).length = A + c.length := by simp [hA]
  have g1 : ∀ i, i < A → (a ++ b ++ c).getD i 0 = (a ++ c).getD i 0 := fun i hi => by
    rw [List.getD_eq_getElem?_getD, List.getD_eq_getElem?_getD, List.append_assoc, List.getElem?_append_left (by omega), List.getElem?_append_left (by omega)]
  have g2 : ∀ t, t < B → (a ++ b ++ c).getD (A + t) 0 = b.getD t 0 := fun t ht => by
    rw [List.getD_eq_getElem?_getD, List.getD_eq_getElem?_getD, List.append_assoc, List.getElem?_append_right (by omega), List.getElem?_append_left (by omega)]
    congr 2; omega
  have g3 : ∀ i, A ≤ i → (a ++ b ++ c).getD (i + B) 0 = (a ++ c).getD i 0 := fun i hi => by
    rw [List.getD_eq_getElem?_getD, List.getD_eq_getElem?_getD, List.getElem?_append_right (by simp; omega), List.getElem?_append_right (by omega)]
    congr 2; simp; omega
  have s1 : ∀ i, i ≤ A → Side A B i (matchS (a ++ c) i) (matchS (a ++ b ++ c) i) := by
    intro i
    induction i with
    | zero => intro _; exact ⟨by simp [matchS], fun j hj => by omega⟩
    | succ i ih =>
      intro hi
      have hsh : shiftN A B i = i := by unfold shiftN; rw [if_neg (by omega)]
      have := (ih (by omega)).step (k := (a ++ c).getD i 0) (n := (a ++ c).length) (m := (a ++ b ++ c).length) (matchS_inv _ i) (by omega) (matchS_inv _ i).len (by rw [hsh]; omega)
      rw [hsh] at this
      show Side A B (i + 1) (matchStep i ((a ++ c).getD i 0) (matchS (a ++ c) i)) (matchStep i ((a ++ b ++ c).getD i 0) (matchS (a ++ b ++ c) i))
      rw [g1 i (by omega)]
      exact this
  obtain ⟨f1, f2⟩ := frame (b := b) (big := a ++ b ++ c) (A := A) (by omega) (fun t ht => g2 t (by omega)) (fun t ht => w1 t (by omega)) B (by omega)
  have s2 : Side A B A (matchS (a ++ c) A) (matchS (a ++ b ++ c) (A + B)) := by
    have h := s1 A (Nat.le_refl _)
    refine ⟨?_, fun j hj => ?_⟩
    · rw [f1, w2, List.map_nil, List.append_nil]; exact h.st
    · have hsh : shiftN A B j = j := by unfold shiftN; rw [if_neg (by omega)]
      have := h.at_ j hj
      rw [hsh] at this ⊢
      rw [f2 j hj]; exact this
  have s3 : ∀ i, A + i ≤ A + c.length → Side A B (A + i) (matchS (a ++ c) (A + i)) (matchS (a ++ b ++ c) (A + i + B)) := by
    intro i
    induction i with
    | zero => intro _; exact s2
    | succ i ih =>
      intro hi
      have hsh : shiftN A B (A + i) = A + i + B := by unfold shiftN; rw [if_pos (by omega)]
      have := (ih (by omega)).step (k := (a ++ c).getD (A + i) 0) (n := (a ++ c).length) (m := (a ++ b ++ c).length) (matchS_inv _ _) (by omega) (matchS_inv _ _).len (by rw [hsh]; omega)
      rw [hsh] at this
      show Side A B (A + i + 1) (matchStep (A + i) ((a ++ c).getD (A + i) 0) (matchS (a ++ c) (A + i))) (matchS (a ++ b ++ c) (A + (i + 1) + B))
      rw [show A + (i + 1) + B = (A + i + B) + 1 by omega]
      show Side A B (A + i + 1) (matchStep (A + i) ((a ++ c).getD (A + i) 0) (matchS (a ++ c) (A + i))) (matchStep (A + i + B) ((a ++ b ++ c).getD (A + i + B) 0) (matchS (a ++ b ++ c) (A + i + B)))
      rw [g3 (A + i) (by omega)]
      exact this
  intro i hi
  have := (s3 c.length (Nat.le_refl _)).at_ i hi
  unfold matchF
  rw [hbig, hsm, show A + B + c.length = A + c.length + B by omega]
  exact this

end Go.Proofs.Ytngekapiemkgnaa
/-
  Rows of numbers, one laid behind the other by append.
-/
namespace Go.Proofs.Ytngekapiemkgnaa
set_option linter.unusedSimpArgs false
set_option linter.unusedVariables false
open Go.Am Go.RowKit

theorem ints_src {H : Heap} {v : Value} {us : List Int} (h : IntsAt H v us) : source H 1 v none = some (us.length, us.map (.int .i64 ·)) := by
  rcases h with ⟨c, rfl, rfl⟩ | ⟨a, c, rfl, hs⟩
  · rfl
  · by_cases h0 : us.length = 0
    · have : us = [] := List.eq_nil_of_length_eq_zero h0
      subst this
      rfl
    · have key : ∀ m (hm : m ≤ us.length), getc H a m = some ((us.take m).map (.int .i64 ·)) := by
        intro m
        induction m with
        | zero =>
          intro _
          have h1 := hs 0 (by omega)
          unfold cellAt getc at h1
          unfold getc
          split at h1
          · rename_i c' e t r q ho
            simp only [ho]
            split at h1
            · rename_i hc
              simp only [Nat.add_zero] at hc ⊢
              rw [if_pos ⟨hc.1, by omega⟩]
              rfl
            · cases h1
          all_goals cases h1
        | succ m ih =>
          intro hm
          have h1 := hs m (by omega)
          have h2 := ih (by omega)
          unfold cellAt getc at h1
          unfold getc at h2 ⊢
          split at h1
          · rename_i c' e t r q ho
            simp only [ho] at h2 ⊢
            split at h1
            · rename_i hc
              split at h2
              · rw [if_pos ⟨hc.1, by have := hc.2; simp only at this; omega⟩]
                simp only [Option.some.injEq] at h1 h2 ⊢
                rw [List.take_add, h2, List.drop_drop, h1, List.take_add_one (l := us) (i := m), List.getElem?_eq_getElem (by omega : m < us.length)]
                show _ = List.map _ (us.take m ++ [us[m]])
                rw [List.map_append]
                rfl
              · cases h2
            · cases h1
          all_goals cases h1
      show (if us.length * 1 = 0 then some (us.length, []) else (getc H a (us.length * 1)).map (us.length, ·)) = _
      rw [if_neg (by omega), Nat.mul_one, key us.length (Nat.le_refl _), List.take_length]
      rfl

/-- A row of numbers that is being laid, in block b. -/
def RowB (H : Heap) (el : TypeId) (b : Nat) (v : Value) (zs : List Int) : Prop :=
  (v = .slice (some ⟨b, 0, none⟩) 0 0 ∧ zs = [] ∧ H b = some (.cells [] 1 none false (some el))) ∨
  ∃ t, v = .slice (some ⟨b, 0, some t⟩) zs.length zs.length ∧ H b = some (.cells (zs.map (.int .i64 ·)) 1 (some t) false (some el))

theorem RowB.at {H : Heap} {el : TypeId} {b : Nat} {v : Value} {zs : List Int} (h : RowB H el b v zs) : IntsAt H v zs := by
  rcases h with ⟨rfl, rfl, hH⟩ | ⟨t, rfl, hH⟩
  · exact .inr ⟨⟨b, 0, none⟩, 0, rfl, fun i hi => by simp at hi⟩
  · exact NumsAt.own (rest := []) (by rw [List.append_nil]; exact hH)

theorem RowB.same {H H' : Heap} {el : TypeId} {b : Nat} {v : Value} {zs : List Int} (h : RowB H el b v zs) (hs : H' b = H b) : RowB H' el b v zs := by
  rcases h with ⟨rfl, rfl, hH⟩ | ⟨t, rfl, hH⟩
  · exact .inl ⟨rfl, rfl, hs.trans hH⟩
  · exact .inr ⟨t, rfl, hs.trans hH⟩

theorem ints_one (l : List Int) : (l.map (Value.int .i64 ·)).all (·.oneCell') = true := by simp [Value.oneCell']

/-- What an append of numbers does to a row that is being laid. -/
theorem RowB.append {P : Program} {H : Heap} {nx : Nat} {ev : Operand → Option Value} {dst : Option Tmp} {type : TypeId} {pos : String} {after : Array Edge} {guard : Option (Nat × Bool)} {el st xt : TypeId} {b : Nat} {v u : Value} {zs us : List Int} {x y : Operand} (h : RowB H el b v zs) (hu : IntsAt H u us) (hx : ev x = some v) (hy : ev y = some u) (hb : b < nx)
    (hst : P.underlying st = some (.slice el)) (hxt : P.underlying xt = some (.slice el)) (hsz : szOf P el = some 1) (hby : bytesOfT P el = some 8) (hz : zeroOf P el = some [.int .i64 0]) (hle : zs.length + us.length ≤ 1000000000) :
    ∃ v' e b', aop P H nx ev ⟨dst, .call ⟨.builtin .append, #[x, y], #[st, xt]⟩, type, pos, after, guard⟩ = some (v', e) ∧ (b' = b ∨ b' = nx) ∧ b' < e.nx nx ∧ nx ≤ e.nx nx ∧ RowB (e.H nx H) el b' v' (zs ++ us) ∧ ∀ i, i ≠ b → i ≠ b' → (e.H nx H) i = H i := by
  have hsrc := ints_src hu
  by_cases h0 : us.length = 0
  · have h0' : us = [] := List.eq_nil_of_length_eq_zero h0
    subst h0'
    refine ⟨v, .none, b, ?_, .inl rfl, hb, Nat.le_refl _, by rw [List.append_nil]; exact h, fun _ _ _ => rfl⟩
    rcases h with ⟨rfl, rfl, hH⟩ | ⟨t, rfl, hH⟩
    · exact aop_append_none (tg := none) (k := 0) hx hy hH hsrc rfl hst hxt rfl hsz hby hz rfl
    · exact aop_append_none (tg := some t) (k := zs.length) hx hy hH hsrc rfl hst hxt rfl hsz hby hz rfl
  · rcases h with ⟨rfl, rfl, hH⟩ | ⟨t, rfl, hH⟩
    · have := aop_append_new (P := P) (nx := nx) (dst := dst) (type := type) (pos := pos) (after := after) (guard := guard) (sz := 1) (bytes := 8) (k := 0) (m := us.length) hx hy hH rfl hsrc (ints_one us) h0 hst hxt rfl hsz hby hz rfl (by omega) (by omega)
      simp only [Nat.zero_add, List.nil_append] at this
      exact ⟨_, _, nx, this, .inr rfl, Nat.lt_succ_self _, Nat.le_succ _, .inr ⟨nx, rfl, Heap.put_eq⟩, fun i _ hi => Heap.put_ne hi⟩
    · obtain ⟨e, h1, h2, h3⟩ := aop_append_own (P := P) (nx := nx) (dst := dst) (type := type) (pos := pos) (after := after) (guard := guard) (ob := some (b, t)) (sz := 1) (bytes := 8) (k := zs.length) (m := us.length) (cs := zs.map (.int .i64 ·)) (el := el) hx hy ⟨rfl, by simp, [], by rw [List.append_nil]; exact hH⟩ hsrc (ints_one us) h0 hst hxt rfl hsz hby hz rfl (by omega) (by omega)
      refine ⟨_, e, b, h1, .inl rfl, by rw [h3]; omega, by rw [h3]; omega, .inr ⟨nx, by rw [List.length_append]; rfl, ?_⟩, ?_⟩
      · rw [h2, List.map_append]; exact Heap.put_eq
      · intro i hi _
        rw [h2]; exact Heap.put_ne hi

/-- What an append of numbers leaves, said of what comes behind it. -/
structure AppB (el : TypeId) (nx : Nat) (H : Heap) (b : Nat) (zs : List Int) (v' : Value) (nx' : Nat) (H' : Heap) (b' : Nat) : Prop where
  blk : b' = b ∨ b' = nx
  lt : b' < nx'
  le : nx ≤ nx'
  row : RowB H' el b' v' zs
  same : ∀ i, i ≠ b → i ≠ b' → H' i = H i

theorem AppB.ok {el : TypeId} {nx nx' b b' : Nat} {H H' : Heap} {zs : List Int} {v' : Value} (h : AppB el nx H b zs v' nx' H' b') (hb : b < nx) (hok : ∀ id o, H id = some o → id < nx) : ∀ id o, H' id = some o → id < nx' := by
  intro id o ho
  by_cases e1 : id = b
  · have := h.le; omega
  · by_cases e2 : id = b'
    · subst e2; exact h.lt
    · rw [h.same id e1 e2] at ho
      have := hok id o ho
      have := h.le
      omega

theorem AppB.ext {el : TypeId} {nx nx' b b' lo : Nat} {H H' H0 : Heap} {zs : List Int} {v' : Value} (h : AppB el nx H b zs v' nx' H' b') (hx : Ext lo H0 nx H) (hb : lo ≤ b) : Ext lo H0 nx' H' := by
  refine ⟨Nat.le_trans hx.1 h.le, fun i hi => ?_⟩
  rw [h.same i (by omega) (by have := h.blk; have := hx.1; omega)]
  exact hx.2 i hi

section
variable {P : Program} {W0 : World} {H : Heap} {nx n : Nat} {type : TypeId} {pos : String} {after : Array Edge} {ops : Array Oper} {l : List Oper} {tm : Nat → Value} {QQ : ASt → Prop} {d : Tmp}
theorem OpsL.appendB {el st xt : TypeId} {b : Nat} {v u : Value} {zs us : List Int} {x y : Operand} (hd : d < n) (h : RowB H el b v zs) (hu : IntsAt H u us) (hx : ASt.ev ⟨tm, n, H, nx⟩ x = some v) (hy : ASt.ev ⟨tm, n, H, nx⟩ y = some u) (hb : b < nx)
    (hst : P.underlying st = some (.slice el)) (hxt : P.underlying xt = some (.slice el)) (hsz : szOf P el = some 1) (hby : bytesOfT P el = some 8) (hz : zeroOf P el = some [.int .i64 0]) (hle : zs.length + us.length ≤ 1000000000)
    (hc : ∀ v' nx' H' b', AppB el nx H b (zs ++ us) v' nx' H' b' → OpsL P W0 ops l ⟨tmPut tm (some d) v', n, H', nx'⟩ QQ) :
    OpsL P W0 ops (⟨some d, .call ⟨.builtin .append, #[x, y], #[st, xt]⟩, type, pos, after, none⟩ :: l) ⟨tm, n, H, nx⟩ QQ := by
  obtain ⟨v', e, b', h1, h2, h3, h4, h5, h6⟩ := RowB.append (dst := some d) (type := type) (pos := pos) (after := after) (guard := none) h hu hx hy hb hst hxt hsz hby hz hle
  exact OpsL.e hd h1 (hc v' _ _ b' ⟨h2, h3, h4, h5, h6⟩)

theorem ActStep.appendB {acts : List Nat} {K : Nat → Heap → Prop} {i : Nat} {N : ASt → Prop} {el st xt : TypeId} {b : Nat} {v u : Value} {zs us : List Int} {x y : Operand} (ho : ops[i]? = some ⟨some d, .call ⟨.builtin .append, #[x, y], #[st, xt]⟩, type, pos, after, none⟩) (he : acts.contains i = true) (hd : d < n) (h : RowB H el b v zs) (hu : IntsAt H u us) (hx : ASt.ev ⟨tm, n, H, nx⟩ x = some v) (hy : ASt.ev ⟨tm, n, H, nx⟩ y = some u) (hb : b < nx)
    (hst : P.underlying st = some (.slice el)) (hxt : P.underlying xt = some (.slice el)) (hsz : szOf P el = some 1) (hby : bytesOfT P el = some 8) (hz : zeroOf P el = some [.int .i64 0]) (hle : zs.length + us.length ≤ 1000000000)
    (hc : ∀ v' nx' H' b', AppB el nx H b (zs ++ us) v' nx' H' b' → K nx' H' ∧ N ⟨tmPut tm (some d) v', n, H', nx'⟩) :
    ActStep P W0 ops acts K i ⟨tm, n, H, nx⟩ N := by
  obtain ⟨v', e, b', h1, h2, h3, h4, h5, h6⟩ := RowB.append (dst := some d) (type := type) (pos := pos) (after := after) (guard := none) h hu hx hy hb hst hxt hsz hby hz hle
  obtain ⟨k1, k2⟩ := hc v' _ _ b' ⟨h2, h3, h4, h5, h6⟩
  exact ActStep.eff ho he (by simp [dstOk, hd]) rfl h1 k1 k2
end

theorem aSlice_congr {P : Program} {H H' : Heap} {t : TypeId} {a : Option Addr} {n c : Nat} {lo hi mx : Option Value} (h : ∀ p, a = some p → H' p.block = H p.block) : aSlice P H' t (.slice a n c) lo hi mx = aSlice P H t (.slice a n c) lo hi mx := by
  cases a with
  | none =>
    unfold aSlice
    cases P.underlying t with
    | none => rfl
    | some d => cases d <;> rfl
  | some p =>
    unfold aSlice
    cases P.underlying t with
    | none => rfl
    | some d => cases d <;> first | rfl | simp only [h p rfl]

/-- The front of a row, and what is behind it. -/
theorem own_parts {P : Program} {H : Heap} {ob : Option (Nat × Nat)} {t el : TypeId} {v : Value} {xs : List Int} {k : Nat} (h : OwnInts H ob el v xs) (hu : P.underlying t = some (.slice el)) (hs : szOf P el = some 1) (hk : k ≤ xs.length) :
    (∃ r, aSlice P H t v none (some (.int .i64 k)) none = some r ∧ IntsAt H r (xs.take k)) ∧ ∃ r, aSlice P H t v (some (.int .i64 k)) none none = some r ∧ IntsAt H r (xs.drop k) := by
  constructor
  · obtain ⟨r, h1, h2⟩ := h.take (lo := none) (hi := some (.int .i64 k)) hu hs hk (.inl ⟨rfl, rfl⟩) (.inr ⟨.i64, rfl⟩)
    exact ⟨r, h1, h2.at⟩
  · have hat := h.at
    cases ob with
    | none =>
      obtain ⟨rfl, h1, _⟩ := h
      have hx : xs = [] := by simpa using h1
      subst hx
      have hk0 : k = 0 := by simpa using hk
      subst hk0
      exact ⟨_, aSlice_nil hu hs (.inr ⟨.i64, rfl⟩) (.inl ⟨rfl, rfl⟩), .inl ⟨0, rfl, rfl⟩⟩
    | some bt =>
      obtain ⟨b, tg⟩ := bt
      obtain ⟨rfl, _, rest, ho⟩ := h
      refine ⟨_, aSlice_tagged hu hs (a := ⟨b, 0, some tg⟩) (l := k) (h := xs.length) ho rfl rfl rfl (.inr ⟨.i64, rfl⟩) (.inl ⟨rfl, rfl⟩) hk (Nat.le_refl _), .inr ⟨_, _, by rw [List.length_drop], fun i hi => ?_⟩⟩
      rw [List.length_drop] at hi
      rw [if_neg (by omega)]
      rcases hat with ⟨_, h, _⟩ | ⟨a, c, h, hc⟩
      · cases h
      · cases h
        have := hc (k + i) (by omega)
        rw [List.getElem_drop]
        simpa [Nat.add_assoc] using this

end Go.Proofs.Ytngekapiemkgnaa
