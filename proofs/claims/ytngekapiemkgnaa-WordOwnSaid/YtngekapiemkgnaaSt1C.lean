/-
  Texts laid together: Deep0, Match1, Own1.
-/
import Derived.Test.YtngekapiemkgnaaSt1A
import Derived.Test.YtngekapiemkgnaaSt1T
/-
  Chapter 1: symAt of package word; depth by one plain fold.
-/
namespace Go.Proofs.Ytngekapiemkgnaa
set_option linter.unusedSimpArgs false
set_option linter.unusedVariables false
open Go.Am Go.RowKit
attribute [local irreducible] aop OpsL Trip blockExit OpsD

set_option maxRecDepth 20000 in
set_option maxHeartbeats 4000000 in
theorem symAtC (W0 : World) {nx : Nat} {H : Heap} {lv : Value} {ss : List (ByteArray × Int)} {x : Int} (hl : SymsAt H lv ss) (h0 : 0 ≤ x) (h1 : x < ss.length) :
    ACalls Try.prog W0 25 [lv, .int .i64 x] nx H fun v nx' H' => v = .agg #[.string (ss[x.toNat]'(by omega)).1, .int .i64 (ss[x.toNat]'(by omega)).2] ∧ Ext nx H nx' H' := by
  obtain ⟨la, lc, rfl, hl⟩ := hl
  refine ACalls.by_trip (fn := Try.f25) (c := _) Try.func25 rfl (fun tm n hn0 htm => ?_)
  have e0 : tm 0 = .slice (some la) ss.length lc := htm 0
  have e1 : tm 1 = .int .i64 x := htm 1
  clear htm
  replace hn0 : n = 18 := hn0
  refine Trip.ok fun hok => ?_
  have hg := hl x.toNat (by omega)
  obtain ⟨o, ho⟩ := getc_some hg
  have hlt : la.block < nx := hok _ _ ho
  refine Trip.seq (Trip.ops ?_)
  refine OpsL.new (by subst_vars; decide) (aop_alloc (by exact rfl)) ?_
  repeat' (first | (refine OpsL.p (by subst_vars; decide) (by (first | (exact aop_move (by (first | (simp only [ASt.ev, tmPut, ↓reduceIte, reduceIte, Nat.reduceEqDiff, plain1, *]; rfl) | fail))) | (exact aop_lss (by (first | (simp only [ASt.ev, tmPut, ↓reduceIte, reduceIte, Nat.reduceEqDiff, plain1, *]; rfl) | fail)) (by (first | (simp only [ASt.ev, tmPut, ↓reduceIte, reduceIte, Nat.reduceEqDiff, plain1, *]; rfl) | fail))) | (exact aop_geq (by (first | (simp only [ASt.ev, tmPut, ↓reduceIte, reduceIte, Nat.reduceEqDiff, plain1, *]; rfl) | fail)) (by (first | (simp only [ASt.ev, tmPut, ↓reduceIte, reduceIte, Nat.reduceEqDiff, plain1, *]; rfl) | fail))) | (exact aop_len (by (first | (simp only [ASt.ev, tmPut, ↓reduceIte, reduceIte, Nat.reduceEqDiff, plain1, *]; rfl) | fail)) (by exact rfl)) | (exact aop_indexAddr (by (first | (simp only [ASt.ev, tmPut, ↓reduceIte, reduceIte, Nat.reduceEqDiff, plain1, *]; rfl) | fail)) (by (first | (simp only [ASt.ev, tmPut, ↓reduceIte, reduceIte, Nat.reduceEqDiff, plain1, *]; rfl) | fail)) (by exact rfl) (by exact rfl) (by omega) (by omega)) | (exact aop_pickT (by (first | (simp only [ASt.ev, tmPut, ↓reduceIte, reduceIte, Nat.reduceEqDiff, decide_true, decide_false, not_true_eq_false, not_false_eq_true, Bool.not_true, Bool.not_false, *]; done) | fail)) (by (first | (simp only [ASt.ev, tmPut, ↓reduceIte, reduceIte, Nat.reduceEqDiff, plain1, *]; rfl) | fail))) | (exact aop_pickF (by (first | (simp only [ASt.ev, tmPut, ↓reduceIte, reduceIte, Nat.reduceEqDiff, decide_true, decide_false, not_true_eq_false, not_false_eq_true, Bool.not_true, Bool.not_false, *]; done) | fail)) (by (first | (simp only [ASt.ev, tmPut, ↓reduceIte, reduceIte, Nat.reduceEqDiff, plain1, *]; rfl) | fail))) | fail)) ?_) | (refine Trip.seq ?_) | (refine Trip.ops ?_) | (refine Trip.ite (by (first | (simp only [ASt.ev, tmPut, ↓reduceIte, reduceIte, Nat.reduceEqDiff, plain1, *]; rfl) | fail)) (fun _ => ?_) (fun _ => ?_)) | (refine Trip.skip ?_; ((repeat (first | refine blockExit_eq ?_ | refine blockExit_ne (by decide) ?_ | refine blockExit_normal ?_ | refine blockExit_ret ?_ | refine blockExit_goto ?_)); first | (change Trip _ _ _ _ _) | dsimp only | skip)) | (refine OpsL.nil ?_; ((repeat (first | refine blockExit_eq ?_ | refine blockExit_ne (by decide) ?_ | refine blockExit_normal ?_ | refine blockExit_ret ?_ | refine blockExit_goto ?_)); first | (change Trip _ _ _ _ _) | dsimp only | skip)) | (refine OpsL.unguard (by exact rfl) (by (first | (simp only [ASt.ev, tmPut, ↓reduceIte, reduceIte, Nat.reduceEqDiff, decide_true, decide_false, not_true_eq_false, not_false_eq_true, Bool.not_true, Bool.not_false, *]; done) | fail)) ?_) | (refine OpsL.skipped (by exact rfl) (by (first | (simp only [ASt.ev, tmPut, ↓reduceIte, reduceIte, Nat.reduceEqDiff, decide_true, decide_false, not_true_eq_false, not_false_eq_true, Bool.not_true, Bool.not_false, *]; done) | fail)) (by subst_vars; decide) ?_) | (refine OpsL.guardF (by exact rfl) (by (first | (simp only [ASt.ev, tmPut, ↓reduceIte, reduceIte, Nat.reduceEqDiff, plain1, *]; rfl) | fail)) (by subst_vars; decide) (fun _ => ?_) (fun _ => ?_)) | fail)
  all_goals first | (exfalso; omega) | skip
  refine OpsL.p (by subst_vars; decide) (aop_loadAgg (by (first | (simp only [ASt.ev, tmPut, ↓reduceIte, reduceIte, Nat.reduceEqDiff, plain1, *]; rfl) | fail)) (by exact rfl) rfl (by exact rfl) (by rw [getc_put (by show la.block ≠ nx; omega)]; exact hg)) ?_
  refine OpsL.upd (aop_store (by (first | (simp only [ASt.ev, tmPut, ↓reduceIte, reduceIte, Nat.reduceEqDiff, plain1, *]; rfl) | fail)) (by (first | (simp only [ASt.ev, tmPut, ↓reduceIte, reduceIte, Nat.reduceEqDiff, plain1, *]; rfl) | fail)) (by exact rfl) rfl (by simp [setc, Heap.put_eq, Value.cells]; exact ⟨⟨rfl, rfl⟩, rfl⟩)) ?_
  repeat' (first | (refine Trip.ret ?_; ((repeat (first | refine blockExit_eq ?_ | refine blockExit_ne (by decide) ?_ | refine blockExit_normal ?_ | refine blockExit_ret ?_ | refine blockExit_goto ?_)); first | (change Trip _ _ _ _ _) | dsimp only | skip)) | (refine OpsL.nil ?_; ((repeat (first | refine blockExit_eq ?_ | refine blockExit_ne (by decide) ?_ | refine blockExit_normal ?_ | refine blockExit_ret ?_ | refine blockExit_goto ?_)); first | (change Trip _ _ _ _ _) | dsimp only | skip)) | fail)
  refine ⟨.inr rfl, _, res_cell (by (first | (simp only [ASt.ev, tmPut, ↓reduceIte, reduceIte, Nat.reduceEqDiff, plain1, *]; rfl) | fail)) (readAt_agg (k := 2) (by exact rfl) rfl (by exact rfl) (getc_own (by simp))), rfl, by simp, ?_⟩
  intro i hi
  rw [Heap.put_ne (by omega), Heap.put_ne (by omega)]

def deepStep (p : Int × Int) (k : Int) : Int × Int :=
  let n := if k = 1 then p.2 + 1 else if k = 2 then max (p.2 - 1) 0 else p.2
  (max p.1 n, n)

def kindsOf (ss : List (ByteArray × Int)) (xs : List Int) : List Int := xs.map fun x => ((ss[x.toNat]?).map (·.2)).getD 0
def deepF (l : List Int) : Int × Int := l.foldl deepStep (0, 0)
theorem deepF_bound (l : List Int) : 0 ≤ (deepF l).2 ∧ (deepF l).2 ≤ l.length ∧ 0 ≤ (deepF l).1 ∧ (deepF l).1 ≤ l.length ∧ (deepF l).2 ≤ (deepF l).1 := by
  have key : ∀ (l : List Int) (p : Int × Int) (k : Nat), 0 ≤ p.2 → p.2 ≤ k → 0 ≤ p.1 → p.1 ≤ k → p.2 ≤ p.1 → 0 ≤ (l.foldl deepStep p).2 ∧ (l.foldl deepStep p).2 ≤ (k + l.length : Nat) ∧ 0 ≤ (l.foldl deepStep p).1 ∧ (l.foldl deepStep p).1 ≤ (k + l.length : Nat) ∧ (l.foldl deepStep p).2 ≤ (l.foldl deepStep p).1 := by
    intro l
    induction l with
    | nil => intro p k a b c d e; exact ⟨a, by simpa using b, c, by simpa using d, e⟩
    | cons x l ih =>
      intro p k a b c d e
      rw [List.foldl_cons, List.length_cons, show k + (l.length + 1) = (k + 1) + l.length by omega]
      refine ih _ (k + 1) ?_ ?_ ?_ ?_ ?_ <;> (simp only [deepStep]; repeat' split) <;> omega
  simpa [deepF] using key l (0, 0) 0 (by simp) (by simp) (by simp) (by simp) (by simp)
theorem deepF_take {xs : List Int} {ss : List (ByteArray × Int)} {i : Nat} (h : i < xs.length) (h2 : xs[i].toNat < ss.length) : deepF (kindsOf ss (xs.take (i + 1))) = deepStep (deepF (kindsOf ss (xs.take i))) ss[xs[i].toNat].2 := by
  unfold deepF kindsOf
  rw [List.take_succ_eq_append_getElem h, List.map_append, List.foldl_append]
  simp [List.getElem?_eq_getElem h2]


theorem entersSymAt : Enters Try.prog 25 := ⟨Try.f25, Try.func25, by kernel_rfl, by kernel_rfl⟩

end Go.Proofs.Ytngekapiemkgnaa
/-
  Chapter 1: Match of package word, Match of the document said a second time, by one plain recursion.
-/
namespace Go.Proofs.Ytngekapiemkgnaa
set_option linter.unusedSimpArgs false
set_option linter.unusedVariables false
open Go.Am Go.RowKit
attribute [local irreducible] aop OpsL Trip blockExit OpsD

def matchStep (i : Nat) (k : Int) (p : List Int × List Int) : List Int × List Int :=
  if k = 1 then (p.1.set i (-1), p.2 ++ [(i : Int)])
  else if k = 2 then (match p.2.getLast? with
    | some j => (((p.1.set i (-1)).set i j).set j.toNat i, p.2.dropLast)
    | none => (p.1.set i (-1), p.2))
  else (p.1.set i (-1), p.2)

def matchS (ks : List Int) : Nat → List Int × List Int
  | 0 => (List.replicate ks.length 0, [])
  | i + 1 => matchStep i (ks.getD i 0) (matchS ks i)

def matchF (ks : List Int) : List Int := (matchS ks ks.length).1

/-- What holds ahead of place i. -/
structure MInv (n i : Nat) (p : List Int × List Int) : Prop where
  len : p.1.length = n
  op : ∀ x ∈ p.2, 0 ≤ x ∧ x < i
  num : p.2.length ≤ i
  low : ∀ x ∈ p.1, -1 ≤ x

theorem MInv.step {n i : Nat} {k : Int} {p : List Int × List Int} (h : MInv n i p) : MInv n (i + 1) (matchStep i k p) := by
  have hset : ∀ (l : List Int) (j : Nat) (v : Int), -1 ≤ v → (∀ x ∈ l, -1 ≤ x) → ∀ x ∈ l.set j v, -1 ≤ x := fun l j v hv hl x hx => by
    rcases List.mem_or_eq_of_mem_set hx with h | h
    · exact hl x h
    · omega
  have h1 := hset p.1 i (-1) (by omega) h.low
  unfold matchStep
  split
  · refine ⟨by simp [h.len], ?_, by simp; have := h.num; omega, h1⟩
    intro x hx
    rcases List.mem_append.1 hx with hx | hx
    · have := h.op x hx; omega
    · simp at hx; omega
  · split
    · split
      · rename_i j hj
        have hjm := List.mem_of_getLast? hj
        have := h.op j hjm
        refine ⟨by simp [h.len], fun x hx => by have := h.op x (List.dropLast_subset _ hx); omega, by simp; have := h.num; omega, ?_⟩
        exact hset _ _ _ (by omega) (hset _ _ _ (by omega) h1)
      · exact ⟨by simp [h.len], fun x hx => by have := h.op x hx; omega, by have := h.num; show p.2.length ≤ i + 1; omega, h1⟩
    · exact ⟨by simp [h.len], fun x hx => by have := h.op x hx; omega, by have := h.num; show p.2.length ≤ i + 1; omega, h1⟩

theorem matchS_inv (ks : List Int) : ∀ i, MInv ks.length i (matchS ks i) := by
  intro i
  induction i with
  | zero => exact ⟨by simp [matchS], by simp [matchS], by simp [matchS], by simp [matchS]⟩
  | succ i ih => exact ih.step

theorem kindsOf_getD {ss : List (ByteArray × Int)} {xs : List Int} {i : Nat} (h : i < xs.length) (h2 : xs[i].toNat < ss.length) : (kindsOf ss xs).getD i 0 = ss[xs[i].toNat].2 := by
  unfold kindsOf
  rw [List.getD_eq_getElem?_getD, List.getElem?_map, List.getElem?_eq_getElem h]
  simp [List.getElem?_eq_getElem h2]
theorem kindsOf_length {ss : List (ByteArray × Int)} {xs : List Int} : (kindsOf ss xs).length = xs.length := by simp [kindsOf]

theorem rep_zero (n : Nat) : rep n [Value.int .i64 0] = (List.replicate n (0 : Int)).map (.int .i64 ·) := by
  induction n with
  | zero => rfl
  | succ n ih => simp only [rep, List.replicate_succ, List.flatten_cons, List.map_cons] at *; rw [ih]; rfl

set_option maxRecDepth 20000 in
set_option maxHeartbeats 4000000 in
theorem wordMatchC (W0 : World) {nx : Nat} {H : Heap} {lv wv : Value} {ss : List (ByteArray × Int)} {xs : List Int} (hl : SymsAt H lv ss) (hw : IntsAt H wv xs) (hx : ∀ x ∈ xs, 0 ≤ x ∧ x < ss.length) (hn : xs.length < 1000000) :
    ACalls Try.prog W0 19 [lv, wv] nx H fun v nx' H' => v = .slice (some ⟨nx, 0, none⟩) xs.length xs.length ∧ H' nx = some (.cells ((matchF (kindsOf ss xs)).map (.int .i64 ·)) 1 none false (some 3)) ∧ Ext nx H nx' H' := by
  obtain ⟨la, lc, rfl, hl⟩ := hl
  obtain ⟨wa, wc, rfl⟩ := hw.slice
  refine ACalls.by_trip (fn := Try.f19) (c := _) Try.func19 rfl (fun tm n hn0 htm => ?_)
  have e0 : tm 0 = .slice (some la) ss.length lc := htm 0
  have e1 : tm 1 = .slice wa xs.length wc := htm 1
  clear htm
  replace hn0 : n = 59 := hn0
  refine Trip.ok fun hok => ?_
  replace hok : ∀ id o, H id = some o → id < nx := hok
  repeat (first | (refine OpsL.p (by subst_vars; decide) (by (first | (exact aop_move (by (first | (simp only [ASt.ev, tmPut, ↓reduceIte, reduceIte, Nat.reduceEqDiff, plain1, *]; rfl) | fail))) | (exact aop_assign (by (first | (simp only [ASt.ev, tmPut, ↓reduceIte, reduceIte, Nat.reduceEqDiff, plain1, *]; rfl) | fail))) | (exact aop_len (by (first | (simp only [ASt.ev, tmPut, ↓reduceIte, reduceIte, Nat.reduceEqDiff, plain1, *]; rfl) | fail)) (by exact rfl)) | fail)) ?_) | (refine Trip.seq ?_) | (refine Trip.ops ?_) | (refine OpsL.nil ?_; ((repeat (first | refine blockExit_eq ?_ | refine blockExit_ne (by decide) ?_ | refine blockExit_normal ?_ | refine blockExit_ret ?_ | refine blockExit_goto ?_)); first | (change Trip _ _ _ _ _) | dsimp only | skip)) | fail)
  refine OpsL.new (o := .cells (rep xs.length [.int .i64 0]) 1 none false (some 3)) (v := .slice (some ⟨nx, 0, none⟩) xs.length xs.length) (by subst_vars; decide) (aop_makeSlice (by (first | (simp only [ASt.ev, tmPut, ↓reduceIte, reduceIte, Nat.reduceEqDiff, plain1, *]; done) | fail)) (by (first | (simp only [ASt.ev, tmPut, ↓reduceIte, reduceIte, Nat.reduceEqDiff, plain1, *]; done) | fail)) (aMakeSlice_ints (el := 3) (by exact rfl) (by exact rfl) (by exact rfl) (by exact rfl) (by omega))) ?_
  repeat (first | (refine OpsL.p (by subst_vars; decide) (by (first | (exact aop_move (by (first | (simp only [ASt.ev, tmPut, ↓reduceIte, reduceIte, Nat.reduceEqDiff, plain1, *]; rfl) | fail))) | (exact aop_assign (by (first | (simp only [ASt.ev, tmPut, ↓reduceIte, reduceIte, Nat.reduceEqDiff, plain1, *]; rfl) | fail))) | (exact aop_len (by (first | (simp only [ASt.ev, tmPut, ↓reduceIte, reduceIte, Nat.reduceEqDiff, plain1, *]; rfl) | fail)) (by exact rfl)) | fail)) ?_) | (refine Trip.seq ?_) | (refine Trip.ops ?_) | (refine Trip.block ?_) | (refine OpsL.nil ?_; ((repeat (first | refine blockExit_eq ?_ | refine blockExit_ne (by decide) ?_ | refine blockExit_normal ?_ | refine blockExit_ret ?_ | refine blockExit_goto ?_)); first | (change Trip _ _ _ _ _) | dsimp only | skip)) | fail)
  generalize hks : kindsOf ss xs = ks at *
  have hkl : ks.length = xs.length := by rw [← hks]; exact kindsOf_length
  refine Trip.inv (fun (i : Nat) s => ∃ (tm : Nat → Value) (nx' : Nat) (H' : Heap) (ob : Option (Nat × Nat)) (v : Value), s = ⟨tm, n, H', nx'⟩ ∧ Ext nx H nx' H' ∧ nx + 1 ≤ nx' ∧ H' nx = some (.cells ((matchS ks i).1.map (.int .i64 ·)) 1 none false (some 3)) ∧
      OwnInts H' ob 3 v (matchS ks i).2 ∧ (∀ b t, ob = some (b, t) → nx + 1 ≤ b ∧ b < nx') ∧ tm 0 = .slice (some la) ss.length lc ∧ tm 5 = .slice (some ⟨nx, 0, none⟩) xs.length xs.length ∧ tm 6 = v ∧ tm 13 = .slice wa xs.length wc ∧ tm 14 = .int .i64 xs.length ∧
      tm 15 = .int .i64 i ∧ i ≤ xs.length) (fun i => xs.length - i) 0 ?_ ?_
  · refine ⟨_, _, _, none, _, rfl, ⟨by omega, fun k hk => by rw [Heap.put_ne (by omega)]⟩, by omega, ?_, ⟨rfl, rfl, rfl⟩, fun _ _ h => (by cases h), e0, rfl, rfl, rfl, rfl, rfl, by omega⟩
    rw [Heap.put_eq, rep_zero, ← hkl]; rfl
  · rintro i s ⟨tm, nx', H', ob, v, rfl, hext, hnx, hm, hown, hob, e0, e5, e6, e13, e14, e15, hi⟩
    have hinv := matchS_inv ks i
    have hstep : matchS ks (i + 1) = matchStep i (ks.getD i 0) (matchS ks i) := rfl
    generalize hp : matchS ks i = pr at *
    obtain ⟨ms, op⟩ := pr
    simp only at hm hown hinv
    have hlen : ms.length = xs.length := by rw [hinv.len, hkl]
    have hon : op.length ≤ i := hinv.num
    refine Trip.ok fun hok' => ?_
    replace hok' : ∀ id o, H' id = some o → id < nx' := hok'
    obtain ⟨oa, oc, rfl⟩ := hown.at.slice
    repeat (first | (refine OpsL.p (by subst_vars; decide) (by (first | (exact aop_move (by (first | (simp only [ASt.ev, tmPut, ↓reduceIte, reduceIte, Nat.reduceEqDiff, plain1, *]; rfl) | fail))) | (exact aop_lss (by (first | (simp only [ASt.ev, tmPut, ↓reduceIte, reduceIte, Nat.reduceEqDiff, plain1, *]; rfl) | fail)) (by (first | (simp only [ASt.ev, tmPut, ↓reduceIte, reduceIte, Nat.reduceEqDiff, plain1, *]; rfl) | fail))) | fail)) ?_) | (refine Trip.seq ?_) | (refine Trip.ops ?_) | (refine Trip.block ?_) | (refine Trip.ite (by (first | (simp only [ASt.ev, tmPut, ↓reduceIte, reduceIte, Nat.reduceEqDiff, plain1, *]; rfl) | fail)) (fun _ => ?_) (fun _ => ?_)) | (refine Trip.skip ?_; ((repeat (first | refine blockExit_eq ?_ | refine blockExit_ne (by decide) ?_ | refine blockExit_normal ?_ | refine blockExit_ret ?_ | refine blockExit_goto ?_)); first | (change Trip _ _ _ _ _) | dsimp only | skip)) | (refine OpsL.nil ?_; ((repeat (first | refine blockExit_eq ?_ | refine blockExit_ne (by decide) ?_ | refine blockExit_normal ?_ | refine blockExit_ret ?_ | refine blockExit_goto ?_)); first | (change Trip _ _ _ _ _) | dsimp only | skip)) | fail)
    · have hlt : i < xs.length := by omega
      obtain ⟨p, rfl, hc⟩ := hw.get hlt
      replace hc : cellAt H' ⟨p.block, p.off + (i : Int).toNat * 1, p.spot⟩ (.int .i64 xs[i]) := by
        have := getc_ext hext hok hc
        simpa [cellAt] using this
      obtain ⟨hx0, hx1⟩ := hx xs[i] (List.getElem_mem hlt)
      have hkd : ks.getD i 0 = ss[xs[i].toNat].2 := by rw [← hks]; exact kindsOf_getD hlt (by omega)
      repeat (first | (refine OpsL.p (by subst_vars; decide) (by (first | (exact aop_move (by (first | (simp only [ASt.ev, tmPut, ↓reduceIte, reduceIte, Nat.reduceEqDiff, plain1, *]; rfl) | fail))) | (exact aop_assign (by (first | (simp only [ASt.ev, tmPut, ↓reduceIte, reduceIte, Nat.reduceEqDiff, plain1, *]; rfl) | fail))) | (exact aop_indexAddr (by (first | (simp only [ASt.ev, tmPut, ↓reduceIte, reduceIte, Nat.reduceEqDiff, plain1, *]; rfl) | fail)) (by (first | (simp only [ASt.ev, tmPut, ↓reduceIte, reduceIte, Nat.reduceEqDiff, plain1, *]; rfl) | fail)) (by exact rfl) (by exact rfl) (by omega) (by omega)) | (exact aop_load (by (first | (simp only [ASt.ev, tmPut, ↓reduceIte, reduceIte, Nat.reduceEqDiff, plain1, *]; rfl) | fail)) (by exact rfl) rfl (by assumption)) | fail)) ?_) | (refine Trip.seq ?_) | (refine Trip.ops ?_) | (refine OpsL.nil ?_; ((repeat (first | refine blockExit_eq ?_ | refine blockExit_ne (by decide) ?_ | refine blockExit_normal ?_ | refine blockExit_ret ?_ | refine blockExit_goto ?_)); first | (change Trip _ _ _ _ _) | dsimp only | skip)) | fail)
      refine OpsL.storeAt i (by (first | (simp only [ASt.ev, tmPut, ↓reduceIte, reduceIte, Nat.reduceEqDiff, plain1, *]; rfl) | fail)) (by (first | (simp only [ASt.ev, tmPut, ↓reduceIte, reduceIte, Nat.reduceEqDiff, plain1, *]; rfl) | fail)) (by exact rfl) rfl rfl hm (by show 0 + _ * 1 = _; omega) (by simp; omega) (set_ints _ _ _) ?_
      have hl' : SymsAt (H'.put nx (.cells ((ms.set i (-1)).map (.int .i64 ·)) 1 none false (some 3))) (.slice (some la) ss.length lc) ss := ⟨la, lc, rfl, fun k hk => by
        rw [getc_put]
        · exact getc_ext hext hok (hl k hk)
        · obtain ⟨o, ho⟩ := getc_some (hl k hk)
          have := hok _ _ ho
          simp only at this ⊢
          omega⟩
      repeat (first | (refine OpsL.p (by subst_vars; decide) (by (first | (exact aop_move (by (first | (simp only [ASt.ev, tmPut, ↓reduceIte, reduceIte, Nat.reduceEqDiff, plain1, *]; rfl) | fail))) | fail)) ?_) | (refine Trip.seq ?_) | (refine Trip.ops ?_) | (refine OpsL.nil ?_; ((repeat (first | refine blockExit_eq ?_ | refine blockExit_ne (by decide) ?_ | refine blockExit_normal ?_ | refine blockExit_ret ?_ | refine blockExit_goto ?_)); first | (change Trip _ _ _ _ _) | dsimp only | skip)) | fail)
      refine OpsL.call2 (by subst_vars; decide) (by (first | (simp only [ASt.ev, tmPut, ↓reduceIte, reduceIte, Nat.reduceEqDiff, plain1, *]; done) | fail)) (by (first | (simp only [ASt.ev, tmPut, ↓reduceIte, reduceIte, Nat.reduceEqDiff, plain1, *]; done) | fail)) entersSymAt (symAtC W0 hl' hx0 hx1).ok ?_
      rintro v2 nx2 H2 ⟨⟨rfl, hx2⟩, hok2⟩
      have hm2 : H2 nx = some (.cells ((ms.set i (-1)).map (.int .i64 ·)) 1 none false (some 3)) := by rw [hx2.2 nx (by omega), Heap.put_eq]
      have hown2 : OwnInts H2 ob 3 (.slice oa op.length oc) op := (OwnRow.put_ne hown (fun b t hb => by have := hob b t hb; omega)).ext hx2 (fun b t hb => (hob b t hb).2)
      have hext2 : Ext nx H nx2 H2 := (hext.put (Nat.le_refl _)).trans hx2
      have hle2 : nx' ≤ nx2 := hx2.1
      repeat (first | (refine OpsL.p (by subst_vars; decide) (by (first | (exact aop_move (by (first | (simp only [ASt.ev, tmPut, ↓reduceIte, reduceIte, Nat.reduceEqDiff, plain1, *]; rfl) | fail))) | (exact aop_assign (by (first | (simp only [ASt.ev, tmPut, ↓reduceIte, reduceIte, Nat.reduceEqDiff, plain1, *]; rfl) | fail))) | (exact aop_eql (by (first | (simp only [ASt.ev, tmPut, ↓reduceIte, reduceIte, Nat.reduceEqDiff, plain1, *]; rfl) | fail)) (by (first | (simp only [ASt.ev, tmPut, ↓reduceIte, reduceIte, Nat.reduceEqDiff, plain1, *]; rfl) | fail))) | (exact aop_field (by (first | (simp only [ASt.ev, tmPut, ↓reduceIte, reduceIte, Nat.reduceEqDiff, plain1, *]; rfl) | fail)) (by exact rfl) (by exact rfl) (by exact rfl) rfl (by exact rfl)) | fail)) ?_) | (refine Trip.seq ?_) | (refine Trip.ops ?_) | (refine Trip.block ?_) | (refine Trip.ite (by (first | (simp only [ASt.ev, tmPut, ↓reduceIte, reduceIte, Nat.reduceEqDiff, plain1, *]; rfl) | fail)) (fun _ => ?_) (fun _ => ?_)) | (refine OpsL.nil ?_; ((repeat (first | refine blockExit_eq ?_ | refine blockExit_ne (by decide) ?_ | refine blockExit_normal ?_ | refine blockExit_ret ?_ | refine blockExit_goto ?_)); first | (change Trip _ _ _ _ _) | dsimp only | skip)) | fail)
      · rename_i hk1
        have hst : matchS ks (i + 1) = (ms.set i (-1), op ++ [(i : Int)]) := by rw [hstep]; unfold matchStep; rw [hkd, if_pos hk1]
        refine OpsL.appendI (by subst_vars; decide) (by subst_vars; decide) (by (first | (simp only [ASt.ev, tmPut, ↓reduceIte, reduceIte, Nat.reduceEqDiff, plain1, *]; rfl) | fail)) (by decide) (by (simp only [tmPut, ↓reduceIte, reduceIte, Option.some.injEq, Nat.reduceEqDiff, *])) hown2 (fun b t hb => by have := hob b t hb; omega) (by exact rfl) (by exact rfl) (by exact rfl) (by exact rfl) (by have := hinv.num; simp only at this; omega) ?_
        rintro v' ob' H3 hown' ⟨b, rfl, hb⟩ hsame
        have hbl : nx + 1 ≤ b ∧ b < nx2 + 1 + 1 := by
          rcases hb with rfl | ⟨t, hb⟩
          · omega
          · have := hob b t hb; omega
        repeat (first | (refine OpsL.p (by subst_vars; decide) (by (first | (exact aop_move (by (first | (simp only [ASt.ev, tmPut, ↓reduceIte, reduceIte, Nat.reduceEqDiff, plain1, *]; rfl) | fail))) | (exact aop_assign (by (first | (simp only [ASt.ev, tmPut, ↓reduceIte, reduceIte, Nat.reduceEqDiff, plain1, *]; rfl) | fail))) | (exact aop_add (by (first | (simp only [ASt.ev, tmPut, ↓reduceIte, reduceIte, Nat.reduceEqDiff, plain1, *]; rfl) | fail)) (by (first | (simp only [ASt.ev, tmPut, ↓reduceIte, reduceIte, Nat.reduceEqDiff, plain1, *]; rfl) | fail)) (by omega)) | fail)) ?_) | (refine Trip.ops ?_) | (refine OpsL.nil ?_; ((repeat (first | refine blockExit_eq ?_ | refine blockExit_ne (by decide) ?_ | refine blockExit_normal ?_ | refine blockExit_ret ?_ | refine blockExit_goto ?_)); first | (change Trip _ _ _ _ _) | dsimp only | skip)) | fail)
        refine ⟨i + 1, ⟨_, _, _, some (b, nx2 + 1), v', rfl, ⟨by omega, fun k hk => by rw [hsame k (by omega) (fun b t hb => by have := hob b t hb; omega), hext2.2 k hk]⟩, by omega, ?_, ?_, ?_, ?_, ?_, ?_, ?_, ?_, ?_, by omega⟩, by omega⟩
        · rw [hst, hsame nx (by omega) (fun b t hb => by have := hob b t hb; omega)]; exact hm2
        · rw [hst]; exact hown'
        · intro b' t' hb'; cases hb'; exact hbl
        all_goals simp [tmPut, *]
      · rename_i hk1
        repeat (first | (refine OpsL.p (by subst_vars; decide) (by (first | (exact aop_move (by (first | (simp only [ASt.ev, tmPut, ↓reduceIte, reduceIte, Nat.reduceEqDiff, plain1, *]; rfl) | fail))) | (exact aop_assign (by (first | (simp only [ASt.ev, tmPut, ↓reduceIte, reduceIte, Nat.reduceEqDiff, plain1, *]; rfl) | fail))) | (exact aop_geq (by (first | (simp only [ASt.ev, tmPut, ↓reduceIte, reduceIte, Nat.reduceEqDiff, plain1, *]; rfl) | fail)) (by (first | (simp only [ASt.ev, tmPut, ↓reduceIte, reduceIte, Nat.reduceEqDiff, plain1, *]; rfl) | fail))) | (exact aop_eql (by (first | (simp only [ASt.ev, tmPut, ↓reduceIte, reduceIte, Nat.reduceEqDiff, plain1, *]; rfl) | fail)) (by (first | (simp only [ASt.ev, tmPut, ↓reduceIte, reduceIte, Nat.reduceEqDiff, plain1, *]; rfl) | fail))) | (exact aop_sub (by (first | (simp only [ASt.ev, tmPut, ↓reduceIte, reduceIte, Nat.reduceEqDiff, plain1, *]; rfl) | fail)) (by (first | (simp only [ASt.ev, tmPut, ↓reduceIte, reduceIte, Nat.reduceEqDiff, plain1, *]; rfl) | fail)) (by omega)) | (exact aop_len (by (first | (simp only [ASt.ev, tmPut, ↓reduceIte, reduceIte, Nat.reduceEqDiff, plain1, *]; rfl) | fail)) (by exact rfl)) | fail)) ?_) | (refine Trip.seq ?_) | (refine Trip.ops ?_) | (refine Trip.ite (by (first | (simp only [ASt.ev, tmPut, ↓reduceIte, reduceIte, Nat.reduceEqDiff, plain1, *]; rfl) | fail)) (fun _ => ?_) (fun _ => ?_)) | (refine OpsL.nil ?_; ((repeat (first | refine blockExit_eq ?_ | refine blockExit_ne (by decide) ?_ | refine blockExit_normal ?_ | refine blockExit_ret ?_ | refine blockExit_goto ?_)); first | (change Trip _ _ _ _ _) | dsimp only | skip)) | fail)
        · rename_i hk2 hlast
          have hop0 : op.length - 1 < op.length := by omega
          obtain ⟨q, rfl, hcq⟩ := hown2.at.get hop0
          have hjm : op[op.length - 1] ∈ op := List.getElem_mem hop0
          have hjr := hinv.op _ hjm
          have hgl : op.getLast? = some op[op.length - 1] := by rw [List.getLast?_eq_getElem?, List.getElem?_eq_getElem hop0]
          generalize hj : op[op.length - 1] = j at *
          have hst : matchS ks (i + 1) = (((ms.set i (-1)).set i j).set j.toNat i, op.dropLast) := by rw [hstep]; unfold matchStep; rw [hkd, if_neg hk1, if_pos hk2]; simp only [hgl]
          replace hcq : cellAt H2 ⟨q.block, q.off + ((op.length : Int) - 1).toNat * 1, q.spot⟩ (.int .i64 j) := by
            have : ((op.length : Int) - 1).toNat * 1 = op.length - 1 := by omega
            rw [this]; exact hcq
          refine OpsL.drawn fit.mixed (by kernel_rfl) (by kernel_rfl) ?_
          repeat (first | (refine OpsL.p (by subst_vars; decide) (by (first | (exact aop_move (by (first | (simp only [ASt.ev, tmPut, ↓reduceIte, reduceIte, Nat.reduceEqDiff, plain1, *]; rfl) | fail))) | (exact aop_indexAddr (by (first | (simp only [ASt.ev, tmPut, ↓reduceIte, reduceIte, Nat.reduceEqDiff, plain1, *]; rfl) | fail)) (by (first | (simp only [ASt.ev, tmPut, ↓reduceIte, reduceIte, Nat.reduceEqDiff, plain1, *]; rfl) | fail)) (by exact rfl) (by exact rfl) (by omega) (by omega)) | (exact aop_load (by (first | (simp only [ASt.ev, tmPut, ↓reduceIte, reduceIte, Nat.reduceEqDiff, plain1, *]; rfl) | fail)) (by exact rfl) rfl (by assumption)) | fail)) ?_) | fail)
          refine OpsL.storeAt i (by (first | (simp only [ASt.ev, tmPut, ↓reduceIte, reduceIte, Nat.reduceEqDiff, plain1, *]; rfl) | fail)) (by (first | (simp only [ASt.ev, tmPut, ↓reduceIte, reduceIte, Nat.reduceEqDiff, plain1, *]; rfl) | fail)) (by exact rfl) rfl rfl hm2 (by show 0 + _ * 1 = _; omega) (by simp; omega) (set_ints _ _ _) ?_
          repeat (first | (refine OpsL.p (by subst_vars; decide) (by (first | (exact aop_indexAddr (by (first | (simp only [ASt.ev, tmPut, ↓reduceIte, reduceIte, Nat.reduceEqDiff, plain1, *]; rfl) | fail)) (by (first | (simp only [ASt.ev, tmPut, ↓reduceIte, reduceIte, Nat.reduceEqDiff, plain1, *]; rfl) | fail)) (by exact rfl) (by exact rfl) (by omega) (by omega)) | fail)) ?_) | fail)
          refine OpsL.storeAt (a := ⟨nx, 0 + j.toNat * 1, none⟩) j.toNat (by (first | (simp only [ASt.ev, tmPut, ↓reduceIte, reduceIte, Nat.reduceEqDiff, plain1, *]; rfl) | fail)) (by (first | (simp only [ASt.ev, tmPut, ↓reduceIte, reduceIte, Nat.reduceEqDiff, plain1, *]; rfl) | fail)) (by exact rfl) rfl rfl Heap.put_eq (by show 0 + _ * 1 = _; omega) (by simp; omega) (set_ints _ _ _) ?_
          have hown3 : OwnInts ((H2.put nx (.cells (((ms.set i (-1)).set i j).map (.int .i64 ·)) 1 none false (some 3))).put nx (.cells ((((ms.set i (-1)).set i j).set j.toNat i).map (.int .i64 ·)) 1 none false (some 3))) ob 3 (.slice (some q) op.length oc) op :=
            OwnRow.put_ne (OwnRow.put_ne hown2 (fun b t hb => by have := hob b t hb; omega)) (fun b t hb => by have := hob b t hb; omega)
          obtain ⟨r, hr, hwr⟩ := hown3.take (P := Try.prog) (t := 22) (k := op.length - 1) (lo := none) (hi := some (.int .i64 ((op.length : Int) - 1))) (by exact rfl) (by exact rfl) (by omega) (.inl ⟨rfl, rfl⟩) (.inr ⟨.i64, by congr 2; omega⟩)
          repeat (first | (refine OpsL.p (by subst_vars; decide) (by (first | (exact aop_move (by (first | (simp only [ASt.ev, tmPut, ↓reduceIte, reduceIte, Nat.reduceEqDiff, plain1, *]; rfl) | fail))) | fail)) ?_) | (refine Trip.ops ?_) | (refine OpsL.nil ?_; ((repeat (first | refine blockExit_eq ?_ | refine blockExit_ne (by decide) ?_ | refine blockExit_normal ?_ | refine blockExit_ret ?_ | refine blockExit_goto ?_)); first | (change Trip _ _ _ _ _) | dsimp only | skip)) | fail)
          refine OpsL.p (by subst_vars; decide) (aop_slice (a := none) (b := some (.int .i64 ((op.length : Int) - 1))) (c := none) (by (first | (simp only [ASt.ev, tmPut, ↓reduceIte, reduceIte, Nat.reduceEqDiff, plain1, *]; done) | fail)) rfl (by simp only [evOpt, ASt.ev, tmPut, ↓reduceIte, reduceIte, Option.some.injEq, Nat.reduceEqDiff, Option.map_some, *]) rfl hr) ?_
          repeat (first | (refine OpsL.p (by subst_vars; decide) (by (first | (exact aop_move (by (first | (simp only [ASt.ev, tmPut, ↓reduceIte, reduceIte, Nat.reduceEqDiff, plain1, *]; rfl) | fail))) | (exact aop_assign (by (first | (simp only [ASt.ev, tmPut, ↓reduceIte, reduceIte, Nat.reduceEqDiff, plain1, *]; rfl) | fail))) | (exact aop_add (by (first | (simp only [ASt.ev, tmPut, ↓reduceIte, reduceIte, Nat.reduceEqDiff, plain1, *]; rfl) | fail)) (by (first | (simp only [ASt.ev, tmPut, ↓reduceIte, reduceIte, Nat.reduceEqDiff, plain1, *]; rfl) | fail)) (by omega)) | fail)) ?_) | (refine Trip.ops ?_) | (refine OpsL.nil ?_; ((repeat (first | refine blockExit_eq ?_ | refine blockExit_ne (by decide) ?_ | refine blockExit_normal ?_ | refine blockExit_ret ?_ | refine blockExit_goto ?_)); first | (change Trip _ _ _ _ _) | dsimp only | skip)) | fail)
          refine ⟨i + 1, ⟨_, _, _, ob, r, rfl, ((hext2.put (Nat.le_refl _)).put (Nat.le_refl _)), by omega, ?_, ?_, fun b t hb => by have := hob b t hb; omega, ?_, ?_, ?_, ?_, ?_, ?_, by omega⟩, by omega⟩
          · rw [hst]; exact Heap.put_eq
          · rw [hst, List.dropLast_eq_take]; exact hwr
          all_goals simp [tmPut, *]
        · rename_i hk2 hlast
          have hop0 : op = [] := by rw [← List.length_eq_zero_iff]; omega
          subst hop0
          have hst : matchS ks (i + 1) = (ms.set i (-1), []) := by rw [hstep]; unfold matchStep; rw [hkd, if_neg hk1, if_pos hk2]; rfl
          repeat (first | (refine OpsL.p (by subst_vars; decide) (by (first | (exact aop_move (by (first | (simp only [ASt.ev, tmPut, ↓reduceIte, reduceIte, Nat.reduceEqDiff, plain1, *]; rfl) | fail))) | (exact aop_add (by (first | (simp only [ASt.ev, tmPut, ↓reduceIte, reduceIte, Nat.reduceEqDiff, plain1, *]; rfl) | fail)) (by (first | (simp only [ASt.ev, tmPut, ↓reduceIte, reduceIte, Nat.reduceEqDiff, plain1, *]; rfl) | fail)) (by omega)) | fail)) ?_) | (refine Trip.ops ?_) | (refine Trip.skip ?_; ((repeat (first | refine blockExit_eq ?_ | refine blockExit_ne (by decide) ?_ | refine blockExit_normal ?_ | refine blockExit_ret ?_ | refine blockExit_goto ?_)); first | (change Trip _ _ _ _ _) | dsimp only | skip)) | (refine OpsL.nil ?_; ((repeat (first | refine blockExit_eq ?_ | refine blockExit_ne (by decide) ?_ | refine blockExit_normal ?_ | refine blockExit_ret ?_ | refine blockExit_goto ?_)); first | (change Trip _ _ _ _ _) | dsimp only | skip)) | fail)
          refine ⟨i + 1, ⟨_, _, _, ob, _, rfl, hext2, by omega, ?_, ?_, fun b t hb => by have := hob b t hb; omega, ?_, ?_, rfl, ?_, ?_, ?_, by omega⟩, by omega⟩
          · rw [hst]; exact hm2
          · rw [hst]; simpa [tmPut, e6] using hown2
          all_goals simp [tmPut, *]
        · rename_i hk2
          have hst : matchS ks (i + 1) = (ms.set i (-1), op) := by rw [hstep]; unfold matchStep; rw [hkd, if_neg hk1, if_neg hk2]
          repeat (first | (refine OpsL.p (by subst_vars; decide) (by (first | (exact aop_move (by (first | (simp only [ASt.ev, tmPut, ↓reduceIte, reduceIte, Nat.reduceEqDiff, plain1, *]; rfl) | fail))) | (exact aop_add (by (first | (simp only [ASt.ev, tmPut, ↓reduceIte, reduceIte, Nat.reduceEqDiff, plain1, *]; rfl) | fail)) (by (first | (simp only [ASt.ev, tmPut, ↓reduceIte, reduceIte, Nat.reduceEqDiff, plain1, *]; rfl) | fail)) (by omega)) | fail)) ?_) | (refine Trip.ops ?_) | (refine Trip.skip ?_; ((repeat (first | refine blockExit_eq ?_ | refine blockExit_ne (by decide) ?_ | refine blockExit_normal ?_ | refine blockExit_ret ?_ | refine blockExit_goto ?_)); first | (change Trip _ _ _ _ _) | dsimp only | skip)) | (refine OpsL.nil ?_; ((repeat (first | refine blockExit_eq ?_ | refine blockExit_ne (by decide) ?_ | refine blockExit_normal ?_ | refine blockExit_ret ?_ | refine blockExit_goto ?_)); first | (change Trip _ _ _ _ _) | dsimp only | skip)) | fail)
          refine ⟨i + 1, ⟨_, _, _, ob, _, rfl, hext2, by omega, ?_, ?_, fun b t hb => by have := hob b t hb; omega, ?_, ?_, rfl, ?_, ?_, ?_, by omega⟩, by omega⟩
          · rw [hst]; exact hm2
          · rw [hst]; simpa [tmPut, e6] using hown2
          all_goals simp [tmPut, *]
    · repeat (first | (refine OpsL.p (by subst_vars; decide) (by (first | (exact aop_move (by (first | (simp only [ASt.ev, tmPut, ↓reduceIte, reduceIte, Nat.reduceEqDiff, plain1, *]; rfl) | fail))) | (exact aop_assign (by (first | (simp only [ASt.ev, tmPut, ↓reduceIte, reduceIte, Nat.reduceEqDiff, plain1, *]; rfl) | fail))) | fail)) ?_) | (refine Trip.seq ?_) | (refine Trip.ops ?_) | (refine Trip.exit ?_; ((repeat (first | refine blockExit_eq ?_ | refine blockExit_ne (by decide) ?_ | refine blockExit_normal ?_ | refine blockExit_ret ?_ | refine blockExit_goto ?_)); first | (change Trip _ _ _ _ _) | dsimp only | skip)) | (refine Trip.ret ?_; ((repeat (first | refine blockExit_eq ?_ | refine blockExit_ne (by decide) ?_ | refine blockExit_normal ?_ | refine blockExit_ret ?_ | refine blockExit_goto ?_)); first | (change Trip _ _ _ _ _) | dsimp only | skip)) | (refine OpsL.nil ?_; ((repeat (first | refine blockExit_eq ?_ | refine blockExit_ne (by decide) ?_ | refine blockExit_normal ?_ | refine blockExit_ret ?_ | refine blockExit_goto ?_)); first | (change Trip _ _ _ _ _) | dsimp only | skip)) | fail)
      have hi2 : i = xs.length := by omega
      subst hi2
      refine ⟨.inr rfl, _, res_tmp, by simp [tmPut, *], ?_, hext⟩
      rw [← hkl] at hp
      rw [matchF, hp]
      exact hm

set_option maxRecDepth 20000 in
set_option maxHeartbeats 4000000 in
theorem refMatchC (W0 : World) {nx : Nat} {H : Heap} {lv wv : Value} {ss : List (ByteArray × Int)} {xs : List Int} (hl : SymsAt H lv ss) (hw : IntsAt H wv xs) (hx : ∀ x ∈ xs, 0 ≤ x ∧ x < ss.length) (hn : xs.length < 1000000) :
    ACalls Try.prog W0 20 [lv, wv] nx H fun v nx' H' => v = .slice (some ⟨nx, 0, none⟩) xs.length xs.length ∧ H' nx = some (.cells ((matchF (kindsOf ss xs)).map (.int .i64 ·)) 1 none false (some 3)) ∧ Ext nx H nx' H' := by
  obtain ⟨la, lc, rfl, hl⟩ := hl
  obtain ⟨wa, wc, rfl⟩ := hw.slice
  refine ACalls.by_trip (fn := Try.f20) (c := _) Try.func20 rfl (fun tm n hn0 htm => ?_)
  have e0 : tm 0 = .slice (some la) ss.length lc := htm 0
  have e1 : tm 1 = .slice wa xs.length wc := htm 1
  clear htm
  replace hn0 : n = 60 := hn0
  refine Trip.ok fun hok => ?_
  replace hok : ∀ id o, H id = some o → id < nx := hok
  repeat (first | (refine OpsL.p (by subst_vars; decide) (by (first | (exact aop_move (by (first | (simp only [ASt.ev, tmPut, ↓reduceIte, reduceIte, Nat.reduceEqDiff, plain1, *]; rfl) | fail))) | (exact aop_assign (by (first | (simp only [ASt.ev, tmPut, ↓reduceIte, reduceIte, Nat.reduceEqDiff, plain1, *]; rfl) | fail))) | (exact aop_len (by (first | (simp only [ASt.ev, tmPut, ↓reduceIte, reduceIte, Nat.reduceEqDiff, plain1, *]; rfl) | fail)) (by exact rfl)) | fail)) ?_) | (refine Trip.seq ?_) | (refine Trip.ops ?_) | (refine OpsL.nil ?_; ((repeat (first | refine blockExit_eq ?_ | refine blockExit_ne (by decide) ?_ | refine blockExit_normal ?_ | refine blockExit_ret ?_ | refine blockExit_goto ?_)); first | (change Trip _ _ _ _ _) | dsimp only | skip)) | fail)
  refine OpsL.new (o := .cells (rep xs.length [.int .i64 0]) 1 none false (some 3)) (v := .slice (some ⟨nx, 0, none⟩) xs.length xs.length) (by subst_vars; decide) (aop_makeSlice (by (first | (simp only [ASt.ev, tmPut, ↓reduceIte, reduceIte, Nat.reduceEqDiff, plain1, *]; done) | fail)) (by (first | (simp only [ASt.ev, tmPut, ↓reduceIte, reduceIte, Nat.reduceEqDiff, plain1, *]; done) | fail)) (aMakeSlice_ints (el := 3) (by exact rfl) (by exact rfl) (by exact rfl) (by exact rfl) (by omega))) ?_
  repeat (first | (refine OpsL.p (by subst_vars; decide) (by (first | (exact aop_assign (by (first | (simp only [ASt.ev, tmPut, ↓reduceIte, reduceIte, Nat.reduceEqDiff, plain1, *]; rfl) | fail))) | fail)) ?_) | (refine Trip.seq ?_) | (refine Trip.ops ?_) | (refine Trip.block ?_) | (refine OpsL.nil ?_; ((repeat (first | refine blockExit_eq ?_ | refine blockExit_ne (by decide) ?_ | refine blockExit_normal ?_ | refine blockExit_ret ?_ | refine blockExit_goto ?_)); first | (change Trip _ _ _ _ _) | dsimp only | skip)) | fail)
  generalize hks : kindsOf ss xs = ks at *
  have hkl : ks.length = xs.length := by rw [← hks]; exact kindsOf_length
  refine Trip.inv (fun (i : Nat) s => ∃ (tm : Nat → Value) (nx' : Nat) (H' : Heap) (ob : Option (Nat × Nat)) (v : Value), s = ⟨tm, n, H', nx'⟩ ∧ Ext nx H nx' H' ∧ nx + 1 ≤ nx' ∧ H' nx = some (.cells ((matchS ks i).1.map (.int .i64 ·)) 1 none false (some 3)) ∧
      OwnInts H' ob 3 v (matchS ks i).2 ∧ (∀ b t, ob = some (b, t) → nx + 1 ≤ b ∧ b < nx') ∧ tm 0 = .slice (some la) ss.length lc ∧ tm 1 = .slice wa xs.length wc ∧ tm 5 = .slice (some ⟨nx, 0, none⟩) xs.length xs.length ∧ tm 6 = v ∧
      tm 7 = .int .i64 i ∧ i ≤ xs.length) (fun i => xs.length - i) 0 ?_ ?_
  · refine ⟨_, _, _, none, _, rfl, ⟨by omega, fun k hk => by rw [Heap.put_ne (by omega)]⟩, by omega, ?_, ⟨rfl, rfl, rfl⟩, fun _ _ h => (by cases h), e0, e1, rfl, rfl, rfl, by omega⟩
    rw [Heap.put_eq, rep_zero, ← hkl]; rfl
  · rintro i s ⟨tm, nx', H', ob, v, rfl, hext, hnx, hm, hown, hob, e0, e1, e5, e6, e7, hi⟩
    have hinv := matchS_inv ks i
    have hstep : matchS ks (i + 1) = matchStep i (ks.getD i 0) (matchS ks i) := rfl
    generalize hp : matchS ks i = pr at *
    obtain ⟨ms, op⟩ := pr
    simp only at hm hown hinv
    have hlen : ms.length = xs.length := by rw [hinv.len, hkl]
    have hon : op.length ≤ i := hinv.num
    refine Trip.ok fun hok' => ?_
    replace hok' : ∀ id o, H' id = some o → id < nx' := hok'
    obtain ⟨oa, oc, rfl⟩ := hown.at.slice
    repeat (first | (refine OpsL.p (by subst_vars; decide) (by (first | (exact aop_move (by (first | (simp only [ASt.ev, tmPut, ↓reduceIte, reduceIte, Nat.reduceEqDiff, plain1, *]; rfl) | fail))) | (exact aop_lss (by (first | (simp only [ASt.ev, tmPut, ↓reduceIte, reduceIte, Nat.reduceEqDiff, plain1, *]; rfl) | fail)) (by (first | (simp only [ASt.ev, tmPut, ↓reduceIte, reduceIte, Nat.reduceEqDiff, plain1, *]; rfl) | fail))) | (exact aop_len (by (first | (simp only [ASt.ev, tmPut, ↓reduceIte, reduceIte, Nat.reduceEqDiff, plain1, *]; rfl) | fail)) (by exact rfl)) | (exact aop_indexAddr (by (first | (simp only [ASt.ev, tmPut, ↓reduceIte, reduceIte, Nat.reduceEqDiff, plain1, *]; rfl) | fail)) (by (first | (simp only [ASt.ev, tmPut, ↓reduceIte, reduceIte, Nat.reduceEqDiff, plain1, *]; rfl) | fail)) (by exact rfl) (by exact rfl) (by omega) (by omega)) | fail)) ?_) | (refine Trip.seq ?_) | (refine Trip.ops ?_) | (refine Trip.block ?_) | (refine Trip.ite (by (first | (simp only [ASt.ev, tmPut, ↓reduceIte, reduceIte, Nat.reduceEqDiff, plain1, *]; rfl) | fail)) (fun _ => ?_) (fun _ => ?_)) | (refine Trip.skip ?_; ((repeat (first | refine blockExit_eq ?_ | refine blockExit_ne (by decide) ?_ | refine blockExit_normal ?_ | refine blockExit_ret ?_ | refine blockExit_goto ?_)); first | (change Trip _ _ _ _ _) | dsimp only | skip)) | (refine OpsL.nil ?_; ((repeat (first | refine blockExit_eq ?_ | refine blockExit_ne (by decide) ?_ | refine blockExit_normal ?_ | refine blockExit_ret ?_ | refine blockExit_goto ?_)); first | (change Trip _ _ _ _ _) | dsimp only | skip)) | fail)
    · have hlt : i < xs.length := by omega
      obtain ⟨p, rfl, hc⟩ := hw.get hlt
      have hpn : p.block ≠ nx := by
        obtain ⟨o, ho⟩ := getc_some hc
        have := hok _ _ ho
        simp only at this
        omega
      replace hc : cellAt H' ⟨p.block, p.off + (i : Int).toNat * 1, p.spot⟩ (.int .i64 xs[i]) := by
        have := getc_ext hext hok hc
        simpa [cellAt] using this
      obtain ⟨hx0, hx1⟩ := hx xs[i] (List.getElem_mem hlt)
      have hkd : ks.getD i 0 = ss[xs[i].toNat].2 := by rw [← hks]; exact kindsOf_getD hlt (by omega)
      repeat fail
      refine OpsL.storeAt i (by (first | (simp only [ASt.ev, tmPut, ↓reduceIte, reduceIte, Nat.reduceEqDiff, plain1, *]; rfl) | fail)) (by (first | (simp only [ASt.ev, tmPut, ↓reduceIte, reduceIte, Nat.reduceEqDiff, plain1, *]; rfl) | fail)) (by exact rfl) rfl rfl hm (by show 0 + _ * 1 = _; omega) (by simp; omega) (set_ints _ _ _) ?_
      have hx2 : cellAt (H'.put nx (.cells ((ms.set i (-1)).map (.int .i64 ·)) 1 none false (some 3))) ⟨la.block, la.off + xs[i].toNat * 2 + 1, la.spot⟩ (.int .i64 ss[xs[i].toNat].2) := by
        have h0 := cellAt_of_getc (hl xs[i].toNat (by omega))
        obtain ⟨o, ho⟩ := getc_some h0
        have := hok _ _ ho
        simp only at this
        unfold cellAt
        rw [getc_put (by simp only; omega)]
        exact getc_ext hext hok h0
      replace hc : cellAt (H'.put nx (.cells ((ms.set i (-1)).map (.int .i64 ·)) 1 none false (some 3))) ⟨p.block, p.off + (i : Int).toNat * 1, p.spot⟩ (.int .i64 xs[i]) := by
        unfold cellAt
        rw [getc_put (by simp only; exact hpn)]
        exact hc
      generalize hH2 : H'.put nx (.cells ((ms.set i (-1)).map (.int .i64 ·)) 1 none false (some 3)) = H2 at *
      have hm2 : H2 nx = some (.cells ((ms.set i (-1)).map (.int .i64 ·)) 1 none false (some 3)) := by rw [← hH2, Heap.put_eq]
      have hown2 : OwnInts H2 ob 3 (.slice oa op.length oc) op := by rw [← hH2]; exact OwnRow.put_ne hown (fun b t hb => by have := hob b t hb; omega)
      have hext2 : Ext nx H nx' H2 := by rw [← hH2]; exact hext.put (Nat.le_refl _)
      repeat (first | (refine OpsL.p (by subst_vars; decide) (by (first | (exact aop_move (by (first | (simp only [ASt.ev, tmPut, ↓reduceIte, reduceIte, Nat.reduceEqDiff, plain1, *]; rfl) | fail))) | (exact aop_assign (by (first | (simp only [ASt.ev, tmPut, ↓reduceIte, reduceIte, Nat.reduceEqDiff, plain1, *]; rfl) | fail))) | (exact aop_eql (by (first | (simp only [ASt.ev, tmPut, ↓reduceIte, reduceIte, Nat.reduceEqDiff, plain1, *]; rfl) | fail)) (by (first | (simp only [ASt.ev, tmPut, ↓reduceIte, reduceIte, Nat.reduceEqDiff, plain1, *]; rfl) | fail))) | (exact aop_indexAddr (by (first | (simp only [ASt.ev, tmPut, ↓reduceIte, reduceIte, Nat.reduceEqDiff, plain1, *]; rfl) | fail)) (by (first | (simp only [ASt.ev, tmPut, ↓reduceIte, reduceIte, Nat.reduceEqDiff, plain1, *]; rfl) | fail)) (by exact rfl) (by exact rfl) (by omega) (by omega)) | (exact aop_fieldAddr (by (first | (simp only [ASt.ev, tmPut, ↓reduceIte, reduceIte, Nat.reduceEqDiff, plain1, *]; rfl) | fail)) (by exact rfl)) | (exact aop_load (by (first | (simp only [ASt.ev, tmPut, ↓reduceIte, reduceIte, Nat.reduceEqDiff, plain1, *]; rfl) | fail)) (by exact rfl) rfl (by assumption)) | fail)) ?_) | (refine Trip.seq ?_) | (refine Trip.ops ?_) | (refine Trip.block ?_) | (refine Trip.ite (by (first | (simp only [ASt.ev, tmPut, ↓reduceIte, reduceIte, Nat.reduceEqDiff, plain1, *]; rfl) | fail)) (fun _ => ?_) (fun _ => ?_)) | (refine OpsL.nil ?_; ((repeat (first | refine blockExit_eq ?_ | refine blockExit_ne (by decide) ?_ | refine blockExit_normal ?_ | refine blockExit_ret ?_ | refine blockExit_goto ?_)); first | (change Trip _ _ _ _ _) | dsimp only | skip)) | fail)
      · rename_i hk1
        have hst : matchS ks (i + 1) = (ms.set i (-1), op ++ [(i : Int)]) := by rw [hstep]; unfold matchStep; rw [hkd, if_pos hk1]
        refine OpsL.appendI (by subst_vars; decide) (by subst_vars; decide) (by (first | (simp only [ASt.ev, tmPut, ↓reduceIte, reduceIte, Nat.reduceEqDiff, plain1, *]; rfl) | fail)) (by decide) (by (simp only [tmPut, ↓reduceIte, reduceIte, Option.some.injEq, Nat.reduceEqDiff, *])) hown2 (fun b t hb => by have := hob b t hb; omega) (by exact rfl) (by exact rfl) (by exact rfl) (by exact rfl) (by have := hinv.num; simp only at this; omega) ?_
        rintro v' ob' H3 hown' ⟨b, rfl, hb⟩ hsame
        have hbl : nx + 1 ≤ b ∧ b < nx' + 1 + 1 := by
          rcases hb with rfl | ⟨t, hb⟩
          · omega
          · have := hob b t hb; omega
        repeat (first | (refine OpsL.p (by subst_vars; decide) (by (first | (exact aop_move (by (first | (simp only [ASt.ev, tmPut, ↓reduceIte, reduceIte, Nat.reduceEqDiff, plain1, *]; rfl) | fail))) | (exact aop_assign (by (first | (simp only [ASt.ev, tmPut, ↓reduceIte, reduceIte, Nat.reduceEqDiff, plain1, *]; rfl) | fail))) | (exact aop_add (by (first | (simp only [ASt.ev, tmPut, ↓reduceIte, reduceIte, Nat.reduceEqDiff, plain1, *]; rfl) | fail)) (by (first | (simp only [ASt.ev, tmPut, ↓reduceIte, reduceIte, Nat.reduceEqDiff, plain1, *]; rfl) | fail)) (by omega)) | fail)) ?_) | (refine Trip.ops ?_) | (refine OpsL.nil ?_; ((repeat (first | refine blockExit_eq ?_ | refine blockExit_ne (by decide) ?_ | refine blockExit_normal ?_ | refine blockExit_ret ?_ | refine blockExit_goto ?_)); first | (change Trip _ _ _ _ _) | dsimp only | skip)) | fail)
        refine ⟨i + 1, ⟨_, _, _, some (b, nx' + 1), v', rfl, ⟨by omega, fun k hk => by rw [hsame k (by omega) (fun b t hb => by have := hob b t hb; omega), hext2.2 k hk]⟩, by omega, ?_, ?_, ?_, ?_, ?_, ?_, ?_, ?_, by omega⟩, by omega⟩
        · rw [hst, hsame nx (by omega) (fun b t hb => by have := hob b t hb; omega)]; exact hm2
        · rw [hst]; exact hown'
        · intro b' t' hb'; cases hb'; exact hbl
        all_goals simp [tmPut, *]
      · rename_i hk1
        repeat (first | (refine OpsL.p (by subst_vars; decide) (by (first | (exact aop_move (by (first | (simp only [ASt.ev, tmPut, ↓reduceIte, reduceIte, Nat.reduceEqDiff, plain1, *]; rfl) | fail))) | (exact aop_assign (by (first | (simp only [ASt.ev, tmPut, ↓reduceIte, reduceIte, Nat.reduceEqDiff, plain1, *]; rfl) | fail))) | (exact aop_gtr (by (first | (simp only [ASt.ev, tmPut, ↓reduceIte, reduceIte, Nat.reduceEqDiff, plain1, *]; rfl) | fail)) (by (first | (simp only [ASt.ev, tmPut, ↓reduceIte, reduceIte, Nat.reduceEqDiff, plain1, *]; rfl) | fail))) | (exact aop_eql (by (first | (simp only [ASt.ev, tmPut, ↓reduceIte, reduceIte, Nat.reduceEqDiff, plain1, *]; rfl) | fail)) (by (first | (simp only [ASt.ev, tmPut, ↓reduceIte, reduceIte, Nat.reduceEqDiff, plain1, *]; rfl) | fail))) | (exact aop_sub (by (first | (simp only [ASt.ev, tmPut, ↓reduceIte, reduceIte, Nat.reduceEqDiff, plain1, *]; rfl) | fail)) (by (first | (simp only [ASt.ev, tmPut, ↓reduceIte, reduceIte, Nat.reduceEqDiff, plain1, *]; rfl) | fail)) (by omega)) | (exact aop_len (by (first | (simp only [ASt.ev, tmPut, ↓reduceIte, reduceIte, Nat.reduceEqDiff, plain1, *]; rfl) | fail)) (by exact rfl)) | fail)) ?_) | (refine Trip.seq ?_) | (refine Trip.ops ?_) | (refine Trip.ite (by (first | (simp only [ASt.ev, tmPut, ↓reduceIte, reduceIte, Nat.reduceEqDiff, plain1, *]; rfl) | fail)) (fun _ => ?_) (fun _ => ?_)) | (refine OpsL.nil ?_; ((repeat (first | refine blockExit_eq ?_ | refine blockExit_ne (by decide) ?_ | refine blockExit_normal ?_ | refine blockExit_ret ?_ | refine blockExit_goto ?_)); first | (change Trip _ _ _ _ _) | dsimp only | skip)) | fail)
        · rename_i hk2 hlast
          have hop0 : op.length - 1 < op.length := by omega
          obtain ⟨q, rfl, hcq⟩ := hown2.at.get hop0
          have hjm : op[op.length - 1] ∈ op := List.getElem_mem hop0
          have hjr := hinv.op _ hjm
          have hgl : op.getLast? = some op[op.length - 1] := by rw [List.getLast?_eq_getElem?, List.getElem?_eq_getElem hop0]
          generalize hj : op[op.length - 1] = j at *
          have hst : matchS ks (i + 1) = (((ms.set i (-1)).set i j).set j.toNat i, op.dropLast) := by rw [hstep]; unfold matchStep; rw [hkd, if_neg hk1, if_pos hk2]; simp only [hgl]
          replace hcq : cellAt H2 ⟨q.block, q.off + ((op.length : Int) - 1).toNat * 1, q.spot⟩ (.int .i64 j) := by
            have : ((op.length : Int) - 1).toNat * 1 = op.length - 1 := by omega
            rw [this]; exact hcq
          obtain ⟨r, hr, hwr⟩ := hown2.take (P := Try.prog) (t := 22) (k := op.length - 1) (lo := none) (hi := some (.int .i64 ((op.length : Int) - 1))) (by exact rfl) (by exact rfl) (by omega) (.inl ⟨rfl, rfl⟩) (.inr ⟨.i64, by congr 2; omega⟩)
          repeat (first | (refine OpsL.p (by subst_vars; decide) (by (first | (exact aop_move (by (first | (simp only [ASt.ev, tmPut, ↓reduceIte, reduceIte, Nat.reduceEqDiff, plain1, *]; rfl) | fail))) | (exact aop_assign (by (first | (simp only [ASt.ev, tmPut, ↓reduceIte, reduceIte, Nat.reduceEqDiff, plain1, *]; rfl) | fail))) | (exact aop_sub (by (first | (simp only [ASt.ev, tmPut, ↓reduceIte, reduceIte, Nat.reduceEqDiff, plain1, *]; rfl) | fail)) (by (first | (simp only [ASt.ev, tmPut, ↓reduceIte, reduceIte, Nat.reduceEqDiff, plain1, *]; rfl) | fail)) (by omega)) | (exact aop_len (by (first | (simp only [ASt.ev, tmPut, ↓reduceIte, reduceIte, Nat.reduceEqDiff, plain1, *]; rfl) | fail)) (by exact rfl)) | (exact aop_indexAddr (by (first | (simp only [ASt.ev, tmPut, ↓reduceIte, reduceIte, Nat.reduceEqDiff, plain1, *]; rfl) | fail)) (by (first | (simp only [ASt.ev, tmPut, ↓reduceIte, reduceIte, Nat.reduceEqDiff, plain1, *]; rfl) | fail)) (by exact rfl) (by exact rfl) (by omega) (by omega)) | (exact aop_load (by (first | (simp only [ASt.ev, tmPut, ↓reduceIte, reduceIte, Nat.reduceEqDiff, plain1, *]; rfl) | fail)) (by exact rfl) rfl (by assumption)) | fail)) ?_) | (refine Trip.seq ?_) | (refine Trip.ops ?_) | (refine OpsL.nil ?_; ((repeat (first | refine blockExit_eq ?_ | refine blockExit_ne (by decide) ?_ | refine blockExit_normal ?_ | refine blockExit_ret ?_ | refine blockExit_goto ?_)); first | (change Trip _ _ _ _ _) | dsimp only | skip)) | fail)
          refine OpsL.p (by subst_vars; decide) (aop_slice (a := none) (b := some (.int .i64 ((op.length : Int) - 1))) (c := none) (by (first | (simp only [ASt.ev, tmPut, ↓reduceIte, reduceIte, Nat.reduceEqDiff, plain1, *]; done) | fail)) rfl (by simp only [evOpt, ASt.ev, tmPut, ↓reduceIte, reduceIte, Option.some.injEq, Nat.reduceEqDiff, Option.map_some, *]) rfl hr) ?_
          repeat (first | (refine OpsL.p (by subst_vars; decide) (by (first | (exact aop_move (by (first | (simp only [ASt.ev, tmPut, ↓reduceIte, reduceIte, Nat.reduceEqDiff, plain1, *]; rfl) | fail))) | (exact aop_assign (by (first | (simp only [ASt.ev, tmPut, ↓reduceIte, reduceIte, Nat.reduceEqDiff, plain1, *]; rfl) | fail))) | (exact aop_indexAddr (by (first | (simp only [ASt.ev, tmPut, ↓reduceIte, reduceIte, Nat.reduceEqDiff, plain1, *]; rfl) | fail)) (by (first | (simp only [ASt.ev, tmPut, ↓reduceIte, reduceIte, Nat.reduceEqDiff, plain1, *]; rfl) | fail)) (by exact rfl) (by exact rfl) (by omega) (by omega)) | fail)) ?_) | (refine Trip.ops ?_) | (refine OpsL.nil ?_; ((repeat (first | refine blockExit_eq ?_ | refine blockExit_ne (by decide) ?_ | refine blockExit_normal ?_ | refine blockExit_ret ?_ | refine blockExit_goto ?_)); first | (change Trip _ _ _ _ _) | dsimp only | skip)) | fail)
          refine OpsL.storeAt i (by (first | (simp only [ASt.ev, tmPut, ↓reduceIte, reduceIte, Nat.reduceEqDiff, plain1, *]; rfl) | fail)) (by (first | (simp only [ASt.ev, tmPut, ↓reduceIte, reduceIte, Nat.reduceEqDiff, plain1, *]; rfl) | fail)) (by exact rfl) rfl rfl hm2 (by show 0 + _ * 1 = _; omega) (by simp; omega) (set_ints _ _ _) ?_
          repeat (first | (refine OpsL.p (by subst_vars; decide) (by (first | (exact aop_indexAddr (by (first | (simp only [ASt.ev, tmPut, ↓reduceIte, reduceIte, Nat.reduceEqDiff, plain1, *]; rfl) | fail)) (by (first | (simp only [ASt.ev, tmPut, ↓reduceIte, reduceIte, Nat.reduceEqDiff, plain1, *]; rfl) | fail)) (by exact rfl) (by exact rfl) (by omega) (by omega)) | fail)) ?_) | fail)
          refine OpsL.storeAt (a := ⟨nx, 0 + j.toNat * 1, none⟩) j.toNat (by (first | (simp only [ASt.ev, tmPut, ↓reduceIte, reduceIte, Nat.reduceEqDiff, plain1, *]; rfl) | fail)) (by (first | (simp only [ASt.ev, tmPut, ↓reduceIte, reduceIte, Nat.reduceEqDiff, plain1, *]; rfl) | fail)) (by exact rfl) rfl rfl Heap.put_eq (by show 0 + _ * 1 = _; omega) (by simp; omega) (set_ints _ _ _) ?_
          repeat (first | (refine OpsL.p (by subst_vars; decide) (by (first | (exact aop_move (by (first | (simp only [ASt.ev, tmPut, ↓reduceIte, reduceIte, Nat.reduceEqDiff, plain1, *]; rfl) | fail))) | (exact aop_assign (by (first | (simp only [ASt.ev, tmPut, ↓reduceIte, reduceIte, Nat.reduceEqDiff, plain1, *]; rfl) | fail))) | (exact aop_add (by (first | (simp only [ASt.ev, tmPut, ↓reduceIte, reduceIte, Nat.reduceEqDiff, plain1, *]; rfl) | fail)) (by (first | (simp only [ASt.ev, tmPut, ↓reduceIte, reduceIte, Nat.reduceEqDiff, plain1, *]; rfl) | fail)) (by omega)) | fail)) ?_) | (refine Trip.ops ?_) | (refine OpsL.nil ?_; ((repeat (first | refine blockExit_eq ?_ | refine blockExit_ne (by decide) ?_ | refine blockExit_normal ?_ | refine blockExit_ret ?_ | refine blockExit_goto ?_)); first | (change Trip _ _ _ _ _) | dsimp only | skip)) | fail)
          refine ⟨i + 1, ⟨_, _, _, ob, r, rfl, ((hext2.put (Nat.le_refl _)).put (Nat.le_refl _)), by omega, ?_, ?_, fun b t hb => by have := hob b t hb; omega, ?_, ?_, ?_, ?_, ?_, by omega⟩, by omega⟩
          · rw [hst]; exact Heap.put_eq
          · rw [hst, List.dropLast_eq_take]; exact OwnRow.put_ne (OwnRow.put_ne hwr (fun b t hb => by have := hob b t hb; omega)) (fun b t hb => by have := hob b t hb; omega)
          all_goals simp [tmPut, *]
        · rename_i hk2 hlast
          have hop0 : op = [] := by rw [← List.length_eq_zero_iff]; omega
          subst hop0
          have hst : matchS ks (i + 1) = (ms.set i (-1), []) := by rw [hstep]; unfold matchStep; rw [hkd, if_neg hk1, if_pos hk2]; rfl
          repeat (first | (refine OpsL.p (by subst_vars; decide) (by (first | (exact aop_move (by (first | (simp only [ASt.ev, tmPut, ↓reduceIte, reduceIte, Nat.reduceEqDiff, plain1, *]; rfl) | fail))) | (exact aop_assign (by (first | (simp only [ASt.ev, tmPut, ↓reduceIte, reduceIte, Nat.reduceEqDiff, plain1, *]; rfl) | fail))) | (exact aop_add (by (first | (simp only [ASt.ev, tmPut, ↓reduceIte, reduceIte, Nat.reduceEqDiff, plain1, *]; rfl) | fail)) (by (first | (simp only [ASt.ev, tmPut, ↓reduceIte, reduceIte, Nat.reduceEqDiff, plain1, *]; rfl) | fail)) (by omega)) | fail)) ?_) | (refine Trip.ops ?_) | (refine Trip.skip ?_; ((repeat (first | refine blockExit_eq ?_ | refine blockExit_ne (by decide) ?_ | refine blockExit_normal ?_ | refine blockExit_ret ?_ | refine blockExit_goto ?_)); first | (change Trip _ _ _ _ _) | dsimp only | skip)) | (refine OpsL.nil ?_; ((repeat (first | refine blockExit_eq ?_ | refine blockExit_ne (by decide) ?_ | refine blockExit_normal ?_ | refine blockExit_ret ?_ | refine blockExit_goto ?_)); first | (change Trip _ _ _ _ _) | dsimp only | skip)) | fail)
          refine ⟨i + 1, ⟨_, _, _, ob, _, rfl, hext2, by omega, ?_, ?_, fun b t hb => by have := hob b t hb; omega, ?_, ?_, ?_, rfl, ?_, by omega⟩, by omega⟩
          · rw [hst]; exact hm2
          · rw [hst]; simpa [tmPut, e6] using hown2
          all_goals simp [tmPut, *]
        · rename_i hk2
          have hst : matchS ks (i + 1) = (ms.set i (-1), op) := by rw [hstep]; unfold matchStep; rw [hkd, if_neg hk1, if_neg hk2]
          repeat (first | (refine OpsL.p (by subst_vars; decide) (by (first | (exact aop_move (by (first | (simp only [ASt.ev, tmPut, ↓reduceIte, reduceIte, Nat.reduceEqDiff, plain1, *]; rfl) | fail))) | (exact aop_assign (by (first | (simp only [ASt.ev, tmPut, ↓reduceIte, reduceIte, Nat.reduceEqDiff, plain1, *]; rfl) | fail))) | (exact aop_add (by (first | (simp only [ASt.ev, tmPut, ↓reduceIte, reduceIte, Nat.reduceEqDiff, plain1, *]; rfl) | fail)) (by (first | (simp only [ASt.ev, tmPut, ↓reduceIte, reduceIte, Nat.reduceEqDiff, plain1, *]; rfl) | fail)) (by omega)) | fail)) ?_) | (refine Trip.ops ?_) | (refine Trip.skip ?_; ((repeat (first | refine blockExit_eq ?_ | refine blockExit_ne (by decide) ?_ | refine blockExit_normal ?_ | refine blockExit_ret ?_ | refine blockExit_goto ?_)); first | (change Trip _ _ _ _ _) | dsimp only | skip)) | (refine OpsL.nil ?_; ((repeat (first | refine blockExit_eq ?_ | refine blockExit_ne (by decide) ?_ | refine blockExit_normal ?_ | refine blockExit_ret ?_ | refine blockExit_goto ?_)); first | (change Trip _ _ _ _ _) | dsimp only | skip)) | fail)
          refine ⟨i + 1, ⟨_, _, _, ob, _, rfl, hext2, by omega, ?_, ?_, fun b t hb => by have := hob b t hb; omega, ?_, ?_, ?_, rfl, ?_, by omega⟩, by omega⟩
          · rw [hst]; exact hm2
          · rw [hst]; simpa [tmPut, e6] using hown2
          all_goals simp [tmPut, *]
    · repeat (first | (refine OpsL.p (by subst_vars; decide) (by (first | (exact aop_move (by (first | (simp only [ASt.ev, tmPut, ↓reduceIte, reduceIte, Nat.reduceEqDiff, plain1, *]; rfl) | fail))) | (exact aop_assign (by (first | (simp only [ASt.ev, tmPut, ↓reduceIte, reduceIte, Nat.reduceEqDiff, plain1, *]; rfl) | fail))) | fail)) ?_) | (refine Trip.seq ?_) | (refine Trip.ops ?_) | (refine Trip.exit ?_; ((repeat (first | refine blockExit_eq ?_ | refine blockExit_ne (by decide) ?_ | refine blockExit_normal ?_ | refine blockExit_ret ?_ | refine blockExit_goto ?_)); first | (change Trip _ _ _ _ _) | dsimp only | skip)) | (refine Trip.ret ?_; ((repeat (first | refine blockExit_eq ?_ | refine blockExit_ne (by decide) ?_ | refine blockExit_normal ?_ | refine blockExit_ret ?_ | refine blockExit_goto ?_)); first | (change Trip _ _ _ _ _) | dsimp only | skip)) | (refine OpsL.nil ?_; ((repeat (first | refine blockExit_eq ?_ | refine blockExit_ne (by decide) ?_ | refine blockExit_normal ?_ | refine blockExit_ret ?_ | refine blockExit_goto ?_)); first | (change Trip _ _ _ _ _) | dsimp only | skip)) | fail)
      have hi2 : i = xs.length := by omega
      subst hi2
      refine ⟨.inr rfl, _, res_tmp, by simp [tmPut, *], ?_, hext⟩
      rw [← hkl] at hp
      rw [matchF, hp]
      exact hm
end Go.Proofs.Ytngekapiemkgnaa
/-
  Rows of one's own: copied from another row, written into.
-/
namespace Go.Proofs.Ytngekapiemkgnaa
set_option linter.unusedSimpArgs false
set_option linter.unusedVariables false
open Go.Am Go.RowKit

section
variable {P : Program} {W0 : World} {H : Heap} {nx n : Nat} {ev : Operand → Option Value} {dst : Option Tmp} {type : TypeId} {pos : String} {after : Array Edge} {guard : Option (Nat × Bool)}

/-- An append to a row that has no room. -/
theorem aop_append_new {b k m sz bytes : Nat} {el : TypeId} {u : Value} {cs xs z : List Value} {q : Option TypeId} {ro : Bool} {esz : Nat} {x y : Operand} {st xt : TypeId} {xd : TypeDesc} (hx : ev x = some (.slice (some ⟨b, 0, none⟩) k k)) (hy : ev y = some u)
    (hH : H b = some (.cells cs esz none ro q)) (hc : cs.length = k * sz)
    (hs : source H sz u none = some (m, xs)) (h1 : xs.all (·.oneCell') = true) (hm : m ≠ 0) (hst : P.underlying st = some (.slice el)) (hxt : P.underlying xt = some xd) (hxd : notInt xd = true)
    (hsz : szOf P el = some sz) (hby : bytesOfT P el = some bytes) (hz : zeroOf P el = some z) (hzl : z.length = sz) (hle : k + m ≤ 1099511627776) (hle2 : (2 * (k + m) + 192) * bytes ≤ 281474976710656) :
    aop P H nx ev ⟨dst, .call ⟨.builtin .append, #[x, y], #[st, xt]⟩, type, pos, after, guard⟩ = some (.slice (some ⟨nx, 0, some nx⟩) (k + m) (k + m), .new (.cells (cs ++ xs) sz (some nx) false (some el))) := by
  have hg : getc H ⟨b, 0, none⟩ (k * sz) = some cs := by
    unfold getc
    simp only [hH]
    rw [if_pos ⟨trivial, by omega⟩]
    simp [← hc]
  simp [aop, hx, hy, evAll, aBuiltin, aAppend, hst, hxt, hsz, hby, hz, hxd, hzl, hs, hm, hH, hle, hle2, hg]
  rw [if_pos (by simpa using h1), if_neg (by omega : ¬ (k + m ≤ k))]

/-- An append of nothing. -/
theorem aop_append_none {b k sz bytes : Nat} {el : TypeId} {u : Value} {cs xs z : List Value} {q : Option TypeId} {tg : Option Nat} {ro : Bool} {esz : Nat} {x y : Operand} {st xt : TypeId} {xd : TypeDesc} (hx : ev x = some (.slice (some ⟨b, 0, tg⟩) k k)) (hy : ev y = some u)
    (hH : H b = some (.cells cs esz tg ro q))
    (hs : source H sz u none = some (0, xs)) (h1 : xs.all (·.oneCell') = true) (hst : P.underlying st = some (.slice el)) (hxt : P.underlying xt = some xd) (hxd : notInt xd = true)
    (hsz : szOf P el = some sz) (hby : bytesOfT P el = some bytes) (hz : zeroOf P el = some z) (hzl : z.length = sz) :
    aop P H nx ev ⟨dst, .call ⟨.builtin .append, #[x, y], #[st, xt]⟩, type, pos, after, guard⟩ = some (.slice (some ⟨b, 0, tg⟩) k k, .none) := by
  simp [aop, hx, hy, evAll, aBuiltin, aAppend, hst, hxt, hsz, hby, hz, hxd, hzl, hs, hH]
  rw [if_pos (by simpa using h1)]

attribute [local irreducible] aop OpsL Trip blockExit OpsD OpsK
variable {ops : Array Oper} {l : List Oper} {tm : Nat → Value} {QQ : ASt → Prop} {d : Tmp}
/-- A number written into a row of one's own. -/
theorem OpsL.storeOwn {ob : Option (Nat × Nat)} {el t : TypeId} {v : Value} {ys : List Int} {i : Nat} {a : Addr} {c : Int} {x y : Operand} (hv : OwnInts H ob el v ys) (hi : i < ys.length) (hx : ASt.ev ⟨tm, n, H, nx⟩ x = some (.pointer (some a))) (hy : ASt.ev ⟨tm, n, H, nx⟩ y = some (.int .i64 c)) (hz : szOf P t = some 1)
    (ha : ∀ b s, v = .slice (some ⟨b, 0, s⟩) ys.length ys.length → a = ⟨b, 0 + i * 1, s⟩)
    (h : ∀ H', OwnInts H' ob el v (ys.set i c) → (∀ k, (∀ b s, ob = some (b, s) → k ≠ b) → H' k = H k) → OpsL P W0 ops l ⟨tm, n, H', nx⟩ QQ) :
    OpsL P W0 ops (⟨none, .store t x y, type, pos, after, none⟩ :: l) ⟨tm, n, H, nx⟩ QQ := by
  cases ob with
  | none => obtain ⟨_, h2, _⟩ := hv; simp at h2; subst h2; simp at hi
  | some bt =>
    obtain ⟨b, s⟩ := bt
    obtain ⟨hv1, hc, rest, hH⟩ := hv
    have e := ha b (some s) hv1
    subst e
    refine OpsL.storeAt (j := i) (cs := ys.map (.int .i64 ·) ++ rest) (cs' := (ys.set i c).map (.int .i64 ·) ++ rest) hx hy hz rfl rfl hH (by simp) (by simp; omega) (by rw [List.set_append_left _ _ (by simpa using hi), set_ints]) (h _ ⟨by rw [List.length_set]; exact hv1, by simp, rest, Heap.put_eq⟩ ?_)
    intro k hk
    rw [Heap.put_ne (hk b s rfl)]
end

theorem ok_putN {H : Heap} {nx : Nat} {o : AObj} (hok : ∀ id o, H id = some o → id < nx) : ∀ id o', (H.put nx o) id = some o' → id < nx + 1 := fun id o' h => by
  by_cases hi : id = nx
  · omega
  · rw [Heap.put_ne hi] at h
    have := hok id o' h
    omega

/-- Rows of symbols, all their cells. -/
def flatS (ss : List (ByteArray × Int)) : List Value := ss.flatMap fun s => [.string s.1, .int .i64 s.2]
theorem flatS_len (ss : List (ByteArray × Int)) : (flatS ss).length = ss.length * 2 := by
  induction ss with
  | nil => rfl
  | cons s ss ih => simp only [flatS, List.flatMap_cons, List.length_append, List.length_cons, List.length_nil] at *; omega
theorem flatS_one (ss : List (ByteArray × Int)) : (flatS ss).all (·.oneCell') = true := by
  simp [flatS, Value.oneCell']
theorem flatS_at : ∀ (ss : List (ByteArray × Int)) (i : Nat) (h : i < ss.length), ((flatS ss).drop (i * 2)).take 2 = [.string ss[i].1, .int .i64 ss[i].2] := by
  intro ss
  induction ss with
  | nil => intro i h; simp at h
  | cons s ss ih =>
    intro i h
    cases i with
    | zero => rfl
    | succ i =>
      have := ih i (by simpa using h)
      rw [show (i + 1) * 2 = i * 2 + 1 + 1 by omega]
      simpa [flatS] using this
theorem symsAt_own {H : Heap} {b c e : Nat} {t : Option Nat} {ss : List (ByteArray × Int)} {ro : Bool} {q : Option TypeId} (hH : H b = some (.cells (flatS ss) e t ro q)) : SymsAt H (.slice (some ⟨b, 0, t⟩) ss.length c) ss := by
  refine ⟨_, c, rfl, fun i h => ?_⟩
  have hl := flatS_len ss
  unfold getc
  simp only [hH, Nat.zero_add]
  rw [if_pos ⟨trivial, by omega⟩, flatS_at ss i h]
theorem symsAt_src {H : Heap} {v : Value} {ss : List (ByteArray × Int)} (h : SymsAt H v ss) (h0 : 0 < ss.length) : source H 2 v none = some (ss.length, flatS ss) := by
  obtain ⟨a, c, rfl, hs⟩ := h
  have key : ∀ m (hm : m ≤ ss.length), getc H a (m * 2) = some (flatS (ss.take m)) := by
    intro m
    induction m with
    | zero =>
      intro _
      have h1 := hs 0 h0
      unfold getc at h1 ⊢
      split at h1
      · rename_i c' e t r q ho
        simp only [ho]
        split at h1
        · rename_i hc
          simp only [Nat.zero_mul, Nat.add_zero] at hc ⊢
          rw [if_pos ⟨hc.1, by omega⟩]
          rfl
        · cases h1
      all_goals cases h1
    | succ m ih =>
      intro hm
      have h1 := hs m (by omega)
      have h2 := ih (by omega)
      unfold getc at h1 h2 ⊢
      split at h1
      · rename_i c' e t r q ho
        simp only [ho] at h2 ⊢
        split at h1
        · rename_i hc
          split at h2
          · rw [if_pos ⟨hc.1, by have := hc.2; simp only at this; omega⟩]
            simp only [Option.some.injEq] at h1 h2 ⊢
            rw [show (m + 1) * 2 = m * 2 + 2 by omega, List.take_add, h2, List.drop_drop, h1, List.take_add_one (l := ss) (i := m), List.getElem?_eq_getElem (by omega : m < ss.length)]
            show _ = flatS (ss.take m ++ [ss[m]])
            unfold flatS
            rw [List.flatMap_append]
            rfl
          · cases h2
        · cases h1
      all_goals cases h1
  show (if ss.length * 2 = 0 then some (ss.length, []) else (getc H a (ss.length * 2)).map (ss.length, ·)) = _
  rw [if_neg (by omega), key ss.length (Nat.le_refl _), List.take_length]
  rfl

end Go.Proofs.Ytngekapiemkgnaa
