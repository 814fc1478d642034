/-
  The law WordParts of chapter 1 holds for all words: a word's text, parted at a blank, is two words' texts; a whole word between changes nothing of the others' partners.
  Conditions: none beyond the row's own.
-/
import Derived.Test.YtngekapiemkgnaaSt2C
namespace Go.Proofs.Ytngekapiemkgnaa.wordParts
set_option linter.unusedSimpArgs false
set_option linter.unusedVariables false
open Go.Am Go.RowKit Go.ChangeShapes Go.WideShapes Go.ChangeAt
attribute [local irreducible] aop OpsL Trip blockExit OpsD OpsK OpsR

def cat (a b : ByteArray) : ByteArray := ⟨(a.data.toList ++ b.data.toList).toArray⟩
theorem bs_catD (a b : ByteArray) : bs (cat a b) = bs a ++ bs b := bs_cat a b
section
variable {P : Program} {H : Heap} {nx : Nat} {ev : Operand → Option Value} {dst : Option Tmp} {type : TypeId} {pos : String} {after : Array Edge} {guard : Option (Nat × Bool)}
theorem aop_cat {t u : TypeId} {x y : Operand} {a b r : ByteArray} (hx : ev x = some (.string a)) (hy : ev y = some (.string b)) (h : (bs a).length + (bs b).length ≤ 1000000000) (hr : cat a b = r) :
    aop P H nx ev ⟨dst, .binOp .add t x y u, type, pos, after, guard⟩ = some (.string r, .none) := by
  rw [← hr]
  exact aop_addS hx hy (by rw [← bs_length, ← bs_length]; exact h)
attribute [local semireducible] aop
theorem aop_neqSF {t u : TypeId} {x y : Operand} {a b : ByteArray} (hx : ev x = some (.string a)) (hy : ev y = some (.string b)) (h : bs a = bs b) :
    aop P H nx ev ⟨dst, .binOp .neq t x y u, type, pos, after, guard⟩ = some (.bool false, .none) := by
  have h2 := sEq_bs a b
  rw [decide_eq_true h] at h2
  simp [aop, hx, hy, aBin, aString, h2]
end

theorem wtextF_two (ss : List (ByteArray × Int)) (w : List Int) (hw : w ≠ []) : ∀ v : List Int, v ≠ [] → wtextF ss (v ++ w) = wtextF ss v ++ [32] ++ wtextF ss w := by
  intro v
  induction v with
  | nil => intro h; exact absurd rfl h
  | cons x v ih =>
    intro _
    cases v with
    | nil =>
      cases w with
      | nil => exact absurd rfl hw
      | cons y w => simp [wtextF]
    | cons z v =>
      have e1 : wtextF ss ((x :: z :: v) ++ w) = symT ss x ++ 32 :: wtextF ss ((z :: v) ++ w) := rfl
      have e2 : wtextF ss (x :: z :: v) = symT ss x ++ 32 :: wtextF ss (z :: v) := rfl
      rw [e1, e2, ih (by simp)]
      simp

theorem entersWMatch : Enters Try.prog 19 := ⟨Try.f19, Try.func19, by kernel_rfl, by kernel_rfl⟩
theorem entersWWhole : Enters Try.prog 18 := ⟨Try.f18, Try.func18, by kernel_rfl, by kernel_rfl⟩

theorem OwnRow_lt {H : Heap} {ob : Option (Nat × Nat)} {el : TypeId} {v : Value} {xs : List Int} {n : Nat} (h : OwnInts H ob el v xs) (hok : ∀ id o, H id = some o → id < n) : ∀ b t, ob = some (b, t) → b < n := by
  intro b t e
  subst e
  obtain ⟨_, _, rest, ho⟩ := h
  exact hok _ _ ho

set_option maxRecDepth 20000 in
set_option maxHeartbeats 4000000 in
theorem law (W0 : World) {nx : Nat} {H : Heap} {m c : Int} {nv mv : Value} {ns ms : List Int} (hn : IntsAt H nv ns) (hm : IntsAt H mv ms) : ACalls Try.prog W0 6 [.int .i64 m, nv, mv, .int .i64 c] nx H fun v _ _ => v = .bool true := by
  obtain ⟨na, nc, rfl⟩ := hn.slice
  obtain ⟨ma, mc, rfl⟩ := hm.slice
  refine ACalls.by_trip (fn := Try.f6) (c := _) Try.func6 rfl (fun tm n hn0 htm => ?_)
  have e0 : tm 0 = .int .i64 m := htm 0
  have e1 : tm 1 = .slice na ns.length nc := htm 1
  have e2 : tm 2 = .slice ma ms.length mc := htm 2
  have e3 : tm 3 = .int .i64 c := htm 3
  clear htm
  replace hn0 : n = 126 := hn0
  refine Trip.ok fun hok => ?_
  replace hok : ∀ id o, H id = some o → id < nx := hok
  repeat (first | (refine OpsL.p (by subst_vars; decide) (by (first | (exact aop_assign (by (first | (simp only [ASt.ev, tmPut, ↓reduceIte, reduceIte, Nat.reduceEqDiff, plain1, *]; rfl) | fail))) | fail)) ?_) | (refine Trip.seq ?_) | (refine Trip.ops ?_) | (refine OpsL.nil ?_; ((repeat (first | refine blockExit_eq ?_ | refine blockExit_ne (by decide) ?_ | refine blockExit_normal ?_ | refine blockExit_ret ?_ | refine blockExit_goto ?_)); first | (change Trip _ _ _ _ _) | dsimp only | skip)) | fail)
  refine OpsL.call0 (by subst_vars; decide) entersKnown ((known_told W0).2 nx H) ?_
  rintro v nx0 H0 ⟨rfl, rfl, rfl⟩
  dsimp only
  repeat (first | (refine OpsL.p (by subst_vars; decide) (by (first | (exact aop_not (by (first | (simp only [ASt.ev, tmPut, ↓reduceIte, reduceIte, Nat.reduceEqDiff, plain1, *]; rfl) | fail))) | fail)) ?_) | (refine OpsL.nil ?_; ((repeat (first | refine blockExit_eq ?_ | refine blockExit_ne (by decide) ?_ | refine blockExit_normal ?_ | refine blockExit_ret ?_ | refine blockExit_goto ?_)); first | (change Trip _ _ _ _ _) | dsimp only | skip)) | fail)
  refine Trip.iteB (b := false) (by (first | (simp only [ASt.ev, tmPut, ↓reduceIte, reduceIte, Nat.reduceEqDiff, decide_true, decide_false, not_true_eq_false, not_false_eq_true, Bool.not_true, Bool.not_false, *]; done) | fail)) (fun h => absurd h (by decide)) (fun _ => ?_)
  repeat (first | (refine OpsL.p (by subst_vars; decide) (by (first | (exact aop_move (by (first | (simp only [ASt.ev, tmPut, ↓reduceIte, reduceIte, Nat.reduceEqDiff, plain1, *]; rfl) | fail))) | fail)) ?_) | (refine Trip.seq ?_) | (refine Trip.ops ?_) | (refine Trip.skip ?_; ((repeat (first | refine blockExit_eq ?_ | refine blockExit_ne (by decide) ?_ | refine blockExit_normal ?_ | refine blockExit_ret ?_ | refine blockExit_goto ?_)); first | (change Trip _ _ _ _ _) | dsimp only | skip)) | fail)
  refine OpsL.call2 (by subst_vars; decide) (by (first | (simp only [ASt.ev, tmPut, ↓reduceIte, reduceIte, Nat.reduceEqDiff, plain1, *]; rfl) | fail)) (by (first | (simp only [ASt.ev, tmPut, ↓reduceIte, reduceIte, Nat.reduceEqDiff, plain1, *]; done) | fail)) entersSyms (symsC W0 hn).ok ?_
  rintro lv nx1 H1 ⟨⟨hl1, hx1⟩, hok1⟩
  obtain ⟨g1, g2, g3⟩ := symsF_good m ns
  obtain ⟨g5, g6⟩ := symsF_ok m ns
  have g4 := symsF_names m ns
  generalize symsF m ns = ss at *
  have hn1 := hn.ext hx1 hok
  have hm1 := hm.ext hx1 hok
  repeat (first | (refine OpsL.p (by subst_vars; decide) (by (first | (exact aop_move (by (first | (simp only [ASt.ev, tmPut, ↓reduceIte, reduceIte, Nat.reduceEqDiff, plain1, *]; rfl) | fail))) | (exact aop_assign (by (first | (simp only [ASt.ev, tmPut, ↓reduceIte, reduceIte, Nat.reduceEqDiff, plain1, *]; rfl) | fail))) | fail)) ?_) | (refine Trip.seq ?_) | (refine Trip.ops ?_) | (refine OpsL.nil ?_; ((repeat (first | refine blockExit_eq ?_ | refine blockExit_ne (by decide) ?_ | refine blockExit_normal ?_ | refine blockExit_ret ?_ | refine blockExit_goto ?_)); first | (change Trip _ _ _ _ _) | dsimp only | skip)) | fail)
  refine OpsL.call3 (by subst_vars; decide) (by (first | (simp only [ASt.ev, tmPut, ↓reduceIte, reduceIte, Nat.reduceEqDiff, plain1, *]; done) | fail)) (by (first | (simp only [ASt.ev, tmPut, ↓reduceIte, reduceIte, Nat.reduceEqDiff, plain1, *]; done) | fail)) (by (first | (simp only [ASt.ev, tmPut, ↓reduceIte, reduceIte, Nat.reduceEqDiff, plain1, *]; rfl) | fail)) entersWord (wordC W0 (most := 20) hl1 g1 (by omega) hn1 (by omega)).ok ?_
  rintro vv nx2 H2 ⟨⟨⟨ob2, hv2, hob2⟩, hx2⟩, hok2⟩
  have hvs := wordF_mem (ns := ns) (most := 20) g1
  have hvl := wordF_length (k := ss.length) (ns := ns) (most := 20)
  generalize wordF ss.length ns 20 = vs at *
  have hl2 := hl1.ext hx2 hok1
  have hm2 := hm1.ext hx2 hok1
  repeat (first | (refine OpsL.p (by subst_vars; decide) (by (first | (exact aop_move (by (first | (simp only [ASt.ev, tmPut, ↓reduceIte, reduceIte, Nat.reduceEqDiff, plain1, *]; rfl) | fail))) | fail)) ?_) | fail)
  refine OpsL.call3 (by subst_vars; decide) (by (first | (simp only [ASt.ev, tmPut, ↓reduceIte, reduceIte, Nat.reduceEqDiff, plain1, *]; done) | fail)) (by (first | (simp only [ASt.ev, tmPut, ↓reduceIte, reduceIte, Nat.reduceEqDiff, plain1, *]; done) | fail)) (by (first | (simp only [ASt.ev, tmPut, ↓reduceIte, reduceIte, Nat.reduceEqDiff, plain1, *]; rfl) | fail)) entersWord (wordC W0 (most := 20) hl2 g1 (by omega) hm2 (by omega)).ok ?_
  rintro wv nx3 H3 ⟨⟨⟨ob3, hw3, hob3⟩, hx3⟩, hok3⟩
  have hws := wordF_mem (ns := ms) (most := 20) g1
  have hwl := wordF_length (k := ss.length) (ns := ms) (most := 20)
  generalize wordF ss.length ms 20 = ws at *
  have hl3 := hl2.ext hx3 hok2
  have hv3 : OwnInts H3 ob2 3 vv vs := OwnRow.ext hx3 (fun b t hb => (hob2 b t hb).2) hv2
  have hvi3 := hv3.at
  have hwi3 := hw3.at
  clear hn1 hm1 hm2 hx1 hx2 hx3 hv2 hl1 hl2
  obtain ⟨va, vc, rfl⟩ := hvi3.slice
  obtain ⟨wa, wc, rfl⟩ := hwi3.slice
  have hmem : ∀ x ∈ vs ++ ws, 0 ≤ x ∧ x < ss.length := fun x hx => by
    rcases List.mem_append.1 hx with h | h
    · exact hvs x h
    · exact hws x h
  repeat (first | (refine OpsL.p (by subst_vars; decide) (by (first | (exact aop_move (by (first | (simp only [ASt.ev, tmPut, ↓reduceIte, reduceIte, Nat.reduceEqDiff, plain1, *]; rfl) | fail))) | (exact aop_assign (by (first | (simp only [ASt.ev, tmPut, ↓reduceIte, reduceIte, Nat.reduceEqDiff, plain1, *]; rfl) | fail))) | (exact aop_add (by (first | (simp only [ASt.ev, tmPut, ↓reduceIte, reduceIte, Nat.reduceEqDiff, plain1, *]; rfl) | fail)) (by (first | (simp only [ASt.ev, tmPut, ↓reduceIte, reduceIte, Nat.reduceEqDiff, plain1, *]; rfl) | fail)) (by omega)) | (exact aop_len (by (first | (simp only [ASt.ev, tmPut, ↓reduceIte, reduceIte, Nat.reduceEqDiff, plain1, *]; rfl) | fail)) (by exact rfl)) | fail)) ?_) | (refine Trip.seq ?_) | (refine Trip.ops ?_) | (refine OpsL.nil ?_; ((repeat (first | refine blockExit_eq ?_ | refine blockExit_ne (by decide) ?_ | refine blockExit_normal ?_ | refine blockExit_ret ?_ | refine blockExit_goto ?_)); first | (change Trip _ _ _ _ _) | dsimp only | skip)) | fail)
  refine OpsL.call2 (by subst_vars; decide) (by (first | (simp only [ASt.ev, tmPut, ↓reduceIte, reduceIte, Nat.reduceEqDiff, plain1, *]; rfl) | fail)) (by (first | (simp only [ASt.ev, tmPut, ↓reduceIte, reduceIte, Nat.reduceEqDiff, plain1, *]; rfl) | fail)) entersWithin (withinC W0 _ _ (by omega) (by omega)) ?_
  rintro v nx7 H7 ⟨rfl, h7, h8⟩
  subst h7; subst h8
  have c0 := Int.emod_nonneg c (show (vs.length + 1 : Int) ≠ 0 by omega)
  have c1 := Int.emod_lt_of_pos c (show (0 : Int) < (vs.length + 1 : Int) by omega)
  generalize hcq : c % (vs.length + 1 : Int) = q at *
  obtain ⟨k, rfl⟩ : ∃ k : Nat, q = k := ⟨q.toNat, by omega⟩
  clear hcq c0
  have hk : k ≤ vs.length := by omega
  (first | (refine OpsL.p (by subst_vars; decide) (by (first | (exact aop_assign (by (first | (simp only [ASt.ev, tmPut, ↓reduceIte, reduceIte, Nat.reduceEqDiff, plain1, *]; rfl) | fail))) | fail)) ?_) | fail)
  (first | (refine OpsL.nil ?_; ((repeat (first | refine blockExit_eq ?_ | refine blockExit_ne (by decide) ?_ | refine blockExit_normal ?_ | refine blockExit_ret ?_ | refine blockExit_goto ?_)); first | (change Trip _ _ _ _ _) | dsimp only | skip)) | fail)
  (first | (refine Trip.seq ?_) | fail)
  (first | (refine Trip.seq ?_) | fail)
  -- the text of both
  refine Trip.mono (Q := fun e st => e = .normal ∧ ∃ (tm' : Nat → Value) (nx8 : Nat) (H8 : Heap), st = ⟨tm', n, H8, nx8⟩ ∧ Ext nx7 H7 nx8 H8 ∧ tm' 59 = .bool false ∧ tm' 9 = lv ∧ tm' 10 = .slice va vs.length vc ∧ tm' 11 = .slice wa ws.length wc ∧ tm' 12 = .int .i64 k) ?_ ?_
  · by_cases hw0 : (0 : Int) < (ws.length : Int)
    · by_cases hv0 : (0 : Int) < (vs.length : Int)
      · repeat (first | (refine OpsL.p (by subst_vars; decide) (by (first | (exact aop_move (by (first | (simp only [ASt.ev, tmPut, ↓reduceIte, reduceIte, Nat.reduceEqDiff, plain1, *]; rfl) | fail))) | (exact aop_gtr (by (first | (simp only [ASt.ev, tmPut, ↓reduceIte, reduceIte, Nat.reduceEqDiff, plain1, *]; rfl) | fail)) (by (first | (simp only [ASt.ev, tmPut, ↓reduceIte, reduceIte, Nat.reduceEqDiff, plain1, *]; rfl) | fail))) | (exact aop_len (by (first | (simp only [ASt.ev, tmPut, ↓reduceIte, reduceIte, Nat.reduceEqDiff, plain1, *]; rfl) | fail)) (by exact rfl)) | (exact aop_pickT (by (first | (simp only [ASt.ev, tmPut, ↓reduceIte, reduceIte, Nat.reduceEqDiff, decide_true, decide_false, not_true_eq_false, not_false_eq_true, Bool.not_true, Bool.not_false, *]; done) | fail)) (by (first | (simp only [ASt.ev, tmPut, ↓reduceIte, reduceIte, Nat.reduceEqDiff, plain1, *]; rfl) | fail))) | fail)) ?_) | (refine Trip.ops ?_) | (refine OpsL.unguard (by exact rfl) (by (first | (simp only [ASt.ev, tmPut, ↓reduceIte, reduceIte, Nat.reduceEqDiff, decide_true, decide_false, not_true_eq_false, not_false_eq_true, Bool.not_true, Bool.not_false, *]; done) | fail)) ?_) | fail)
        refine OpsL.new (by subst_vars; decide) (aop_buildSlice (l := []) (r := (.slice (some ⟨nx7, 0, none⟩) 0 0, .new (.cells [] 1 none false (some 3)))) (by rfl) (by kernel_rfl)) ?_
        have hx8 : Ext nx7 H7 (nx7 + 1) (H7.put nx7 (.cells [] 1 none false (some 3))) := ext_put
        have hok8 := ok_putN (o := .cells [] 1 none false (some 3)) hok3
        have hr8 : RowB (H7.put nx7 (.cells [] 1 none false (some 3))) 3 nx7 (.slice (some ⟨nx7, 0, none⟩) 0 0) [] := .inl ⟨rfl, rfl, Heap.put_eq⟩
        generalize H7.put nx7 (.cells [] 1 none false (some 3)) = H8 at *
        have hv8 := hvi3.ext hx8 hok3
        have hw8 := hwi3.ext hx8 hok3
        have hl8 := hl3.ext hx8 hok3
        repeat (first | (refine OpsL.p (by subst_vars; decide) (by (first | (exact aop_move (by (first | (simp only [ASt.ev, tmPut, ↓reduceIte, reduceIte, Nat.reduceEqDiff, plain1, *]; rfl) | fail))) | fail)) ?_) | (refine OpsL.unguard (by exact rfl) (by (first | (simp only [ASt.ev, tmPut, ↓reduceIte, reduceIte, Nat.reduceEqDiff, decide_true, decide_false, not_true_eq_false, not_false_eq_true, Bool.not_true, Bool.not_false, *]; done) | fail)) ?_) | fail)
        refine OpsL.appendB (by subst_vars; decide) hr8 hv8 (by (first | (simp only [ASt.ev, tmPut, ↓reduceIte, reduceIte, Nat.reduceEqDiff, plain1, *]; done) | fail)) (by (first | (simp only [ASt.ev, tmPut, ↓reduceIte, reduceIte, Nat.reduceEqDiff, plain1, *]; done) | fail)) (Nat.lt_succ_self _) (by exact rfl) (by exact rfl) (by exact rfl) (by exact rfl) (by exact rfl) (by simp; omega) ?_
        intro rv9 nx9 H9 b9 hA9
        have hok9 := hA9.ok (Nat.lt_succ_self _) hok8
        have hx9 := hA9.ext hx8 (Nat.le_refl _)
        have hb9 : nx7 ≤ b9 := by have := hA9.blk; omega
        repeat (first | (refine OpsL.p (by subst_vars; decide) (by (first | (exact aop_move (by (first | (simp only [ASt.ev, tmPut, ↓reduceIte, reduceIte, Nat.reduceEqDiff, plain1, *]; rfl) | fail))) | fail)) ?_) | (refine OpsL.unguard (by exact rfl) (by (first | (simp only [ASt.ev, tmPut, ↓reduceIte, reduceIte, Nat.reduceEqDiff, decide_true, decide_false, not_true_eq_false, not_false_eq_true, Bool.not_true, Bool.not_false, *]; done) | fail)) ?_) | fail)
        refine OpsL.appendB (by subst_vars; decide) hA9.row (hwi3.ext hx9 hok3) (by (first | (simp only [ASt.ev, tmPut, ↓reduceIte, reduceIte, Nat.reduceEqDiff, plain1, *]; done) | fail)) (by (first | (simp only [ASt.ev, tmPut, ↓reduceIte, reduceIte, Nat.reduceEqDiff, plain1, *]; done) | fail)) hA9.lt (by exact rfl) (by exact rfl) (by exact rfl) (by exact rfl) (by exact rfl) (by simp; omega) ?_
        intro rv10 nx10 H10 b10 hA10
        have hok10 := hA10.ok hA9.lt hok9
        have hx10 := hA10.ext hx9 hb9
        have hrow : IntsAt H10 rv10 (vs ++ ws) := by have := hA10.row.at; simpa using this
        repeat (first | (refine OpsL.unguard (by exact rfl) (by (first | (simp only [ASt.ev, tmPut, ↓reduceIte, reduceIte, Nat.reduceEqDiff, decide_true, decide_false, not_true_eq_false, not_false_eq_true, Bool.not_true, Bool.not_false, *]; done) | fail)) ?_) | fail)
        refine OpsL.call2 (by subst_vars; decide) (by (first | (simp only [ASt.ev, tmPut, ↓reduceIte, reduceIte, Nat.reduceEqDiff, plain1, *]; done) | fail)) (by (first | (simp only [ASt.ev, tmPut, ↓reduceIte, reduceIte, Nat.reduceEqDiff, plain1, *]; done) | fail)) entersWText (wtextC W0 (.inr (hl3.ext hx10 hok3)) hrow hmem (by simp; omega) g4).ok ?_
        rintro v11 nx11 H11 ⟨⟨s1, rfl, hs1, hs1l, hx11'⟩, hok11⟩
        have hx11 := hx10.trans hx11'
        repeat (first | (refine OpsL.p (by subst_vars; decide) (by (first | (exact aop_move (by (first | (simp only [ASt.ev, tmPut, ↓reduceIte, reduceIte, Nat.reduceEqDiff, plain1, *]; rfl) | fail))) | fail)) ?_) | (refine OpsL.unguard (by exact rfl) (by (first | (simp only [ASt.ev, tmPut, ↓reduceIte, reduceIte, Nat.reduceEqDiff, decide_true, decide_false, not_true_eq_false, not_false_eq_true, Bool.not_true, Bool.not_false, *]; done) | fail)) ?_) | fail)
        refine OpsL.call2 (by subst_vars; decide) (by (first | (simp only [ASt.ev, tmPut, ↓reduceIte, reduceIte, Nat.reduceEqDiff, plain1, *]; done) | fail)) (by (first | (simp only [ASt.ev, tmPut, ↓reduceIte, reduceIte, Nat.reduceEqDiff, plain1, *]; done) | fail)) entersWText (wtextC W0 (.inr (hl3.ext hx11 hok3)) (hvi3.ext hx11 hok3) hvs (by omega) g4).ok ?_
        rintro v12 nx12 H12 ⟨⟨s2, rfl, hs2, hs2l, hx12'⟩, hok12⟩
        have hx12 := hx11.trans hx12'
        obtain ⟨r1, hr1⟩ : ∃ r, cat s2 ⟨#[32]⟩ = r := ⟨_, rfl⟩
        have hr1b : bs r1 = bs s2 ++ [32] := by rw [← hr1, bs_catD]; rfl
        have hr1l : (bs r1).length = (bs s2).length + 1 := by rw [hr1b]; simp
        repeat (first | (refine OpsL.unguard (by exact rfl) (by (first | (simp only [ASt.ev, tmPut, ↓reduceIte, reduceIte, Nat.reduceEqDiff, decide_true, decide_false, not_true_eq_false, not_false_eq_true, Bool.not_true, Bool.not_false, *]; done) | fail)) ?_) | fail)
        refine OpsL.p (by subst_vars; decide) (aop_cat (r := r1) (by (first | (simp only [ASt.ev, tmPut, ↓reduceIte, reduceIte, Nat.reduceEqDiff, plain1, *]; done) | fail)) (by (first | (simp only [ASt.ev, tmPut, ↓reduceIte, reduceIte, Nat.reduceEqDiff, plain1, *]; rfl) | fail)) (by show _ + 1 ≤ _; omega) hr1) ?_
        repeat (first | (refine OpsL.p (by subst_vars; decide) (by (first | (exact aop_move (by (first | (simp only [ASt.ev, tmPut, ↓reduceIte, reduceIte, Nat.reduceEqDiff, plain1, *]; rfl) | fail))) | fail)) ?_) | (refine OpsL.unguard (by exact rfl) (by (first | (simp only [ASt.ev, tmPut, ↓reduceIte, reduceIte, Nat.reduceEqDiff, decide_true, decide_false, not_true_eq_false, not_false_eq_true, Bool.not_true, Bool.not_false, *]; done) | fail)) ?_) | fail)
        refine OpsL.call2 (by subst_vars; decide) (by (first | (simp only [ASt.ev, tmPut, ↓reduceIte, reduceIte, Nat.reduceEqDiff, plain1, *]; done) | fail)) (by (first | (simp only [ASt.ev, tmPut, ↓reduceIte, reduceIte, Nat.reduceEqDiff, plain1, *]; done) | fail)) entersWText (wtextC W0 (.inr (hl3.ext hx12 hok3)) (hwi3.ext hx12 hok3) hws (by omega) g4).ok ?_
        rintro v13 nx13 H13 ⟨⟨s3, rfl, hs3, hs3l, hx13'⟩, hok13⟩
        have hx13 := hx12.trans hx13'
        obtain ⟨r2, hr2⟩ : ∃ r, cat r1 s3 = r := ⟨_, rfl⟩
        have hr2b : bs r2 = bs s1 := by
          rw [← hr2, bs_catD, hr1b, hs1, hs2, hs3, wtextF_two ss ws (fun e => by subst e; simp at hw0) vs (fun e => by subst e; simp at hv0)]
        repeat (first | (refine OpsL.unguard (by exact rfl) (by (first | (simp only [ASt.ev, tmPut, ↓reduceIte, reduceIte, Nat.reduceEqDiff, decide_true, decide_false, not_true_eq_false, not_false_eq_true, Bool.not_true, Bool.not_false, *]; done) | fail)) ?_) | fail)
        refine OpsL.p (by subst_vars; decide) (aop_cat (r := r2) (by (first | (simp only [ASt.ev, tmPut, ↓reduceIte, reduceIte, Nat.reduceEqDiff, plain1, *]; done) | fail)) (by (first | (simp only [ASt.ev, tmPut, ↓reduceIte, reduceIte, Nat.reduceEqDiff, plain1, *]; done) | fail)) (by omega) hr2) ?_
        repeat (first | (refine OpsL.unguard (by exact rfl) (by (first | (simp only [ASt.ev, tmPut, ↓reduceIte, reduceIte, Nat.reduceEqDiff, decide_true, decide_false, not_true_eq_false, not_false_eq_true, Bool.not_true, Bool.not_false, *]; done) | fail)) ?_) | fail)
        refine OpsL.p (by subst_vars; decide) (aop_neqSF (by (first | (simp only [ASt.ev, tmPut, ↓reduceIte, reduceIte, Nat.reduceEqDiff, plain1, *]; done) | fail)) (by (first | (simp only [ASt.ev, tmPut, ↓reduceIte, reduceIte, Nat.reduceEqDiff, plain1, *]; done) | fail)) hr2b.symm) ?_
        repeat (first | (refine OpsL.p (by subst_vars; decide) (by (first | (exact aop_pickT (by (first | (simp only [ASt.ev, tmPut, ↓reduceIte, reduceIte, Nat.reduceEqDiff, decide_true, decide_false, not_true_eq_false, not_false_eq_true, Bool.not_true, Bool.not_false, *]; done) | fail)) (by (first | (simp only [ASt.ev, tmPut, ↓reduceIte, reduceIte, Nat.reduceEqDiff, plain1, *]; rfl) | fail))) | fail)) ?_) | (refine OpsL.nil ?_; ((repeat (first | refine blockExit_eq ?_ | refine blockExit_ne (by decide) ?_ | refine blockExit_normal ?_ | refine blockExit_ret ?_ | refine blockExit_goto ?_)); first | (change Trip _ _ _ _ _) | dsimp only | skip)) | fail)
        exact ⟨rfl, _, _, _, rfl, hx13, by simp [tmPut], by simp [tmPut, *], by simp [tmPut, *], by simp [tmPut, *], by simp [tmPut, *]⟩
      · repeat (first | (refine OpsL.p (by subst_vars; decide) (by (first | (exact aop_move (by (first | (simp only [ASt.ev, tmPut, ↓reduceIte, reduceIte, Nat.reduceEqDiff, plain1, *]; rfl) | fail))) | (exact aop_gtr (by (first | (simp only [ASt.ev, tmPut, ↓reduceIte, reduceIte, Nat.reduceEqDiff, plain1, *]; rfl) | fail)) (by (first | (simp only [ASt.ev, tmPut, ↓reduceIte, reduceIte, Nat.reduceEqDiff, plain1, *]; rfl) | fail))) | (exact aop_len (by (first | (simp only [ASt.ev, tmPut, ↓reduceIte, reduceIte, Nat.reduceEqDiff, plain1, *]; rfl) | fail)) (by exact rfl)) | (exact aop_pickT (by (first | (simp only [ASt.ev, tmPut, ↓reduceIte, reduceIte, Nat.reduceEqDiff, decide_true, decide_false, not_true_eq_false, not_false_eq_true, Bool.not_true, Bool.not_false, *]; done) | fail)) (by (first | (simp only [ASt.ev, tmPut, ↓reduceIte, reduceIte, Nat.reduceEqDiff, plain1, *]; rfl) | fail))) | (exact aop_pickF (by (first | (simp only [ASt.ev, tmPut, ↓reduceIte, reduceIte, Nat.reduceEqDiff, decide_true, decide_false, not_true_eq_false, not_false_eq_true, Bool.not_true, Bool.not_false, *]; done) | fail)) (by (first | (simp only [ASt.ev, tmPut, ↓reduceIte, reduceIte, Nat.reduceEqDiff, plain1, *]; rfl) | fail))) | fail)) ?_) | (refine Trip.ops ?_) | (refine OpsL.nil ?_; ((repeat (first | refine blockExit_eq ?_ | refine blockExit_ne (by decide) ?_ | refine blockExit_normal ?_ | refine blockExit_ret ?_ | refine blockExit_goto ?_)); first | (change Trip _ _ _ _ _) | dsimp only | skip)) | (refine OpsL.unguard (by exact rfl) (by (first | (simp only [ASt.ev, tmPut, ↓reduceIte, reduceIte, Nat.reduceEqDiff, decide_true, decide_false, not_true_eq_false, not_false_eq_true, Bool.not_true, Bool.not_false, *]; done) | fail)) ?_) | (refine OpsL.skipped (by exact rfl) (by (first | (simp only [ASt.ev, tmPut, ↓reduceIte, reduceIte, Nat.reduceEqDiff, decide_true, decide_false, not_true_eq_false, not_false_eq_true, Bool.not_true, Bool.not_false, *]; done) | fail)) (by subst_vars; decide) ?_) | fail)
        exact ⟨rfl, _, _, _, rfl, Ext.refl, by simp [tmPut], by simp [tmPut, *], by simp [tmPut, *], by simp [tmPut, *], by simp [tmPut, *]⟩
    · repeat (first | (refine OpsL.p (by subst_vars; decide) (by (first | (exact aop_move (by (first | (simp only [ASt.ev, tmPut, ↓reduceIte, reduceIte, Nat.reduceEqDiff, plain1, *]; rfl) | fail))) | (exact aop_gtr (by (first | (simp only [ASt.ev, tmPut, ↓reduceIte, reduceIte, Nat.reduceEqDiff, plain1, *]; rfl) | fail)) (by (first | (simp only [ASt.ev, tmPut, ↓reduceIte, reduceIte, Nat.reduceEqDiff, plain1, *]; rfl) | fail))) | (exact aop_len (by (first | (simp only [ASt.ev, tmPut, ↓reduceIte, reduceIte, Nat.reduceEqDiff, plain1, *]; rfl) | fail)) (by exact rfl)) | (exact aop_pickF (by (first | (simp only [ASt.ev, tmPut, ↓reduceIte, reduceIte, Nat.reduceEqDiff, decide_true, decide_false, not_true_eq_false, not_false_eq_true, Bool.not_true, Bool.not_false, *]; done) | fail)) (by (first | (simp only [ASt.ev, tmPut, ↓reduceIte, reduceIte, Nat.reduceEqDiff, plain1, *]; rfl) | fail))) | fail)) ?_) | (refine Trip.ops ?_) | (refine OpsL.nil ?_; ((repeat (first | refine blockExit_eq ?_ | refine blockExit_ne (by decide) ?_ | refine blockExit_normal ?_ | refine blockExit_ret ?_ | refine blockExit_goto ?_)); first | (change Trip _ _ _ _ _) | dsimp only | skip)) | (refine OpsL.skipped (by exact rfl) (by (first | (simp only [ASt.ev, tmPut, ↓reduceIte, reduceIte, Nat.reduceEqDiff, decide_true, decide_false, not_true_eq_false, not_false_eq_true, Bool.not_true, Bool.not_false, *]; done) | fail)) (by subst_vars; decide) ?_) | fail)
      exact ⟨rfl, _, _, _, rfl, Ext.refl, by simp [tmPut], by simp [tmPut, *], by simp [tmPut, *], by simp [tmPut, *], by simp [tmPut, *]⟩
  · rintro e st ⟨rfl, tm', nx8, H8, rfl, hx8, e59, e9, e10, e11, e12⟩
    dsimp only
    clear e0 e1 e2 e3
    have hok8 : True := trivial
    refine Trip.ok fun hok8 => ?_
    replace hok8 : ∀ id o, H8 id = some o → id < nx8 := hok8
    have hl8 := hl3.ext hx8 hok3
    have hv8 : OwnInts H8 ob2 3 (.slice va vs.length vc) vs := OwnRow.ext hx8 (fun b t hb => by have := (hob2 b t hb).2; exact OwnRow_lt hv3 hok3 b t hb) hv3
    have hvi8 := hv8.at
    have hwi8 := hwi3.ext hx8 hok3
    clear hv3 hvi3 hwi3 hw3 hl3 hob2 hob3
    repeat fail
    refine Trip.iteB (b := false) (by (first | (simp only [ASt.ev, tmPut, ↓reduceIte, reduceIte, Nat.reduceEqDiff, decide_true, decide_false, not_true_eq_false, not_false_eq_true, Bool.not_true, Bool.not_false, *]; done) | fail)) (fun h => absurd h (by decide)) (fun _ => ?_)
    repeat (first | (refine OpsL.p (by subst_vars; decide) (by (first | (exact aop_move (by (first | (simp only [ASt.ev, tmPut, ↓reduceIte, reduceIte, Nat.reduceEqDiff, plain1, *]; rfl) | fail))) | fail)) ?_) | (refine Trip.seq ?_) | (refine Trip.ops ?_) | (refine Trip.skip ?_; ((repeat (first | refine blockExit_eq ?_ | refine blockExit_ne (by decide) ?_ | refine blockExit_normal ?_ | refine blockExit_ret ?_ | refine blockExit_goto ?_)); first | (change Trip _ _ _ _ _) | dsimp only | skip)) | fail)
    refine OpsL.call2 (by subst_vars; decide) (by (first | (simp only [ASt.ev, tmPut, ↓reduceIte, reduceIte, Nat.reduceEqDiff, plain1, *]; done) | fail)) (by (first | (simp only [ASt.ev, tmPut, ↓reduceIte, reduceIte, Nat.reduceEqDiff, plain1, *]; done) | fail)) entersWWhole (wordWholeC W0 hl8 hwi8 hws g3 (by omega)).ok ?_
    rintro v9 nx9 H9 ⟨⟨⟨wb, rfl, hwb⟩, hx9⟩, hok9⟩
    repeat (first | (refine OpsL.p (by subst_vars; decide) (by (first | (exact aop_not (by (first | (simp only [ASt.ev, tmPut, ↓reduceIte, reduceIte, Nat.reduceEqDiff, plain1, *]; rfl) | fail))) | fail)) ?_) | (refine OpsL.nil ?_; ((repeat (first | refine blockExit_eq ?_ | refine blockExit_ne (by decide) ?_ | refine blockExit_normal ?_ | refine blockExit_ret ?_ | refine blockExit_goto ?_)); first | (change Trip _ _ _ _ _) | dsimp only | skip)) | fail)
    cases wb with
    | false =>
      refine Trip.iteB (b := true) (by (first | (simp only [ASt.ev, tmPut, ↓reduceIte, reduceIte, Nat.reduceEqDiff, decide_true, decide_false, not_true_eq_false, not_false_eq_true, Bool.not_true, Bool.not_false, *]; done) | fail)) (fun _ => ?_) (fun h => absurd h (by decide))
      repeat (first | (refine OpsL.p (by subst_vars; decide) (by (first | (exact aop_assign (by (first | (simp only [ASt.ev, tmPut, ↓reduceIte, reduceIte, Nat.reduceEqDiff, plain1, *]; rfl) | fail))) | fail)) ?_) | (refine Trip.seq ?_) | (refine Trip.ops ?_) | (refine Trip.ret ?_; ((repeat (first | refine blockExit_eq ?_ | refine blockExit_ne (by decide) ?_ | refine blockExit_normal ?_ | refine blockExit_ret ?_ | refine blockExit_goto ?_)); first | (change Trip _ _ _ _ _) | dsimp only | skip)) | (refine OpsL.nil ?_; ((repeat (first | refine blockExit_eq ?_ | refine blockExit_ne (by decide) ?_ | refine blockExit_normal ?_ | refine blockExit_ret ?_ | refine blockExit_goto ?_)); first | (change Trip _ _ _ _ _) | dsimp only | skip)) | fail)
      exact ⟨.inr rfl, _, res_tmp, by simp [tmPut]⟩
    | true =>
      refine Trip.iteB (b := false) (by (first | (simp only [ASt.ev, tmPut, ↓reduceIte, reduceIte, Nat.reduceEqDiff, decide_true, decide_false, not_true_eq_false, not_false_eq_true, Bool.not_true, Bool.not_false, *]; done) | fail)) (fun h => absurd h (by decide)) (fun _ => ?_)
      have hbad := hwb.1 rfl
      clear hwb
      have hl9 := hl8.ext hx9 hok8
      have hv9 : OwnInts H9 ob2 3 (.slice va vs.length vc) vs := OwnRow.ext hx9 (OwnRow_lt hv8 hok8) hv8
      have hvi9 := hv9.at
      have hwi9 := hwi8.ext hx9 hok8
      obtain ⟨⟨tv, htv, htvi⟩, ⟨dv, hdv, hdvi⟩⟩ := own_parts (P := Try.prog) (t := 22) (el := 3) hv9 (by exact rfl) (by exact rfl) hk
      have hva : ∀ p, va = some p → p.block < nx9 := fun p hp => by
        subst hp
        cases ob2 with
        | none => have := hv9.1; cases this
        | some bt => have h1 := (Value.slice.inj hv9.1).1; cases h1; exact OwnRow_lt hv9 hok9 _ _ rfl
      clear hx8 hx9 hl8 hv8 hvi8 hwi8
      generalize hxs : vs.take k ++ ws ++ vs.drop k = xs at *
      have hxl : xs.length = vs.length + ws.length := by rw [← hxs]; simp; omega
      have hxm : ∀ x ∈ xs, 0 ≤ x ∧ x < ss.length := fun x hx => by
        rw [← hxs] at hx
        rcases List.mem_append.1 hx with h | h
        · rcases List.mem_append.1 h with h | h
          · exact hvs x (List.mem_of_mem_take h)
          · exact hws x h
        · exact hvs x (List.mem_of_mem_drop h)
      repeat (first | (refine Trip.seq ?_) | (refine Trip.skip ?_; ((repeat (first | refine blockExit_eq ?_ | refine blockExit_ne (by decide) ?_ | refine blockExit_normal ?_ | refine blockExit_ret ?_ | refine blockExit_goto ?_)); first | (change Trip _ _ _ _ _) | dsimp only | skip)) | fail)
      refine Trip.mono (Q := fun e st => e = .normal ∧ ∃ (tm' : Nat → Value) (nx10 : Nat) (H10 : Heap) (ba bb : Nat), st = ⟨tm', n, H10, nx10⟩ ∧ tm' 13 = .slice (some ⟨ba, 0, none⟩) vs.length vs.length ∧ tm' 14 = .slice (some ⟨bb, 0, none⟩) xs.length xs.length ∧
        H10 ba = some (.cells ((matchF (kindsOf ss vs)).map (.int .i64 ·)) 1 none false (some 3)) ∧ H10 bb = some (.cells ((matchF (kindsOf ss xs)).map (.int .i64 ·)) 1 none false (some 3)) ∧ tm' 10 = .slice va vs.length vc ∧ tm' 11 = .slice wa ws.length wc ∧ tm' 12 = .int .i64 k) ?_ ?_
      · -- the partners of both, in whatever order the first two come
        refine OpsR.drawn [2, 4, 8, 10, 14, 15] (K := fun n1 H1 => Ext nx9 H9 n1 H1) fit.mixed (by kernel_rfl) (by kernel_rfl) [0, 1, 3, 5, 6, 7, 9, 11, 12, 13, 2, 4, 8, 10, 14, 15, 16, 17] (by kernel_rfl) Ext.refl ?_
        generalize hops : (#[_, _, _, _, _, _, _, _, _, _, _, _, _, _, _, _, _, _] : Array Oper) = ops
        have cont : ∀ (tm : Nat → Value) (nx10 : Nat) (H10 : Heap) (ba b0 : Nat), Ext nx9 H9 nx10 H10 → (∀ id o, H10 id = some o → id < nx10) → nx9 ≤ ba → ba < nx10 → nx9 ≤ b0 → b0 < nx10 → ba ≠ b0 → H10 ba = some (.cells ((matchF (kindsOf ss vs)).map (.int .i64 ·)) 1 none false (some 3)) → H10 b0 = some (.cells [] 1 none false (some 3)) →
            tm 66 = .slice (some ⟨ba, 0, none⟩) vs.length vs.length → tm 68 = .slice (some ⟨b0, 0, none⟩) 0 0 → tm 67 = lv → tm 71 = tv → tm 73 = .slice wa ws.length wc → tm 77 = dv → tm 10 = .slice va vs.length vc → tm 11 = .slice wa ws.length wc → tm 12 = .int .i64 k →
            OpsR Try.prog W0 ops [2, 4, 8, 10, 14, 15] (fun n1 H1 => Ext nx9 H9 n1 H1) 6 [8, 10, 14, 15, 16, 17] ⟨tm, n, H10, nx10⟩ (fun st => AExit.normal = .normal ∧ ∃ (tm' : Nat → Value) (nx10 : Nat) (H10 : Heap) (ba bb : Nat), st = ⟨tm', n, H10, nx10⟩ ∧ tm' 13 = .slice (some ⟨ba, 0, none⟩) vs.length vs.length ∧ tm' 14 = .slice (some ⟨bb, 0, none⟩) xs.length xs.length ∧
        H10 ba = some (.cells ((matchF (kindsOf ss vs)).map (.int .i64 ·)) 1 none false (some 3)) ∧ H10 bb = some (.cells ((matchF (kindsOf ss xs)).map (.int .i64 ·)) 1 none false (some 3)) ∧ tm' 10 = .slice va vs.length vc ∧ tm' 11 = .slice wa ws.length wc ∧ tm' 12 = .int .i64 k) := by
          subst hops
          intro tm nx10 H10 ba b0 hx10 hok10 hba1 hba2 hb01 hb02 hne hba hb0 e66 e68 e67 e71 e73 e77 e10 e11 e12
          have hr10 : RowB H10 3 b0 (.slice (some ⟨b0, 0, none⟩) 0 0) [] := .inl ⟨rfl, rfl, hb0⟩
          refine OpsR.act (by kernel_rfl) (ActStep.appendB rfl rfl (by subst_vars; decide) hr10 (htvi.ext hx10 hok9) (by (first | (simp only [ASt.ev, tmPut, ↓reduceIte, reduceIte, Nat.reduceEqDiff, plain1, *]; done) | fail)) (by (first | (simp only [ASt.ev, tmPut, ↓reduceIte, reduceIte, Nat.reduceEqDiff, plain1, *]; done) | fail)) hb02 (by exact rfl) (by exact rfl) (by exact rfl) (by exact rfl) (by exact rfl) (by simp; omega) ?_)
          intro rv11 nx11 H11 b11 hA11
          have hok11 := hA11.ok hb02 hok10
          have hx11 := hA11.ext hx10 hb01
          have hb11 : nx9 ≤ b11 := by have := hA11.blk; have := hx10.1; omega
          have hn11 : ba ≠ b11 := by have := hA11.blk; omega
          refine ⟨hx11, ?_⟩
          refine OpsR.act (by kernel_rfl) (ActStep.appendB rfl rfl (by subst_vars; decide) hA11.row (hwi9.ext hx11 hok9) (by (first | (simp only [ASt.ev, tmPut, ↓reduceIte, reduceIte, Nat.reduceEqDiff, plain1, *]; done) | fail)) (by (first | (simp only [ASt.ev, tmPut, ↓reduceIte, reduceIte, Nat.reduceEqDiff, plain1, *]; done) | fail)) hA11.lt (by exact rfl) (by exact rfl) (by exact rfl) (by exact rfl) (by exact rfl) (by simp; omega) ?_)
          intro rv12 nx12 H12 b12 hA12
          have hok12 := hA12.ok hA11.lt hok11
          have hx12 := hA12.ext hx11 hb11
          have hb12 : nx9 ≤ b12 := by have := hA12.blk; have := hx11.1; omega
          have hn12 : ba ≠ b12 := by have := hA12.blk; have := hA11.le; omega
          refine ⟨hx12, ?_⟩
          refine OpsR.act (by kernel_rfl) (ActStep.appendB rfl rfl (by subst_vars; decide) hA12.row (hdvi.ext hx12 hok9) (by (first | (simp only [ASt.ev, tmPut, ↓reduceIte, reduceIte, Nat.reduceEqDiff, plain1, *]; done) | fail)) (by (first | (simp only [ASt.ev, tmPut, ↓reduceIte, reduceIte, Nat.reduceEqDiff, plain1, *]; done) | fail)) hA12.lt (by exact rfl) (by exact rfl) (by exact rfl) (by exact rfl) (by exact rfl) (by simp; omega) ?_)
          intro rv13 nx13 H13 b13 hA13
          have hok13 := hA13.ok hA12.lt hok12
          have hx13 := hA13.ext hx12 hb12
          have hn13 : ba ≠ b13 := by have := hA13.blk; have := hA11.le; have := hA12.le; omega
          refine ⟨hx13, ?_⟩
          have hrow : IntsAt H13 rv13 xs := by have := hA13.row.at; rw [List.nil_append, hxs] at this; exact this
          have hba13 : H13 ba = some (.cells ((matchF (kindsOf ss vs)).map (.int .i64 ·)) 1 none false (some 3)) := by
            rw [hA13.same ba hn12 hn13, hA12.same ba hn11 hn12, hA11.same ba hne hn11]; exact hba
          refine OpsR.act (by kernel_rfl) (ActStep.call2 rfl rfl (by subst_vars; decide) (by (first | (simp only [ASt.ev, tmPut, ↓reduceIte, reduceIte, Nat.reduceEqDiff, plain1, *]; done) | fail)) (by (first | (simp only [ASt.ev, tmPut, ↓reduceIte, reduceIte, Nat.reduceEqDiff, plain1, *]; done) | fail)) (by (first | (simp only [ASt.ev, tmPut, ↓reduceIte, reduceIte, Nat.reduceEqDiff, plain1, *]; done) | fail)) entersWMatch (wordMatchC W0 (hl9.ext hx13 hok9) hrow hxm (by omega)) ?_)
          rintro v nx14 H14 ⟨rfl, hH14, hx14⟩
          refine ⟨hx13.trans hx14, ?_⟩
          refine OpsR.one rfl rfl rfl (by kernel_rfl) ?_
          repeat (first | (refine OpsL.p (by subst_vars; decide) (by (first | (exact aop_assign (by (first | (simp only [ASt.ev, tmPut, ↓reduceIte, reduceIte, Nat.reduceEqDiff, plain1, *]; rfl) | fail))) | fail)) ?_) | (refine OpsL.nil ?_; ((repeat (first | refine blockExit_eq ?_ | refine blockExit_ne (by decide) ?_ | refine blockExit_normal ?_ | refine blockExit_ret ?_ | refine blockExit_goto ?_)); first | (change Trip _ _ _ _ _) | dsimp only | skip)) | fail)
          refine OpsR.one rfl rfl rfl (by kernel_rfl) ?_
          repeat (first | (refine OpsL.p (by subst_vars; decide) (by (first | (exact aop_assign (by (first | (simp only [ASt.ev, tmPut, ↓reduceIte, reduceIte, Nat.reduceEqDiff, plain1, *]; rfl) | fail))) | fail)) ?_) | (refine OpsL.nil ?_; ((repeat (first | refine blockExit_eq ?_ | refine blockExit_ne (by decide) ?_ | refine blockExit_normal ?_ | refine blockExit_ret ?_ | refine blockExit_goto ?_)); first | (change Trip _ _ _ _ _) | dsimp only | skip)) | fail)
          refine OpsR.nil ?_
          exact ⟨rfl, _, _, _, ba, _, rfl, by simp [tmPut, *], by simp [tmPut, *], by rw [hx14.2 ba (by have := hA11.le; have := hA12.le; have := hA13.le; omega)]; exact hba13, hH14, by simp [tmPut, *], by simp [tmPut, *], by simp [tmPut, *]⟩
        subst hops
        have hKl : ∀ (H' : Heap) (nx' : Nat), Ext nx9 H9 nx' H' → aSlice Try.prog H' 22 (.slice va vs.length vc) none (some (.int .i64 k)) none = some tv ∧ aSlice Try.prog H' 22 (.slice va vs.length vc) (some (.int .i64 k)) none none = some dv := fun H' nx' hK => by
          rw [aSlice_congr (H := H9) (fun p hp => hK.2 p.block (hva p hp)), aSlice_congr (H := H9) (fun p hp => hK.2 p.block (hva p hp))]
          exact ⟨htv, hdv⟩
        refine OpsR.one rfl rfl rfl (by kernel_rfl) ?_
        repeat (first | (refine OpsL.p (by subst_vars; decide) (by (first | (exact aop_move (by (first | (simp only [ASt.ev, tmPut, ↓reduceIte, reduceIte, Nat.reduceEqDiff, plain1, *]; rfl) | fail))) | fail)) ?_) | (refine OpsL.nil ?_; ((repeat (first | refine blockExit_eq ?_ | refine blockExit_ne (by decide) ?_ | refine blockExit_normal ?_ | refine blockExit_ret ?_ | refine blockExit_goto ?_)); first | (change Trip _ _ _ _ _) | dsimp only | skip)) | fail)
        refine OpsR.one rfl rfl rfl (by kernel_rfl) ?_
        repeat (first | (refine OpsL.p (by subst_vars; decide) (by (first | (exact aop_move (by (first | (simp only [ASt.ev, tmPut, ↓reduceIte, reduceIte, Nat.reduceEqDiff, plain1, *]; rfl) | fail))) | fail)) ?_) | (refine OpsL.nil ?_; ((repeat (first | refine blockExit_eq ?_ | refine blockExit_ne (by decide) ?_ | refine blockExit_normal ?_ | refine blockExit_ret ?_ | refine blockExit_goto ?_)); first | (change Trip _ _ _ _ _) | dsimp only | skip)) | fail)
        refine OpsR.one rfl rfl rfl (by kernel_rfl) ?_
        repeat (first | (refine OpsL.p (by subst_vars; decide) (by (first | (exact aop_move (by (first | (simp only [ASt.ev, tmPut, ↓reduceIte, reduceIte, Nat.reduceEqDiff, plain1, *]; rfl) | fail))) | fail)) ?_) | (refine OpsL.nil ?_; ((repeat (first | refine blockExit_eq ?_ | refine blockExit_ne (by decide) ?_ | refine blockExit_normal ?_ | refine blockExit_ret ?_ | refine blockExit_goto ?_)); first | (change Trip _ _ _ _ _) | dsimp only | skip)) | fail)
        refine OpsR.one rfl rfl rfl (by kernel_rfl) ?_
        repeat (first | (refine OpsL.p (by subst_vars; decide) (by (first | (exact aop_move (by (first | (simp only [ASt.ev, tmPut, ↓reduceIte, reduceIte, Nat.reduceEqDiff, plain1, *]; rfl) | fail))) | fail)) ?_) | (refine OpsL.nil ?_; ((repeat (first | refine blockExit_eq ?_ | refine blockExit_ne (by decide) ?_ | refine blockExit_normal ?_ | refine blockExit_ret ?_ | refine blockExit_goto ?_)); first | (change Trip _ _ _ _ _) | dsimp only | skip)) | fail)
        refine OpsR.one rfl rfl rfl (by kernel_rfl) ?_
        repeat (first | (refine OpsL.p (by subst_vars; decide) (by (first | (exact aop_move (by (first | (simp only [ASt.ev, tmPut, ↓reduceIte, reduceIte, Nat.reduceEqDiff, plain1, *]; rfl) | fail))) | fail)) ?_) | (refine OpsL.nil ?_; ((repeat (first | refine blockExit_eq ?_ | refine blockExit_ne (by decide) ?_ | refine blockExit_normal ?_ | refine blockExit_ret ?_ | refine blockExit_goto ?_)); first | (change Trip _ _ _ _ _) | dsimp only | skip)) | fail)
        refine OpsR.sp (v := tv) rfl (by kernel_rfl) (by subst_vars; decide) Ext.refl (fun H' nx' hK => aop_slice (a := none) (b := some (.int .i64 k)) (c := none) (by (first | (simp only [ASt.ev, tmPut, ↓reduceIte, reduceIte, Nat.reduceEqDiff, plain1, *]; done) | fail)) rfl (by simp only [evOpt, ASt.ev, tmPut, ↓reduceIte, reduceIte, Option.some.injEq, Nat.reduceEqDiff, Option.map_some, *]) rfl (hKl H' nx' hK).1) ?_
        refine OpsR.one rfl rfl rfl (by kernel_rfl) ?_
        repeat (first | (refine OpsL.p (by subst_vars; decide) (by (first | (exact aop_move (by (first | (simp only [ASt.ev, tmPut, ↓reduceIte, reduceIte, Nat.reduceEqDiff, plain1, *]; rfl) | fail))) | fail)) ?_) | (refine OpsL.nil ?_; ((repeat (first | refine blockExit_eq ?_ | refine blockExit_ne (by decide) ?_ | refine blockExit_normal ?_ | refine blockExit_ret ?_ | refine blockExit_goto ?_)); first | (change Trip _ _ _ _ _) | dsimp only | skip)) | fail)
        refine OpsR.one rfl rfl rfl (by kernel_rfl) ?_
        repeat (first | (refine OpsL.p (by subst_vars; decide) (by (first | (exact aop_move (by (first | (simp only [ASt.ev, tmPut, ↓reduceIte, reduceIte, Nat.reduceEqDiff, plain1, *]; rfl) | fail))) | fail)) ?_) | (refine OpsL.nil ?_; ((repeat (first | refine blockExit_eq ?_ | refine blockExit_ne (by decide) ?_ | refine blockExit_normal ?_ | refine blockExit_ret ?_ | refine blockExit_goto ?_)); first | (change Trip _ _ _ _ _) | dsimp only | skip)) | fail)
        refine OpsR.one rfl rfl rfl (by kernel_rfl) ?_
        repeat (first | (refine OpsL.p (by subst_vars; decide) (by (first | (exact aop_move (by (first | (simp only [ASt.ev, tmPut, ↓reduceIte, reduceIte, Nat.reduceEqDiff, plain1, *]; rfl) | fail))) | fail)) ?_) | (refine OpsL.nil ?_; ((repeat (first | refine blockExit_eq ?_ | refine blockExit_ne (by decide) ?_ | refine blockExit_normal ?_ | refine blockExit_ret ?_ | refine blockExit_goto ?_)); first | (change Trip _ _ _ _ _) | dsimp only | skip)) | fail)
        refine OpsR.sp (v := dv) rfl (by kernel_rfl) (by subst_vars; decide) Ext.refl (fun H' nx' hK => aop_slice (a := some (.int .i64 k)) (b := none) (c := none) (by (first | (simp only [ASt.ev, tmPut, ↓reduceIte, reduceIte, Nat.reduceEqDiff, plain1, *]; done) | fail)) (by simp only [evOpt, ASt.ev, tmPut, ↓reduceIte, reduceIte, Option.some.injEq, Nat.reduceEqDiff, Option.map_some, *]) rfl rfl (hKl H' nx' hK).2) ?_
        refine OpsR.act2 (by kernel_rfl) ?_ ?_
        · refine ActStep.call2 rfl rfl (by subst_vars; decide) (by (first | (simp only [ASt.ev, tmPut, ↓reduceIte, reduceIte, Nat.reduceEqDiff, plain1, *]; done) | fail)) (by (first | (simp only [ASt.ev, tmPut, ↓reduceIte, reduceIte, Nat.reduceEqDiff, plain1, *]; done) | fail)) (by (first | (simp only [ASt.ev, tmPut, ↓reduceIte, reduceIte, Nat.reduceEqDiff, plain1, *]; done) | fail)) entersWMatch (wordMatchC W0 hl9 hvi9 hvs (by omega)).ok ?_
          rintro v nx10 H10 ⟨⟨rfl, hH10, hx10⟩, hok10⟩
          refine ⟨hx10, ?_⟩
          refine OpsR.act (by kernel_rfl) (ActStep.new (v := .slice (some ⟨nx10, 0, none⟩) 0 0) (ob := .cells [] 1 none false (some 3)) rfl rfl (by subst_vars; decide) (aop_buildSlice (l := []) (by rfl) (by kernel_rfl)) ((hx10.up (Nat.le_succ _)).put hx10.1) ?_)
          have hlt := hok10 _ _ hH10
          refine cont _ _ _ nx9 nx10 ((hx10.up (Nat.le_succ _)).put hx10.1) (ok_putN hok10) (Nat.le_refl _) (by omega) hx10.1 (Nat.lt_succ_self _) (by omega) (by rw [Heap.put_ne (by omega)]; exact hH10) Heap.put_eq ?_ ?_ ?_ ?_ ?_ ?_ ?_ ?_ ?_ <;> simp [tmPut, *]
        · refine ActStep.new (v := .slice (some ⟨nx9, 0, none⟩) 0 0) (ob := .cells [] 1 none false (some 3)) rfl rfl (by subst_vars; decide) (aop_buildSlice (l := []) (by rfl) (by kernel_rfl)) ext_put ?_
          have hokp := ok_putN (o := .cells [] 1 none false (some 3)) hok9
          have hxp : Ext nx9 H9 (nx9 + 1) (H9.put nx9 (.cells [] 1 none false (some 3))) := ext_put
          refine OpsR.act (by kernel_rfl) (ActStep.call2 rfl rfl (by subst_vars; decide) (by (first | (simp only [ASt.ev, tmPut, ↓reduceIte, reduceIte, Nat.reduceEqDiff, plain1, *]; done) | fail)) (by (first | (simp only [ASt.ev, tmPut, ↓reduceIte, reduceIte, Nat.reduceEqDiff, plain1, *]; done) | fail)) (by (first | (simp only [ASt.ev, tmPut, ↓reduceIte, reduceIte, Nat.reduceEqDiff, plain1, *]; done) | fail)) entersWMatch (wordMatchC W0 (hl9.ext hxp hok9) (hvi9.ext hxp hok9) hvs (by omega)).ok ?_)
          rintro v nx10 H10 ⟨⟨rfl, hH10, hx10⟩, hok10⟩
          refine ⟨hxp.trans hx10, ?_⟩
          have hlt := hok10 _ _ hH10
          refine cont _ _ _ (nx9 + 1) nx9 (hxp.trans hx10) hok10 (by omega) hlt (Nat.le_refl _) (by omega) (by omega) hH10 (by rw [hx10.2 nx9 (by omega)]; exact Heap.put_eq) ?_ ?_ ?_ ?_ ?_ ?_ ?_ ?_ ?_ <;> simp [tmPut, *]
      · rintro e st ⟨rfl, tm1, nx10, H10, ba, bb, rfl, e13, e14, hba, hbb, e10, e11, e12⟩
        dsimp only
        have hma : (matchF (kindsOf ss vs)).length = vs.length := by rw [matchF, (matchS_inv (kindsOf ss vs) (kindsOf ss vs).length).len, kindsOf_length]
        have hmb : (matchF (kindsOf ss xs)).length = xs.length := by rw [matchF, (matchS_inv (kindsOf ss xs) (kindsOf ss xs).length).len, kindsOf_length]
        have hkk : kindsOf ss xs = kindsOf ss (vs.take k) ++ kindsOf ss ws ++ kindsOf ss (vs.drop k) := by rw [← hxs]; simp [kindsOf]
        have hkv : kindsOf ss vs = kindsOf ss (vs.take k) ++ kindsOf ss (vs.drop k) := by
          conv => lhs; rw [← List.take_append_drop k vs]
          simp [kindsOf]
        have hins := insert_same (a := kindsOf ss (vs.take k)) (b := kindsOf ss ws) (c := kindsOf ss (vs.drop k)) (kindsOf_mem hws g3) (by rw [kindsOf_length]; exact hbad)
        rw [← hkk, ← hkv, kindsOf_length, kindsOf_length, kindsOf_length, List.length_take, Nat.min_eq_left hk, List.length_drop, show k + (vs.length - k) = vs.length by omega] at hins
        have hAb : ∀ j, j < vs.length → -1 ≤ (matchF (kindsOf ss vs)).getD j 0 ∧ (matchF (kindsOf ss vs)).getD j 0 < vs.length := fun j hj => by
          obtain ⟨s, hs, hp⟩ := pinv (kindsOf ss vs) (kindsOf_mem hvs g3) (kindsOf ss vs).length (Nat.le_refl _)
          by_cases hne : (matchF (kindsOf ss vs)).getD j 0 = -1
          · rw [hne]; omega
          · obtain ⟨q, hq1, hq2, _⟩ := hp.par j (by rw [kindsOf_length]; exact hj) hne
            rw [kindsOf_length] at hq2
            have : (matchF (kindsOf ss vs)).getD j 0 = q := hq1
            omega
        generalize matchF (kindsOf ss vs) = A at *
        generalize matchF (kindsOf ss xs) = B at *
        clear hkk hkv hbad
        repeat (first | (refine OpsL.p (by subst_vars; decide) (by (first | (exact aop_move (by (first | (simp only [ASt.ev, tmPut, ↓reduceIte, reduceIte, Nat.reduceEqDiff, plain1, *]; rfl) | fail))) | (exact aop_len (by (first | (simp only [ASt.ev, tmPut, ↓reduceIte, reduceIte, Nat.reduceEqDiff, plain1, *]; rfl) | fail)) (by exact rfl)) | fail)) ?_) | (refine Trip.seq ?_) | (refine Trip.ops ?_) | fail)
        refine OpsL.p (by subst_vars; decide) (aop_neqF (by (first | (simp only [ASt.ev, tmPut, ↓reduceIte, reduceIte, Nat.reduceEqDiff, plain1, *]; rfl) | fail)) (by (first | (simp only [ASt.ev, tmPut, ↓reduceIte, reduceIte, Nat.reduceEqDiff, plain1, *]; done) | fail)) rfl) ?_
        repeat (first | (refine OpsL.p (by subst_vars; decide) (by (first | (exact aop_move (by (first | (simp only [ASt.ev, tmPut, ↓reduceIte, reduceIte, Nat.reduceEqDiff, plain1, *]; rfl) | fail))) | (exact aop_len (by (first | (simp only [ASt.ev, tmPut, ↓reduceIte, reduceIte, Nat.reduceEqDiff, plain1, *]; rfl) | fail)) (by exact rfl)) | (exact aop_add (by (first | (simp only [ASt.ev, tmPut, ↓reduceIte, reduceIte, Nat.reduceEqDiff, plain1, *]; rfl) | fail)) (by (first | (simp only [ASt.ev, tmPut, ↓reduceIte, reduceIte, Nat.reduceEqDiff, plain1, *]; rfl) | fail)) (by omega)) | fail)) ?_) | (refine OpsL.unguard (by exact rfl) (by (first | (simp only [ASt.ev, tmPut, ↓reduceIte, reduceIte, Nat.reduceEqDiff, decide_true, decide_false, not_true_eq_false, not_false_eq_true, Bool.not_true, Bool.not_false, *]; done) | fail)) ?_) | fail)
        refine OpsL.p (by subst_vars; decide) (aop_neqF (by (first | (simp only [ASt.ev, tmPut, ↓reduceIte, reduceIte, Nat.reduceEqDiff, plain1, *]; rfl) | fail)) (by (first | (simp only [ASt.ev, tmPut, ↓reduceIte, reduceIte, Nat.reduceEqDiff, plain1, *]; rfl) | fail)) (by omega)) ?_
        repeat (first | (refine OpsL.p (by subst_vars; decide) (by (first | (exact aop_pickF (by (first | (simp only [ASt.ev, tmPut, ↓reduceIte, reduceIte, Nat.reduceEqDiff, decide_true, decide_false, not_true_eq_false, not_false_eq_true, Bool.not_true, Bool.not_false, *]; done) | fail)) (by (first | (simp only [ASt.ev, tmPut, ↓reduceIte, reduceIte, Nat.reduceEqDiff, plain1, *]; rfl) | fail))) | fail)) ?_) | (refine OpsL.nil ?_; ((repeat (first | refine blockExit_eq ?_ | refine blockExit_ne (by decide) ?_ | refine blockExit_normal ?_ | refine blockExit_ret ?_ | refine blockExit_goto ?_)); first | (change Trip _ _ _ _ _) | dsimp only | skip)) | fail)
        refine Trip.iteB (b := false) (by (first | (simp only [ASt.ev, tmPut, ↓reduceIte, reduceIte, Nat.reduceEqDiff, decide_true, decide_false, not_true_eq_false, not_false_eq_true, Bool.not_true, Bool.not_false, *]; done) | fail)) (fun h => absurd h (by decide)) (fun _ => ?_)
        repeat (first | (refine OpsL.p (by subst_vars; decide) (by (first | (exact aop_assign (by (first | (simp only [ASt.ev, tmPut, ↓reduceIte, reduceIte, Nat.reduceEqDiff, plain1, *]; rfl) | fail))) | fail)) ?_) | (refine Trip.seq ?_) | (refine Trip.ops ?_) | (refine Trip.block ?_) | (refine Trip.skip ?_; ((repeat (first | refine blockExit_eq ?_ | refine blockExit_ne (by decide) ?_ | refine blockExit_normal ?_ | refine blockExit_ret ?_ | refine blockExit_goto ?_)); first | (change Trip _ _ _ _ _) | dsimp only | skip)) | (refine OpsL.nil ?_; ((repeat (first | refine blockExit_eq ?_ | refine blockExit_ne (by decide) ?_ | refine blockExit_normal ?_ | refine blockExit_ret ?_ | refine blockExit_goto ?_)); first | (change Trip _ _ _ _ _) | dsimp only | skip)) | fail)
        refine Trip.inv (fun (i : Nat) st => ∃ (tm : Nat → Value), st = ⟨tm, n, H10, nx10⟩ ∧ tm 10 = .slice va vs.length vc ∧ tm 11 = .slice wa ws.length wc ∧ tm 12 = .int .i64 k ∧ tm 13 = .slice (some ⟨ba, 0, none⟩) vs.length vs.length ∧ tm 14 = .slice (some ⟨bb, 0, none⟩) xs.length xs.length ∧ tm 15 = .int .i64 i ∧ i ≤ vs.length) (fun i => vs.length - i) 0 ?_ ?_
        · exact ⟨_, rfl, by simp [tmPut, *], by simp [tmPut, *], by simp [tmPut, *], by simp [tmPut, *], by simp [tmPut, *], by simp [tmPut, *], by omega⟩
        · clear e10 e11 e12 e13 e14
          rintro i st ⟨tm, rfl, e10, e11, e12, e13, e14, e15, hi⟩
          by_cases hlt : i < vs.length
          · have hc1 : cellAt H10 ⟨ba, 0 + (i : Int).toNat * 1, none⟩ (.int .i64 (A.getD i 0)) := by
              have := cellAt_own (off := i) hba (by simp; omega)
              rw [List.getElem_map] at this
              rw [List.getD_eq_getElem?_getD, List.getElem?_eq_getElem (by omega)]
              simpa using this
            have hpar := hins i hlt
            have hpb := hAb i hlt
            generalize A.getD i 0 = p at *
            repeat (first | (refine OpsL.p (by subst_vars; decide) (by (first | (exact aop_move (by (first | (simp only [ASt.ev, tmPut, ↓reduceIte, reduceIte, Nat.reduceEqDiff, plain1, *]; rfl) | fail))) | (exact aop_lss (by (first | (simp only [ASt.ev, tmPut, ↓reduceIte, reduceIte, Nat.reduceEqDiff, plain1, *]; rfl) | fail)) (by (first | (simp only [ASt.ev, tmPut, ↓reduceIte, reduceIte, Nat.reduceEqDiff, plain1, *]; rfl) | fail))) | (exact aop_len (by (first | (simp only [ASt.ev, tmPut, ↓reduceIte, reduceIte, Nat.reduceEqDiff, plain1, *]; rfl) | fail)) (by exact rfl)) | fail)) ?_) | (refine Trip.seq ?_) | (refine Trip.ops ?_) | (refine Trip.block ?_) | (refine Trip.ite (by (first | (simp only [ASt.ev, tmPut, ↓reduceIte, reduceIte, Nat.reduceEqDiff, plain1, *]; rfl) | fail)) (fun _ => ?_) (fun _ => ?_)) | (refine Trip.skip ?_; ((repeat (first | refine blockExit_eq ?_ | refine blockExit_ne (by decide) ?_ | refine blockExit_normal ?_ | refine blockExit_ret ?_ | refine blockExit_goto ?_)); first | (change Trip _ _ _ _ _) | dsimp only | skip)) | (refine OpsL.nil ?_; ((repeat (first | refine blockExit_eq ?_ | refine blockExit_ne (by decide) ?_ | refine blockExit_normal ?_ | refine blockExit_ret ?_ | refine blockExit_goto ?_)); first | (change Trip _ _ _ _ _) | dsimp only | skip)) | fail)
            case refine_2 => exfalso; omega
            refine Trip.mono (Q := fun e st => e = .normal ∧ ∃ (tm' : Nat → Value), st = ⟨tm', n, H10, nx10⟩ ∧ tm' 10 = .slice va vs.length vc ∧ tm' 11 = .slice wa ws.length wc ∧ tm' 12 = .int .i64 k ∧ tm' 13 = .slice (some ⟨ba, 0, none⟩) vs.length vs.length ∧ tm' 14 = .slice (some ⟨bb, 0, none⟩) xs.length xs.length ∧ tm' 15 = .int .i64 i ∧ tm' 16 = .int .i64 i ∧ tm' 17 = .int .i64 p) ?_ ?_
            · refine OpsK.drawn (K := fun _ _ => True) fit.mixed (by kernel_rfl) (by kernel_rfl) trivial ?_
              refine OpsK.one rfl (by kernel_rfl) ?_
              repeat (first | (refine OpsL.p (by subst_vars; decide) (by (first | (exact aop_move (by (first | (simp only [ASt.ev, tmPut, ↓reduceIte, reduceIte, Nat.reduceEqDiff, plain1, *]; rfl) | fail))) | fail)) ?_) | (refine OpsL.nil ?_; ((repeat (first | refine blockExit_eq ?_ | refine blockExit_ne (by decide) ?_ | refine blockExit_normal ?_ | refine blockExit_ret ?_ | refine blockExit_goto ?_)); first | (change Trip _ _ _ _ _) | dsimp only | skip)) | fail)
              refine OpsK.one rfl (by kernel_rfl) ?_
              repeat (first | (refine OpsL.p (by subst_vars; decide) (by (first | (exact aop_move (by (first | (simp only [ASt.ev, tmPut, ↓reduceIte, reduceIte, Nat.reduceEqDiff, plain1, *]; rfl) | fail))) | fail)) ?_) | (refine OpsL.nil ?_; ((repeat (first | refine blockExit_eq ?_ | refine blockExit_ne (by decide) ?_ | refine blockExit_normal ?_ | refine blockExit_ret ?_ | refine blockExit_goto ?_)); first | (change Trip _ _ _ _ _) | dsimp only | skip)) | fail)
              refine OpsK.one rfl (by kernel_rfl) ?_
              repeat (first | (refine OpsL.p (by subst_vars; decide) (by (first | (exact aop_move (by (first | (simp only [ASt.ev, tmPut, ↓reduceIte, reduceIte, Nat.reduceEqDiff, plain1, *]; rfl) | fail))) | fail)) ?_) | (refine OpsL.nil ?_; ((repeat (first | refine blockExit_eq ?_ | refine blockExit_ne (by decide) ?_ | refine blockExit_normal ?_ | refine blockExit_ret ?_ | refine blockExit_goto ?_)); first | (change Trip _ _ _ _ _) | dsimp only | skip)) | fail)
              refine OpsK.one rfl (by kernel_rfl) ?_
              repeat (first | (refine OpsL.p (by subst_vars; decide) (by (first | (exact aop_indexAddr (by (first | (simp only [ASt.ev, tmPut, ↓reduceIte, reduceIte, Nat.reduceEqDiff, plain1, *]; rfl) | fail)) (by (first | (simp only [ASt.ev, tmPut, ↓reduceIte, reduceIte, Nat.reduceEqDiff, plain1, *]; rfl) | fail)) (by exact rfl) (by exact rfl) (by omega) (by omega)) | fail)) ?_) | (refine OpsL.nil ?_; ((repeat (first | refine blockExit_eq ?_ | refine blockExit_ne (by decide) ?_ | refine blockExit_normal ?_ | refine blockExit_ret ?_ | refine blockExit_goto ?_)); first | (change Trip _ _ _ _ _) | dsimp only | skip)) | fail)
              refine OpsK.one rfl (by kernel_rfl) ?_
              repeat (first | (refine OpsL.p (by subst_vars; decide) (by (first | (exact aop_load (by (first | (simp only [ASt.ev, tmPut, ↓reduceIte, reduceIte, Nat.reduceEqDiff, plain1, *]; rfl) | fail)) (by exact rfl) rfl (by assumption)) | fail)) ?_) | (refine OpsL.nil ?_; ((repeat (first | refine blockExit_eq ?_ | refine blockExit_ne (by decide) ?_ | refine blockExit_normal ?_ | refine blockExit_ret ?_ | refine blockExit_goto ?_)); first | (change Trip _ _ _ _ _) | dsimp only | skip)) | fail)
              refine OpsK.one rfl (by kernel_rfl) ?_
              repeat (first | (refine OpsL.p (by subst_vars; decide) (by (first | (exact aop_assign (by (first | (simp only [ASt.ev, tmPut, ↓reduceIte, reduceIte, Nat.reduceEqDiff, plain1, *]; rfl) | fail))) | fail)) ?_) | (refine OpsL.nil ?_; ((repeat (first | refine blockExit_eq ?_ | refine blockExit_ne (by decide) ?_ | refine blockExit_normal ?_ | refine blockExit_ret ?_ | refine blockExit_goto ?_)); first | (change Trip _ _ _ _ _) | dsimp only | skip)) | fail)
              refine OpsK.one rfl (by kernel_rfl) ?_
              repeat (first | (refine OpsL.p (by subst_vars; decide) (by (first | (exact aop_assign (by (first | (simp only [ASt.ev, tmPut, ↓reduceIte, reduceIte, Nat.reduceEqDiff, plain1, *]; rfl) | fail))) | fail)) ?_) | (refine OpsL.nil ?_; ((repeat (first | refine blockExit_eq ?_ | refine blockExit_ne (by decide) ?_ | refine blockExit_normal ?_ | refine blockExit_ret ?_ | refine blockExit_goto ?_)); first | (change Trip _ _ _ _ _) | dsimp only | skip)) | fail)
              refine OpsK.nil ?_
              exact ⟨rfl, _, rfl, by simp [tmPut, *], by simp [tmPut, *], by simp [tmPut, *], by simp [tmPut, *], by simp [tmPut, *], by simp [tmPut, *], by simp [tmPut, *], by simp [tmPut, *]⟩
            · rintro e st ⟨rfl, tm', rfl, e10, e11, e12, e13, e14, e15, e16, e17⟩
              dsimp only
              clear hc1
              by_cases hik : k ≤ i
              · by_cases hpk : (k : Int) ≤ p
                · skip
                  have hsn : shiftN k ws.length i = i + ws.length := by unfold shiftN; rw [if_pos (by omega)]
                  have hsi : shiftI k ws.length p = p + (ws.length : Int) := by unfold shiftI; rw [if_pos (by omega)]
                  rw [hsn, hsi] at hpar
                  have hc2 : cellAt H10 ⟨bb, 0 + ((i : Int) + (ws.length : Int)).toNat * 1, none⟩ (.int .i64 (p + (ws.length : Int))) := by
                    have := cellAt_own (off := i + ws.length) hbb (by simp; omega)
                    rw [List.getElem_map] at this
                    rw [List.getD_eq_getElem?_getD, List.getElem?_eq_getElem (by omega), Option.getD_some] at hpar
                    rw [hpar] at this
                    rw [show 0 + ((i : Int) + (ws.length : Int)).toNat * 1 = i + ws.length by omega]
                    exact this
                  repeat (first | (refine OpsL.p (by subst_vars; decide) (by (first | (exact aop_move (by (first | (simp only [ASt.ev, tmPut, ↓reduceIte, reduceIte, Nat.reduceEqDiff, plain1, *]; rfl) | fail))) | fail)) ?_) | (refine Trip.seq ?_) | (refine Trip.ops ?_) | fail)
                  refine OpsL.p (by subst_vars; decide) (aop_geqT (by (first | (simp only [ASt.ev, tmPut, ↓reduceIte, reduceIte, Nat.reduceEqDiff, plain1, *]; rfl) | fail)) (by (first | (simp only [ASt.ev, tmPut, ↓reduceIte, reduceIte, Nat.reduceEqDiff, plain1, *]; rfl) | fail)) (by omega)) ?_
                  repeat (first | (refine OpsL.nil ?_; ((repeat (first | refine blockExit_eq ?_ | refine blockExit_ne (by decide) ?_ | refine blockExit_normal ?_ | refine blockExit_ret ?_ | refine blockExit_goto ?_)); first | (change Trip _ _ _ _ _) | dsimp only | skip)) | fail)
                  refine Trip.iteB (b := true) (by (first | (simp only [ASt.ev, tmPut, ↓reduceIte, reduceIte, Nat.reduceEqDiff, decide_true, decide_false, not_true_eq_false, not_false_eq_true, Bool.not_true, Bool.not_false, *]; done) | fail)) (fun _ => ?_) (fun h => absurd h (by decide))
                  repeat (first | (refine OpsL.p (by subst_vars; decide) (by (first | (exact aop_move (by (first | (simp only [ASt.ev, tmPut, ↓reduceIte, reduceIte, Nat.reduceEqDiff, plain1, *]; rfl) | fail))) | (exact aop_len (by (first | (simp only [ASt.ev, tmPut, ↓reduceIte, reduceIte, Nat.reduceEqDiff, plain1, *]; rfl) | fail)) (by exact rfl)) | (exact aop_add (by (first | (simp only [ASt.ev, tmPut, ↓reduceIte, reduceIte, Nat.reduceEqDiff, plain1, *]; rfl) | fail)) (by (first | (simp only [ASt.ev, tmPut, ↓reduceIte, reduceIte, Nat.reduceEqDiff, plain1, *]; rfl) | fail)) (by omega)) | (exact aop_assign (by (first | (simp only [ASt.ev, tmPut, ↓reduceIte, reduceIte, Nat.reduceEqDiff, plain1, *]; rfl) | fail))) | fail)) ?_) | (refine Trip.seq ?_) | (refine Trip.ops ?_) | (refine OpsL.nil ?_; ((repeat (first | refine blockExit_eq ?_ | refine blockExit_ne (by decide) ?_ | refine blockExit_normal ?_ | refine blockExit_ret ?_ | refine blockExit_goto ?_)); first | (change Trip _ _ _ _ _) | dsimp only | skip)) | fail)
                  refine OpsL.p (by subst_vars; decide) (aop_geqT (by (first | (simp only [ASt.ev, tmPut, ↓reduceIte, reduceIte, Nat.reduceEqDiff, plain1, *]; rfl) | fail)) (by (first | (simp only [ASt.ev, tmPut, ↓reduceIte, reduceIte, Nat.reduceEqDiff, plain1, *]; rfl) | fail)) (by omega)) ?_
                  repeat (first | (refine OpsL.nil ?_; ((repeat (first | refine blockExit_eq ?_ | refine blockExit_ne (by decide) ?_ | refine blockExit_normal ?_ | refine blockExit_ret ?_ | refine blockExit_goto ?_)); first | (change Trip _ _ _ _ _) | dsimp only | skip)) | fail)
                  refine Trip.iteB (b := true) (by (first | (simp only [ASt.ev, tmPut, ↓reduceIte, reduceIte, Nat.reduceEqDiff, decide_true, decide_false, not_true_eq_false, not_false_eq_true, Bool.not_true, Bool.not_false, *]; done) | fail)) (fun _ => ?_) (fun h => absurd h (by decide))
                  repeat (first | (refine OpsL.p (by subst_vars; decide) (by (first | (exact aop_move (by (first | (simp only [ASt.ev, tmPut, ↓reduceIte, reduceIte, Nat.reduceEqDiff, plain1, *]; rfl) | fail))) | (exact aop_len (by (first | (simp only [ASt.ev, tmPut, ↓reduceIte, reduceIte, Nat.reduceEqDiff, plain1, *]; rfl) | fail)) (by exact rfl)) | (exact aop_add (by (first | (simp only [ASt.ev, tmPut, ↓reduceIte, reduceIte, Nat.reduceEqDiff, plain1, *]; rfl) | fail)) (by (first | (simp only [ASt.ev, tmPut, ↓reduceIte, reduceIte, Nat.reduceEqDiff, plain1, *]; rfl) | fail)) (by omega)) | (exact aop_assign (by (first | (simp only [ASt.ev, tmPut, ↓reduceIte, reduceIte, Nat.reduceEqDiff, plain1, *]; rfl) | fail))) | (exact aop_indexAddr (by (first | (simp only [ASt.ev, tmPut, ↓reduceIte, reduceIte, Nat.reduceEqDiff, plain1, *]; rfl) | fail)) (by (first | (simp only [ASt.ev, tmPut, ↓reduceIte, reduceIte, Nat.reduceEqDiff, plain1, *]; rfl) | fail)) (by exact rfl) (by exact rfl) (by omega) (by omega)) | (exact aop_load (by (first | (simp only [ASt.ev, tmPut, ↓reduceIte, reduceIte, Nat.reduceEqDiff, plain1, *]; rfl) | fail)) (by exact rfl) rfl (by assumption)) | fail)) ?_) | (refine Trip.seq ?_) | (refine Trip.ops ?_) | (refine OpsL.nil ?_; ((repeat (first | refine blockExit_eq ?_ | refine blockExit_ne (by decide) ?_ | refine blockExit_normal ?_ | refine blockExit_ret ?_ | refine blockExit_goto ?_)); first | (change Trip _ _ _ _ _) | dsimp only | skip)) | fail)
                  refine OpsL.p (by subst_vars; decide) (aop_neqF (by (first | (simp only [ASt.ev, tmPut, ↓reduceIte, reduceIte, Nat.reduceEqDiff, plain1, *]; rfl) | fail)) (by (first | (simp only [ASt.ev, tmPut, ↓reduceIte, reduceIte, Nat.reduceEqDiff, plain1, *]; done) | fail)) rfl) ?_
                  repeat (first | (refine OpsL.nil ?_; ((repeat (first | refine blockExit_eq ?_ | refine blockExit_ne (by decide) ?_ | refine blockExit_normal ?_ | refine blockExit_ret ?_ | refine blockExit_goto ?_)); first | (change Trip _ _ _ _ _) | dsimp only | skip)) | fail)
                  refine Trip.iteB (b := false) (by (first | (simp only [ASt.ev, tmPut, ↓reduceIte, reduceIte, Nat.reduceEqDiff, decide_true, decide_false, not_true_eq_false, not_false_eq_true, Bool.not_true, Bool.not_false, *]; done) | fail)) (fun h => absurd h (by decide)) (fun _ => ?_)
                  repeat (first | (refine OpsL.p (by subst_vars; decide) (by (first | (exact aop_move (by (first | (simp only [ASt.ev, tmPut, ↓reduceIte, reduceIte, Nat.reduceEqDiff, plain1, *]; rfl) | fail))) | (exact aop_assign (by (first | (simp only [ASt.ev, tmPut, ↓reduceIte, reduceIte, Nat.reduceEqDiff, plain1, *]; rfl) | fail))) | (exact aop_add (by (first | (simp only [ASt.ev, tmPut, ↓reduceIte, reduceIte, Nat.reduceEqDiff, plain1, *]; rfl) | fail)) (by (first | (simp only [ASt.ev, tmPut, ↓reduceIte, reduceIte, Nat.reduceEqDiff, plain1, *]; rfl) | fail)) (by omega)) | fail)) ?_) | (refine Trip.ops ?_) | (refine Trip.skip ?_; ((repeat (first | refine blockExit_eq ?_ | refine blockExit_ne (by decide) ?_ | refine blockExit_normal ?_ | refine blockExit_ret ?_ | refine blockExit_goto ?_)); first | (change Trip _ _ _ _ _) | dsimp only | skip)) | (refine OpsL.nil ?_; ((repeat (first | refine blockExit_eq ?_ | refine blockExit_ne (by decide) ?_ | refine blockExit_normal ?_ | refine blockExit_ret ?_ | refine blockExit_goto ?_)); first | (change Trip _ _ _ _ _) | dsimp only | skip)) | fail)
                  exact ⟨i + 1, ⟨_, rfl, by simp [tmPut, *], by simp [tmPut, *], by simp [tmPut, *], by simp [tmPut, *], by simp [tmPut, *], by simp [tmPut, *], by omega⟩, by omega⟩
                · skip
                  have hsn : shiftN k ws.length i = i + ws.length := by unfold shiftN; rw [if_pos (by omega)]
                  have hsi : shiftI k ws.length p = p := by unfold shiftI; rw [if_neg (by omega)]
                  rw [hsn, hsi] at hpar
                  have hc2 : cellAt H10 ⟨bb, 0 + ((i : Int) + (ws.length : Int)).toNat * 1, none⟩ (.int .i64 (p)) := by
                    have := cellAt_own (off := i + ws.length) hbb (by simp; omega)
                    rw [List.getElem_map] at this
                    rw [List.getD_eq_getElem?_getD, List.getElem?_eq_getElem (by omega), Option.getD_some] at hpar
                    rw [hpar] at this
                    rw [show 0 + ((i : Int) + (ws.length : Int)).toNat * 1 = i + ws.length by omega]
                    exact this
                  repeat (first | (refine OpsL.p (by subst_vars; decide) (by (first | (exact aop_move (by (first | (simp only [ASt.ev, tmPut, ↓reduceIte, reduceIte, Nat.reduceEqDiff, plain1, *]; rfl) | fail))) | fail)) ?_) | (refine Trip.seq ?_) | (refine Trip.ops ?_) | fail)
                  refine OpsL.p (by subst_vars; decide) (aop_geqT (by (first | (simp only [ASt.ev, tmPut, ↓reduceIte, reduceIte, Nat.reduceEqDiff, plain1, *]; rfl) | fail)) (by (first | (simp only [ASt.ev, tmPut, ↓reduceIte, reduceIte, Nat.reduceEqDiff, plain1, *]; rfl) | fail)) (by omega)) ?_
                  repeat (first | (refine OpsL.nil ?_; ((repeat (first | refine blockExit_eq ?_ | refine blockExit_ne (by decide) ?_ | refine blockExit_normal ?_ | refine blockExit_ret ?_ | refine blockExit_goto ?_)); first | (change Trip _ _ _ _ _) | dsimp only | skip)) | fail)
                  refine Trip.iteB (b := true) (by (first | (simp only [ASt.ev, tmPut, ↓reduceIte, reduceIte, Nat.reduceEqDiff, decide_true, decide_false, not_true_eq_false, not_false_eq_true, Bool.not_true, Bool.not_false, *]; done) | fail)) (fun _ => ?_) (fun h => absurd h (by decide))
                  repeat (first | (refine OpsL.p (by subst_vars; decide) (by (first | (exact aop_move (by (first | (simp only [ASt.ev, tmPut, ↓reduceIte, reduceIte, Nat.reduceEqDiff, plain1, *]; rfl) | fail))) | (exact aop_len (by (first | (simp only [ASt.ev, tmPut, ↓reduceIte, reduceIte, Nat.reduceEqDiff, plain1, *]; rfl) | fail)) (by exact rfl)) | (exact aop_add (by (first | (simp only [ASt.ev, tmPut, ↓reduceIte, reduceIte, Nat.reduceEqDiff, plain1, *]; rfl) | fail)) (by (first | (simp only [ASt.ev, tmPut, ↓reduceIte, reduceIte, Nat.reduceEqDiff, plain1, *]; rfl) | fail)) (by omega)) | (exact aop_assign (by (first | (simp only [ASt.ev, tmPut, ↓reduceIte, reduceIte, Nat.reduceEqDiff, plain1, *]; rfl) | fail))) | fail)) ?_) | (refine Trip.seq ?_) | (refine Trip.ops ?_) | (refine OpsL.nil ?_; ((repeat (first | refine blockExit_eq ?_ | refine blockExit_ne (by decide) ?_ | refine blockExit_normal ?_ | refine blockExit_ret ?_ | refine blockExit_goto ?_)); first | (change Trip _ _ _ _ _) | dsimp only | skip)) | fail)
                  refine OpsL.p (by subst_vars; decide) (aop_geqF (by (first | (simp only [ASt.ev, tmPut, ↓reduceIte, reduceIte, Nat.reduceEqDiff, plain1, *]; rfl) | fail)) (by (first | (simp only [ASt.ev, tmPut, ↓reduceIte, reduceIte, Nat.reduceEqDiff, plain1, *]; rfl) | fail)) (by omega)) ?_
                  repeat (first | (refine OpsL.nil ?_; ((repeat (first | refine blockExit_eq ?_ | refine blockExit_ne (by decide) ?_ | refine blockExit_normal ?_ | refine blockExit_ret ?_ | refine blockExit_goto ?_)); first | (change Trip _ _ _ _ _) | dsimp only | skip)) | fail)
                  refine Trip.iteB (b := false) (by (first | (simp only [ASt.ev, tmPut, ↓reduceIte, reduceIte, Nat.reduceEqDiff, decide_true, decide_false, not_true_eq_false, not_false_eq_true, Bool.not_true, Bool.not_false, *]; done) | fail)) (fun h => absurd h (by decide)) (fun _ => ?_)
                  repeat (first | (refine OpsL.p (by subst_vars; decide) (by (first | (exact aop_move (by (first | (simp only [ASt.ev, tmPut, ↓reduceIte, reduceIte, Nat.reduceEqDiff, plain1, *]; rfl) | fail))) | (exact aop_indexAddr (by (first | (simp only [ASt.ev, tmPut, ↓reduceIte, reduceIte, Nat.reduceEqDiff, plain1, *]; rfl) | fail)) (by (first | (simp only [ASt.ev, tmPut, ↓reduceIte, reduceIte, Nat.reduceEqDiff, plain1, *]; rfl) | fail)) (by exact rfl) (by exact rfl) (by omega) (by omega)) | (exact aop_load (by (first | (simp only [ASt.ev, tmPut, ↓reduceIte, reduceIte, Nat.reduceEqDiff, plain1, *]; rfl) | fail)) (by exact rfl) rfl (by assumption)) | fail)) ?_) | (refine Trip.seq ?_) | (refine Trip.ops ?_) | (refine Trip.skip ?_; ((repeat (first | refine blockExit_eq ?_ | refine blockExit_ne (by decide) ?_ | refine blockExit_normal ?_ | refine blockExit_ret ?_ | refine blockExit_goto ?_)); first | (change Trip _ _ _ _ _) | dsimp only | skip)) | fail)
                  refine OpsL.p (by subst_vars; decide) (aop_neqF (by (first | (simp only [ASt.ev, tmPut, ↓reduceIte, reduceIte, Nat.reduceEqDiff, plain1, *]; rfl) | fail)) (by (first | (simp only [ASt.ev, tmPut, ↓reduceIte, reduceIte, Nat.reduceEqDiff, plain1, *]; done) | fail)) rfl) ?_
                  repeat (first | (refine OpsL.nil ?_; ((repeat (first | refine blockExit_eq ?_ | refine blockExit_ne (by decide) ?_ | refine blockExit_normal ?_ | refine blockExit_ret ?_ | refine blockExit_goto ?_)); first | (change Trip _ _ _ _ _) | dsimp only | skip)) | fail)
                  refine Trip.iteB (b := false) (by (first | (simp only [ASt.ev, tmPut, ↓reduceIte, reduceIte, Nat.reduceEqDiff, decide_true, decide_false, not_true_eq_false, not_false_eq_true, Bool.not_true, Bool.not_false, *]; done) | fail)) (fun h => absurd h (by decide)) (fun _ => ?_)
                  repeat (first | (refine OpsL.p (by subst_vars; decide) (by (first | (exact aop_move (by (first | (simp only [ASt.ev, tmPut, ↓reduceIte, reduceIte, Nat.reduceEqDiff, plain1, *]; rfl) | fail))) | (exact aop_assign (by (first | (simp only [ASt.ev, tmPut, ↓reduceIte, reduceIte, Nat.reduceEqDiff, plain1, *]; rfl) | fail))) | (exact aop_add (by (first | (simp only [ASt.ev, tmPut, ↓reduceIte, reduceIte, Nat.reduceEqDiff, plain1, *]; rfl) | fail)) (by (first | (simp only [ASt.ev, tmPut, ↓reduceIte, reduceIte, Nat.reduceEqDiff, plain1, *]; rfl) | fail)) (by omega)) | fail)) ?_) | (refine Trip.ops ?_) | (refine Trip.skip ?_; ((repeat (first | refine blockExit_eq ?_ | refine blockExit_ne (by decide) ?_ | refine blockExit_normal ?_ | refine blockExit_ret ?_ | refine blockExit_goto ?_)); first | (change Trip _ _ _ _ _) | dsimp only | skip)) | (refine OpsL.nil ?_; ((repeat (first | refine blockExit_eq ?_ | refine blockExit_ne (by decide) ?_ | refine blockExit_normal ?_ | refine blockExit_ret ?_ | refine blockExit_goto ?_)); first | (change Trip _ _ _ _ _) | dsimp only | skip)) | fail)
                  exact ⟨i + 1, ⟨_, rfl, by simp [tmPut, *], by simp [tmPut, *], by simp [tmPut, *], by simp [tmPut, *], by simp [tmPut, *], by simp [tmPut, *], by omega⟩, by omega⟩
              · by_cases hpk : (k : Int) ≤ p
                · skip
                  have hsn : shiftN k ws.length i = i := by unfold shiftN; rw [if_neg (by omega)]
                  have hsi : shiftI k ws.length p = p + (ws.length : Int) := by unfold shiftI; rw [if_pos (by omega)]
                  rw [hsn, hsi] at hpar
                  have hc2 : cellAt H10 ⟨bb, 0 + ((i : Int)).toNat * 1, none⟩ (.int .i64 (p + (ws.length : Int))) := by
                    have := cellAt_own (off := i) hbb (by simp; omega)
                    rw [List.getElem_map] at this
                    rw [List.getD_eq_getElem?_getD, List.getElem?_eq_getElem (by omega), Option.getD_some] at hpar
                    rw [hpar] at this
                    rw [show 0 + ((i : Int)).toNat * 1 = i by omega]
                    exact this
                  repeat (first | (refine OpsL.p (by subst_vars; decide) (by (first | (exact aop_move (by (first | (simp only [ASt.ev, tmPut, ↓reduceIte, reduceIte, Nat.reduceEqDiff, plain1, *]; rfl) | fail))) | fail)) ?_) | (refine Trip.seq ?_) | (refine Trip.ops ?_) | fail)
                  refine OpsL.p (by subst_vars; decide) (aop_geqF (by (first | (simp only [ASt.ev, tmPut, ↓reduceIte, reduceIte, Nat.reduceEqDiff, plain1, *]; rfl) | fail)) (by (first | (simp only [ASt.ev, tmPut, ↓reduceIte, reduceIte, Nat.reduceEqDiff, plain1, *]; rfl) | fail)) (by omega)) ?_
                  repeat (first | (refine OpsL.nil ?_; ((repeat (first | refine blockExit_eq ?_ | refine blockExit_ne (by decide) ?_ | refine blockExit_normal ?_ | refine blockExit_ret ?_ | refine blockExit_goto ?_)); first | (change Trip _ _ _ _ _) | dsimp only | skip)) | fail)
                  refine Trip.iteB (b := false) (by (first | (simp only [ASt.ev, tmPut, ↓reduceIte, reduceIte, Nat.reduceEqDiff, decide_true, decide_false, not_true_eq_false, not_false_eq_true, Bool.not_true, Bool.not_false, *]; done) | fail)) (fun h => absurd h (by decide)) (fun _ => ?_)
                  repeat (first | (refine OpsL.p (by subst_vars; decide) (by (first | (exact aop_move (by (first | (simp only [ASt.ev, tmPut, ↓reduceIte, reduceIte, Nat.reduceEqDiff, plain1, *]; rfl) | fail))) | fail)) ?_) | (refine Trip.seq ?_) | (refine Trip.ops ?_) | (refine Trip.skip ?_; ((repeat (first | refine blockExit_eq ?_ | refine blockExit_ne (by decide) ?_ | refine blockExit_normal ?_ | refine blockExit_ret ?_ | refine blockExit_goto ?_)); first | (change Trip _ _ _ _ _) | dsimp only | skip)) | fail)
                  refine OpsL.p (by subst_vars; decide) (aop_geqT (by (first | (simp only [ASt.ev, tmPut, ↓reduceIte, reduceIte, Nat.reduceEqDiff, plain1, *]; rfl) | fail)) (by (first | (simp only [ASt.ev, tmPut, ↓reduceIte, reduceIte, Nat.reduceEqDiff, plain1, *]; rfl) | fail)) (by omega)) ?_
                  repeat (first | (refine OpsL.nil ?_; ((repeat (first | refine blockExit_eq ?_ | refine blockExit_ne (by decide) ?_ | refine blockExit_normal ?_ | refine blockExit_ret ?_ | refine blockExit_goto ?_)); first | (change Trip _ _ _ _ _) | dsimp only | skip)) | fail)
                  refine Trip.iteB (b := true) (by (first | (simp only [ASt.ev, tmPut, ↓reduceIte, reduceIte, Nat.reduceEqDiff, decide_true, decide_false, not_true_eq_false, not_false_eq_true, Bool.not_true, Bool.not_false, *]; done) | fail)) (fun _ => ?_) (fun h => absurd h (by decide))
                  repeat (first | (refine OpsL.p (by subst_vars; decide) (by (first | (exact aop_move (by (first | (simp only [ASt.ev, tmPut, ↓reduceIte, reduceIte, Nat.reduceEqDiff, plain1, *]; rfl) | fail))) | (exact aop_len (by (first | (simp only [ASt.ev, tmPut, ↓reduceIte, reduceIte, Nat.reduceEqDiff, plain1, *]; rfl) | fail)) (by exact rfl)) | (exact aop_add (by (first | (simp only [ASt.ev, tmPut, ↓reduceIte, reduceIte, Nat.reduceEqDiff, plain1, *]; rfl) | fail)) (by (first | (simp only [ASt.ev, tmPut, ↓reduceIte, reduceIte, Nat.reduceEqDiff, plain1, *]; rfl) | fail)) (by omega)) | (exact aop_assign (by (first | (simp only [ASt.ev, tmPut, ↓reduceIte, reduceIte, Nat.reduceEqDiff, plain1, *]; rfl) | fail))) | (exact aop_indexAddr (by (first | (simp only [ASt.ev, tmPut, ↓reduceIte, reduceIte, Nat.reduceEqDiff, plain1, *]; rfl) | fail)) (by (first | (simp only [ASt.ev, tmPut, ↓reduceIte, reduceIte, Nat.reduceEqDiff, plain1, *]; rfl) | fail)) (by exact rfl) (by exact rfl) (by omega) (by omega)) | (exact aop_load (by (first | (simp only [ASt.ev, tmPut, ↓reduceIte, reduceIte, Nat.reduceEqDiff, plain1, *]; rfl) | fail)) (by exact rfl) rfl (by assumption)) | fail)) ?_) | (refine Trip.seq ?_) | (refine Trip.ops ?_) | (refine OpsL.nil ?_; ((repeat (first | refine blockExit_eq ?_ | refine blockExit_ne (by decide) ?_ | refine blockExit_normal ?_ | refine blockExit_ret ?_ | refine blockExit_goto ?_)); first | (change Trip _ _ _ _ _) | dsimp only | skip)) | fail)
                  refine OpsL.p (by subst_vars; decide) (aop_neqF (by (first | (simp only [ASt.ev, tmPut, ↓reduceIte, reduceIte, Nat.reduceEqDiff, plain1, *]; rfl) | fail)) (by (first | (simp only [ASt.ev, tmPut, ↓reduceIte, reduceIte, Nat.reduceEqDiff, plain1, *]; done) | fail)) rfl) ?_
                  repeat (first | (refine OpsL.nil ?_; ((repeat (first | refine blockExit_eq ?_ | refine blockExit_ne (by decide) ?_ | refine blockExit_normal ?_ | refine blockExit_ret ?_ | refine blockExit_goto ?_)); first | (change Trip _ _ _ _ _) | dsimp only | skip)) | fail)
                  refine Trip.iteB (b := false) (by (first | (simp only [ASt.ev, tmPut, ↓reduceIte, reduceIte, Nat.reduceEqDiff, decide_true, decide_false, not_true_eq_false, not_false_eq_true, Bool.not_true, Bool.not_false, *]; done) | fail)) (fun h => absurd h (by decide)) (fun _ => ?_)
                  repeat (first | (refine OpsL.p (by subst_vars; decide) (by (first | (exact aop_move (by (first | (simp only [ASt.ev, tmPut, ↓reduceIte, reduceIte, Nat.reduceEqDiff, plain1, *]; rfl) | fail))) | (exact aop_assign (by (first | (simp only [ASt.ev, tmPut, ↓reduceIte, reduceIte, Nat.reduceEqDiff, plain1, *]; rfl) | fail))) | (exact aop_add (by (first | (simp only [ASt.ev, tmPut, ↓reduceIte, reduceIte, Nat.reduceEqDiff, plain1, *]; rfl) | fail)) (by (first | (simp only [ASt.ev, tmPut, ↓reduceIte, reduceIte, Nat.reduceEqDiff, plain1, *]; rfl) | fail)) (by omega)) | fail)) ?_) | (refine Trip.ops ?_) | (refine Trip.skip ?_; ((repeat (first | refine blockExit_eq ?_ | refine blockExit_ne (by decide) ?_ | refine blockExit_normal ?_ | refine blockExit_ret ?_ | refine blockExit_goto ?_)); first | (change Trip _ _ _ _ _) | dsimp only | skip)) | (refine OpsL.nil ?_; ((repeat (first | refine blockExit_eq ?_ | refine blockExit_ne (by decide) ?_ | refine blockExit_normal ?_ | refine blockExit_ret ?_ | refine blockExit_goto ?_)); first | (change Trip _ _ _ _ _) | dsimp only | skip)) | fail)
                  exact ⟨i + 1, ⟨_, rfl, by simp [tmPut, *], by simp [tmPut, *], by simp [tmPut, *], by simp [tmPut, *], by simp [tmPut, *], by simp [tmPut, *], by omega⟩, by omega⟩
                · skip
                  have hsn : shiftN k ws.length i = i := by unfold shiftN; rw [if_neg (by omega)]
                  have hsi : shiftI k ws.length p = p := by unfold shiftI; rw [if_neg (by omega)]
                  rw [hsn, hsi] at hpar
                  have hc2 : cellAt H10 ⟨bb, 0 + ((i : Int)).toNat * 1, none⟩ (.int .i64 (p)) := by
                    have := cellAt_own (off := i) hbb (by simp; omega)
                    rw [List.getElem_map] at this
                    rw [List.getD_eq_getElem?_getD, List.getElem?_eq_getElem (by omega), Option.getD_some] at hpar
                    rw [hpar] at this
                    rw [show 0 + ((i : Int)).toNat * 1 = i by omega]
                    exact this
                  repeat (first | (refine OpsL.p (by subst_vars; decide) (by (first | (exact aop_move (by (first | (simp only [ASt.ev, tmPut, ↓reduceIte, reduceIte, Nat.reduceEqDiff, plain1, *]; rfl) | fail))) | fail)) ?_) | (refine Trip.seq ?_) | (refine Trip.ops ?_) | fail)
                  refine OpsL.p (by subst_vars; decide) (aop_geqF (by (first | (simp only [ASt.ev, tmPut, ↓reduceIte, reduceIte, Nat.reduceEqDiff, plain1, *]; rfl) | fail)) (by (first | (simp only [ASt.ev, tmPut, ↓reduceIte, reduceIte, Nat.reduceEqDiff, plain1, *]; rfl) | fail)) (by omega)) ?_
                  repeat (first | (refine OpsL.nil ?_; ((repeat (first | refine blockExit_eq ?_ | refine blockExit_ne (by decide) ?_ | refine blockExit_normal ?_ | refine blockExit_ret ?_ | refine blockExit_goto ?_)); first | (change Trip _ _ _ _ _) | dsimp only | skip)) | fail)
                  refine Trip.iteB (b := false) (by (first | (simp only [ASt.ev, tmPut, ↓reduceIte, reduceIte, Nat.reduceEqDiff, decide_true, decide_false, not_true_eq_false, not_false_eq_true, Bool.not_true, Bool.not_false, *]; done) | fail)) (fun h => absurd h (by decide)) (fun _ => ?_)
                  repeat (first | (refine OpsL.p (by subst_vars; decide) (by (first | (exact aop_move (by (first | (simp only [ASt.ev, tmPut, ↓reduceIte, reduceIte, Nat.reduceEqDiff, plain1, *]; rfl) | fail))) | fail)) ?_) | (refine Trip.seq ?_) | (refine Trip.ops ?_) | (refine Trip.skip ?_; ((repeat (first | refine blockExit_eq ?_ | refine blockExit_ne (by decide) ?_ | refine blockExit_normal ?_ | refine blockExit_ret ?_ | refine blockExit_goto ?_)); first | (change Trip _ _ _ _ _) | dsimp only | skip)) | fail)
                  refine OpsL.p (by subst_vars; decide) (aop_geqF (by (first | (simp only [ASt.ev, tmPut, ↓reduceIte, reduceIte, Nat.reduceEqDiff, plain1, *]; rfl) | fail)) (by (first | (simp only [ASt.ev, tmPut, ↓reduceIte, reduceIte, Nat.reduceEqDiff, plain1, *]; rfl) | fail)) (by omega)) ?_
                  repeat (first | (refine OpsL.nil ?_; ((repeat (first | refine blockExit_eq ?_ | refine blockExit_ne (by decide) ?_ | refine blockExit_normal ?_ | refine blockExit_ret ?_ | refine blockExit_goto ?_)); first | (change Trip _ _ _ _ _) | dsimp only | skip)) | fail)
                  refine Trip.iteB (b := false) (by (first | (simp only [ASt.ev, tmPut, ↓reduceIte, reduceIte, Nat.reduceEqDiff, decide_true, decide_false, not_true_eq_false, not_false_eq_true, Bool.not_true, Bool.not_false, *]; done) | fail)) (fun h => absurd h (by decide)) (fun _ => ?_)
                  repeat (first | (refine OpsL.p (by subst_vars; decide) (by (first | (exact aop_move (by (first | (simp only [ASt.ev, tmPut, ↓reduceIte, reduceIte, Nat.reduceEqDiff, plain1, *]; rfl) | fail))) | (exact aop_indexAddr (by (first | (simp only [ASt.ev, tmPut, ↓reduceIte, reduceIte, Nat.reduceEqDiff, plain1, *]; rfl) | fail)) (by (first | (simp only [ASt.ev, tmPut, ↓reduceIte, reduceIte, Nat.reduceEqDiff, plain1, *]; rfl) | fail)) (by exact rfl) (by exact rfl) (by omega) (by omega)) | (exact aop_load (by (first | (simp only [ASt.ev, tmPut, ↓reduceIte, reduceIte, Nat.reduceEqDiff, plain1, *]; rfl) | fail)) (by exact rfl) rfl (by assumption)) | fail)) ?_) | (refine Trip.seq ?_) | (refine Trip.ops ?_) | (refine Trip.skip ?_; ((repeat (first | refine blockExit_eq ?_ | refine blockExit_ne (by decide) ?_ | refine blockExit_normal ?_ | refine blockExit_ret ?_ | refine blockExit_goto ?_)); first | (change Trip _ _ _ _ _) | dsimp only | skip)) | fail)
                  refine OpsL.p (by subst_vars; decide) (aop_neqF (by (first | (simp only [ASt.ev, tmPut, ↓reduceIte, reduceIte, Nat.reduceEqDiff, plain1, *]; rfl) | fail)) (by (first | (simp only [ASt.ev, tmPut, ↓reduceIte, reduceIte, Nat.reduceEqDiff, plain1, *]; done) | fail)) rfl) ?_
                  repeat (first | (refine OpsL.nil ?_; ((repeat (first | refine blockExit_eq ?_ | refine blockExit_ne (by decide) ?_ | refine blockExit_normal ?_ | refine blockExit_ret ?_ | refine blockExit_goto ?_)); first | (change Trip _ _ _ _ _) | dsimp only | skip)) | fail)
                  refine Trip.iteB (b := false) (by (first | (simp only [ASt.ev, tmPut, ↓reduceIte, reduceIte, Nat.reduceEqDiff, decide_true, decide_false, not_true_eq_false, not_false_eq_true, Bool.not_true, Bool.not_false, *]; done) | fail)) (fun h => absurd h (by decide)) (fun _ => ?_)
                  repeat (first | (refine OpsL.p (by subst_vars; decide) (by (first | (exact aop_move (by (first | (simp only [ASt.ev, tmPut, ↓reduceIte, reduceIte, Nat.reduceEqDiff, plain1, *]; rfl) | fail))) | (exact aop_assign (by (first | (simp only [ASt.ev, tmPut, ↓reduceIte, reduceIte, Nat.reduceEqDiff, plain1, *]; rfl) | fail))) | (exact aop_add (by (first | (simp only [ASt.ev, tmPut, ↓reduceIte, reduceIte, Nat.reduceEqDiff, plain1, *]; rfl) | fail)) (by (first | (simp only [ASt.ev, tmPut, ↓reduceIte, reduceIte, Nat.reduceEqDiff, plain1, *]; rfl) | fail)) (by omega)) | fail)) ?_) | (refine Trip.ops ?_) | (refine Trip.skip ?_; ((repeat (first | refine blockExit_eq ?_ | refine blockExit_ne (by decide) ?_ | refine blockExit_normal ?_ | refine blockExit_ret ?_ | refine blockExit_goto ?_)); first | (change Trip _ _ _ _ _) | dsimp only | skip)) | (refine OpsL.nil ?_; ((repeat (first | refine blockExit_eq ?_ | refine blockExit_ne (by decide) ?_ | refine blockExit_normal ?_ | refine blockExit_ret ?_ | refine blockExit_goto ?_)); first | (change Trip _ _ _ _ _) | dsimp only | skip)) | fail)
                  exact ⟨i + 1, ⟨_, rfl, by simp [tmPut, *], by simp [tmPut, *], by simp [tmPut, *], by simp [tmPut, *], by simp [tmPut, *], by simp [tmPut, *], by omega⟩, by omega⟩
          · repeat' (first | (refine OpsL.p (by subst_vars; decide) (by (first | (exact aop_move (by (first | (simp only [ASt.ev, tmPut, ↓reduceIte, reduceIte, Nat.reduceEqDiff, plain1, *]; rfl) | fail))) | (exact aop_assign (by (first | (simp only [ASt.ev, tmPut, ↓reduceIte, reduceIte, Nat.reduceEqDiff, plain1, *]; rfl) | fail))) | (exact aop_lss (by (first | (simp only [ASt.ev, tmPut, ↓reduceIte, reduceIte, Nat.reduceEqDiff, plain1, *]; rfl) | fail)) (by (first | (simp only [ASt.ev, tmPut, ↓reduceIte, reduceIte, Nat.reduceEqDiff, plain1, *]; rfl) | fail))) | (exact aop_len (by (first | (simp only [ASt.ev, tmPut, ↓reduceIte, reduceIte, Nat.reduceEqDiff, plain1, *]; rfl) | fail)) (by exact rfl)) | fail)) ?_) | (refine Trip.seq ?_) | (refine Trip.ops ?_) | (refine Trip.block ?_) | (refine Trip.ite (by (first | (simp only [ASt.ev, tmPut, ↓reduceIte, reduceIte, Nat.reduceEqDiff, plain1, *]; rfl) | fail)) (fun _ => ?_) (fun _ => ?_)) | (refine Trip.skip ?_; ((repeat (first | refine blockExit_eq ?_ | refine blockExit_ne (by decide) ?_ | refine blockExit_normal ?_ | refine blockExit_ret ?_ | refine blockExit_goto ?_)); first | (change Trip _ _ _ _ _) | dsimp only | skip)) | (refine Trip.exit ?_; ((repeat (first | refine blockExit_eq ?_ | refine blockExit_ne (by decide) ?_ | refine blockExit_normal ?_ | refine blockExit_ret ?_ | refine blockExit_goto ?_)); first | (change Trip _ _ _ _ _) | dsimp only | skip)) | (refine Trip.ret ?_; ((repeat (first | refine blockExit_eq ?_ | refine blockExit_ne (by decide) ?_ | refine blockExit_normal ?_ | refine blockExit_ret ?_ | refine blockExit_goto ?_)); first | (change Trip _ _ _ _ _) | dsimp only | skip)) | (refine OpsL.nil ?_; ((repeat (first | refine blockExit_eq ?_ | refine blockExit_ne (by decide) ?_ | refine blockExit_normal ?_ | refine blockExit_ret ?_ | refine blockExit_goto ?_)); first | (change Trip _ _ _ _ _) | dsimp only | skip)) | fail)
            case refine_1 => exfalso; omega
            exact ⟨.inr rfl, _, res_tmp, by simp [tmPut]⟩

theorem core (W0 : World) (nx : Nat) (H : Heap) (a0 : Int) (w0 : (Lit.int .i64 a0).wf = true) (x1 : List Int) (w1 : ∀ x ∈ x1, (Lit.int .i64 x).wf = true) (x2 : List Int) (w2 : ∀ x ∈ x2, (Lit.int .i64 x).wf = true) (a3 : Int) (w3 : (Lit.int .i64 a3).wf = true) (us : List Value)
    (hat : All2 (Arg.at H) [.plain (.int .i64 a0), .ints .i64 x1, .ints .i64 x2, .plain (.int .i64 a3)] us) (_ : ∀ id o, H id = some o → id < nx) : ACalls Try.prog W0 6 us nx H fun v _ _ => v = .bool true := by
  obtain ⟨u0, us, rfl, h0, hat⟩ := hat.cons
  obtain ⟨u1, us, rfl, h1, hat⟩ := hat.cons
  obtain ⟨u2, us, rfl, h2, hat⟩ := hat.cons
  obtain ⟨u3, us, rfl, h3, hat⟩ := hat.cons
  obtain rfl := hat.nil
  obtain rfl : u0 = _ := h0
  obtain rfl : u3 = _ := h3
  exact law W0 h1.1 h2.1

theorem own : ownKnob Try.prog.godebug = none := by kernel_rfl
theorem laidOut : laidOutB Try.prog = true := by kernel_rfl
theorem cells_ints : Try.prog.cellsOf 3 = 1 := by kernel_rfl

set_option maxRecDepth 100000 in
theorem lifted (os : Os) (started : os.Started) (H : Type) (enc : TypeId × Value → H) :
    ReturnsInHanded {} Try.checked os 6 .any (Rows.wordPartsSpec.pre6 enc Try.prog Try.f6 Rows.wordPartsRow.domain false) (Rows.wordPartsSpec.post enc Try.prog Try.f6 false true false false) := by
  refine returnsInHanded_of_change (C := Try.checked) own started (by kernel_rfl) Try.func6
    (ChangeSpec.witness6 (enc := enc) (C := Try.checked) false ⟨#[], #[.int .i64 0, .slice none 0 0, .slice none 0 0, .int .i64 0], []⟩ 8 (by kernel_rfl) (by kernel_rfl) (by kernel_rfl) (by kernel_rfl)) ?_
  intro W base args ds gs before hval0 hW _ _
  have hval : ∀ (j : Nat) t v, Try.f6.params[j]? = some t → args[j]? = some v → Value.okWide Try.prog W .any base t v := hval0
  have hW' := hW
  obtain ⟨p, q, hA0, hV, rfl, _, _⟩ := hW
  have hA : DataW.TrodAll enc Try.prog W 0 (fun _ => true) true Try.f6.params.toList args.toList ds p := hA0
  rw [Try.params6] at hA hval
  obtain ⟨v0, vs0, d0, ds0, p0, q0, hargs, rfl, rfl, h0, r0⟩ := trodAll_cons hA
  obtain ⟨v1, vs1, d1, ds1, p1, q1, rfl, rfl, rfl, h1, r1⟩ := trodAll_cons r0
  obtain ⟨v2, vs2, d2, ds2, p2, q2, rfl, rfl, rfl, h2, r2⟩ := trodAll_cons r1
  obtain ⟨v3, vs3, d3, ds3, p3, q3, rfl, rfl, rfl, h3, r3⟩ := trodAll_cons r2
  obtain ⟨rfl, rfl, rfl⟩ := trodAll_nil r3
  obtain rfl : args = #[v0, v1, v2, v3] := by cases args; simp_all
  obtain ⟨rfl, rfl⟩ := trodVars_none hV
  obtain ⟨a0, rfl, rfl, rfl, w0⟩ := open_int Try.underlying3 (hval 0 3 v0 rfl rfl) h0
  obtain ⟨x1, c1, w1⟩ := came_ints Try.underlying22 Try.underlying3 cells_ints (hval 1 22 v1 rfl rfl) h1
  obtain ⟨x2, c2, w2⟩ := came_ints Try.underlying22 Try.underlying3 cells_ints (hval 2 22 v2 rfl rfl) h2
  obtain ⟨a3, rfl, rfl, rfl, w3⟩ := open_int Try.underlying3 (hval 3 3 v3 rfl rfl) h3
  clear hA0 hval0
  refine (law_calls (ars := [.plain (.int .i64 a0), .ints .i64 x1, .ints .i64 x2, .plain (.int .i64 a3)]) (vs := [_, _, _, _]) ⟨⟨rfl, rfl⟩, c1, c2, ⟨rfl, rfl⟩, trivial⟩ (fun nx H us hat hok => core W nx H a0 w0 x1 w1 x2 w2 a3 w3 us hat hok)).mono fun e W' ⟨he, hg⟩ => ?_
  subst he
  exact ⟨_, rfl, law_post laidOut (by kernel_rfl) rfl Try.underlying4 rfl hW' rfl hg⟩

theorem over : Rows.wordPartsRow.holds Try.pinned (OpenSpec.ofChange Rows.wordPartsSpec) :=
  OpenClaim.holds_of_wide 6 Try.f6 rfl rfl rfl rfl rfl rfl rfl ⟨rfl, rfl, rfl, rfl, rfl⟩ rfl rfl rfl rfl rfl (by kernel_rfl) Try.func6 (by kernel_rfl)
    (of_decide_eq_true (by kernel_rfl)) (by unfold Func.isWrapper; first | (rw [if_pos (by decide +kernel)]; kernel_rfl) | (rw [if_neg (by decide +kernel)]; exact ⟨rfl, rfl⟩))
    (fun os started H enc _ => lifted os started H enc)

theorem proved : Rows.WordPartsSaid := over
#print axioms proved

end Go.Proofs.Ytngekapiemkgnaa.wordParts
