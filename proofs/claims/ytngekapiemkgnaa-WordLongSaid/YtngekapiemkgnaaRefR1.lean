/-
  Chapter 1: the document's Read is the plain one.
-/
import Derived.Test.YtngekapiemkgnaaRefP1
import Derived.Test.YtngekapiemkgnaaAmZK
namespace Go.Proofs.Ytngekapiemkgnaa
set_option linter.unusedSimpArgs false
set_option linter.unusedVariables false
open Go.Am Go.RowKit
attribute [local irreducible] aop OpsL Trip blockExit OpsD OpsK

theorem entersRead : Enters Try.prog 31 := ⟨Try.f31, Try.func31, by kernel_rfl, by kernel_rfl⟩

theorem res_c1 {P : Program} {st : ASt} {t : Tmp} {ty : TypeId} {a : Addr} {v : Value} {x : Tmp} (ht : st.tm t = .pointer (some a)) (hr : readAt P st.H ty a = some v) : aResults P st #[.cell t ty, .tmp x] = some (.tuple #[v, st.tm x]) := by simp [aResults, aResultL, aResult, ht, hr]

theorem aop_neqStr {H : Heap} {nx : Nat} {ev : Operand → Option Value} {dst : Option Tmp} {type : TypeId} {pos : String} {after : Array Edge} {guard : Option (Nat × Bool)} {t u : TypeId} {x y : Operand} {a b : ByteArray} (hx : ev x = some (.string a)) (hy : ev y = some (.string b)) (hu : Try.prog.underlying t = some .string) :
    aop Try.prog H nx ev ⟨dst, .binOp .neq t x y u, type, pos, after, guard⟩ = some (.bool (decide (¬ bs a = bs b)), .none) := by
  have : aString .neq a b = some (.bool (decide (¬ bs a = bs b))) := by
    have h2 := sEq_bs a b
    by_cases h : bs a = bs b <;> simp [aString, h2, h]
  simp [aop, hx, hy, aBin, this]

def isBr (l : List Int) : Prop := l.head? = some 60 ∧ l.getLast? = some 62
instance (l : List Int) : Decidable (isBr l) := by unfold isBr; infer_instance

set_option maxRecDepth 20000 in
set_option maxHeartbeats 4000000 in
theorem readC (W0 : World) {nx : Nat} {H : Heap} {s : ByteArray} (hs : (bs s).length ≤ 1000000) :
    ACalls Try.prog W0 31 [.string s] nx H fun v nx' H' => ∃ (t : ByteArray) (k : Int), v = .tuple #[symV (t, k), .bool (decide (okName (bs t)))] ∧ (bs t, k) = rawF (bs s) ∧ nx' = nx + 2 ∧ Ext nx H nx' H' := by
  refine ACalls.by_trip (fn := Try.f31) (c := _) Try.func31 rfl (fun tm n hn0 htm => ?_)
  have e0 : tm 0 = .string s := htm 0
  clear htm
  replace hn0 : n = 46 := hn0
  refine Trip.seq (Trip.ops ?_)
  repeat fail
  refine OpsL.new (by subst_vars; decide) (aop_alloc (by exact rfl)) ?_
  repeat (first | (refine OpsL.p (by subst_vars; decide) (by (first | (exact aop_move (by (first | (simp only [ASt.ev, tmPut, ↓reduceIte, reduceIte, Nat.reduceEqDiff, plain1, *]; rfl) | fail))) | (exact aop_assign (by (first | (simp only [ASt.ev, tmPut, ↓reduceIte, reduceIte, Nat.reduceEqDiff, plain1, *]; rfl) | fail))) | fail)) ?_) | (refine Trip.seq ?_) | (refine Trip.ops ?_) | (refine OpsL.nil ?_; ((repeat (first | refine blockExit_eq ?_ | refine blockExit_ne (by decide) ?_ | refine blockExit_normal ?_ | refine blockExit_ret ?_ | refine blockExit_goto ?_)); first | (change Trip _ _ _ _ _) | dsimp only | skip)) | fail)
  refine OpsL.p (by subst_vars; decide) (aop_build (v := .agg #[.string s, .int .i64 3]) (l := [(0, .string s), (1, .int .i64 3)]) (by simp only [evParts, ASt.ev, tmPut, ↓reduceIte, reduceIte, Option.some.injEq, Nat.reduceEqDiff, plain1, *]; rfl) (by exact rfl)) ?_
  refine OpsL.new (by subst_vars; decide) (aop_alloc (by exact rfl)) ?_
  refine OpsL.upd (aop_store (by (first | (simp only [ASt.ev, tmPut, ↓reduceIte, reduceIte, Nat.reduceEqDiff, plain1, *]; rfl) | fail)) (by (first | (simp only [ASt.ev, tmPut, ↓reduceIte, reduceIte, Nat.reduceEqDiff, plain1, *]; rfl) | fail)) (by exact rfl) rfl (by simp [setc, Heap.put_eq, Value.cells]; exact ⟨⟨rfl, rfl⟩, rfl⟩)) ?_
  (first | (refine OpsL.nil ?_; ((repeat (first | refine blockExit_eq ?_ | refine blockExit_ne (by decide) ?_ | refine blockExit_normal ?_ | refine blockExit_ret ?_ | refine blockExit_goto ?_)); first | (change Trip _ _ _ _ _) | dsimp only | skip)) | fail)
  ((repeat (first | refine blockExit_eq ?_ | refine blockExit_ne (by decide) ?_ | refine blockExit_normal ?_ | refine blockExit_ret ?_ | refine blockExit_goto ?_)); first | (change Trip _ _ _ _ _) | dsimp only | skip)
  generalize hG : ((H.put nx _).put (nx + 1) _).put (nx + 1) _ = G
  have g1 : G (nx + 1) = some (boxO (s, 3)) := by rw [← hG, Heap.put_eq]; rfl
  have g0 : G nx = some (boxO (⟨#[]⟩, 0)) := by rw [← hG, Heap.put_ne (by omega), Heap.put_ne (by omega), Heap.put_eq]; rfl
  have gx : Ext nx H (nx + 1 + 1) G := ⟨by omega, fun i hi => by rw [← hG, Heap.put_ne (by omega), Heap.put_ne (by omega), Heap.put_ne (by omega)]⟩
  clear hG
  refine Trip.seq ?_
  refine Trip.mono (Q := fun e st => e = .normal ∧ ∃ (tm' : Nat → Value) (t : ByteArray) (k : Int) (G' : Heap), st = ⟨tm', n, G', nx + 1 + 1⟩ ∧ (bs t, k) = rawF (bs s) ∧ G' (nx + 1) = some (boxO (t, k)) ∧ G' nx = some (boxO (⟨#[]⟩, 0)) ∧ Ext nx H (nx + 1 + 1) G' ∧ tm' 2 = .pointer (some ⟨nx, 0, none⟩) ∧ tm' 4 = .pointer (some ⟨nx + 1, 0, none⟩)) ?_ ?_
  · refine Trip.seq ?_
    refine Trip.mono (Q := fun e st => e = .normal ∧ ∃ (tm' : Nat → Value), st = ⟨tm', n, G, nx + 1 + 1⟩ ∧ tm' 0 = .string s ∧ tm' 2 = .pointer (some ⟨nx, 0, none⟩) ∧ tm' 4 = .pointer (some ⟨nx + 1, 0, none⟩) ∧ tm' 21 = .bool (decide (isBr (bs s)))) ?_ ?_
    · refine Trip.ops ?_
      (first | (refine OpsL.p (by subst_vars; decide) (by (first | (exact aop_move (by (first | (simp only [ASt.ev, tmPut, ↓reduceIte, reduceIte, Nat.reduceEqDiff, plain1, *]; rfl) | fail))) | fail)) ?_) | fail)
      refine OpsL.p (by subst_vars; decide) (aop_neqStr (by (first | (simp only [ASt.ev, tmPut, ↓reduceIte, reduceIte, Nat.reduceEqDiff, plain1, *]; rfl) | fail)) (by (first | (simp only [ASt.ev, tmPut, ↓reduceIte, reduceIte, Nat.reduceEqDiff, plain1, *]; rfl) | fail)) (by exact rfl)) ?_
      have hd0 : bs s = bs ⟨#[]⟩ → ¬ isBr (bs s) := fun h => by rw [h]; decide
      repeat' (first | (refine OpsL.p (by subst_vars; decide) (by (first | (exact aop_move (by (first | (simp only [ASt.ev, tmPut, ↓reduceIte, reduceIte, Nat.reduceEqDiff, plain1, *]; rfl) | fail))) | (exact aop_pickF (by (first | (simp only [ASt.ev, tmPut, ↓reduceIte, reduceIte, Nat.reduceEqDiff, decide_true, decide_false, not_true_eq_false, not_false_eq_true, Bool.not_true, Bool.not_false, *]; done) | fail)) (by (first | (simp only [ASt.ev, tmPut, ↓reduceIte, reduceIte, Nat.reduceEqDiff, plain1, *]; rfl) | fail))) | fail)) ?_) | (refine OpsL.nil ?_; ((repeat (first | refine blockExit_eq ?_ | refine blockExit_ne (by decide) ?_ | refine blockExit_normal ?_ | refine blockExit_ret ?_ | refine blockExit_goto ?_)); first | (change Trip _ _ _ _ _) | dsimp only | skip)) | (refine OpsL.unguard (by exact rfl) (by (first | (simp only [ASt.ev, tmPut, ↓reduceIte, reduceIte, Nat.reduceEqDiff, decide_true, decide_false, not_true_eq_false, not_false_eq_true, Bool.not_true, Bool.not_false, *]; done) | fail)) ?_) | (refine OpsL.skipped (by exact rfl) (by (first | (simp only [ASt.ev, tmPut, ↓reduceIte, reduceIte, Nat.reduceEqDiff, decide_true, decide_false, not_true_eq_false, not_false_eq_true, Bool.not_true, Bool.not_false, *]; done) | fail)) (by subst_vars; decide) ?_) | (refine OpsL.guardT (by exact rfl) (by (first | (simp only [ASt.ev, tmPut, ↓reduceIte, reduceIte, Nat.reduceEqDiff, plain1, *]; rfl) | fail)) (by subst_vars; decide) (fun _ => ?_) (fun _ => ?_)) | fail)
      · rename_i h1
        replace h1 : ¬ bs s = bs ⟨#[]⟩ := h1
        obtain ⟨c, r, hcr⟩ : ∃ c r, bs s = c :: r := by
          cases hb : bs s with
          | nil => exact absurd hb h1
          | cons c r => exact ⟨c, r, rfl⟩
        have hc0 : (bs s)[(0 : Int).toNat]? = some c := by rw [hcr]; rfl
        obtain ⟨d, hd⟩ : ∃ d, (bs s)[((bs s).length - 1 : Int).toNat]? = some d := ⟨_, List.getElem?_eq_getElem (by rw [hcr, List.length_cons]; omega)⟩
        have hlast : (bs s).getLast? = some d := by
          rw [List.getLast?_eq_getElem?, ← hd]; congr 1; omega
        have hbr : isBr (bs s) ↔ c = 60 ∧ d = 62 := by unfold isBr; rw [hlast, hcr]; simp
        have hl1 : 1 ≤ (bs s).length := by rw [hcr, List.length_cons]; omega
        clear hcr
        refine OpsL.p (by subst_vars; decide) (aop_indexS (by (first | (simp only [ASt.ev, tmPut, ↓reduceIte, reduceIte, Nat.reduceEqDiff, plain1, *]; done) | fail)) (by (first | (simp only [ASt.ev, tmPut, ↓reduceIte, reduceIte, Nat.reduceEqDiff, plain1, *]; rfl) | fail)) (by exact rfl) (by omega) hc0) ?_
        repeat' (first | (refine OpsL.p (by subst_vars; decide) (by (first | (exact aop_move (by (first | (simp only [ASt.ev, tmPut, ↓reduceIte, reduceIte, Nat.reduceEqDiff, plain1, *]; rfl) | fail))) | (exact aop_eql (by (first | (simp only [ASt.ev, tmPut, ↓reduceIte, reduceIte, Nat.reduceEqDiff, plain1, *]; rfl) | fail)) (by (first | (simp only [ASt.ev, tmPut, ↓reduceIte, reduceIte, Nat.reduceEqDiff, plain1, *]; rfl) | fail))) | (exact aop_sub (by (first | (simp only [ASt.ev, tmPut, ↓reduceIte, reduceIte, Nat.reduceEqDiff, plain1, *]; rfl) | fail)) (by (first | (simp only [ASt.ev, tmPut, ↓reduceIte, reduceIte, Nat.reduceEqDiff, plain1, *]; rfl) | fail)) (by omega)) | (exact aop_lenB (by (first | (simp only [ASt.ev, tmPut, ↓reduceIte, reduceIte, Nat.reduceEqDiff, plain1, *]; rfl) | fail)) (by exact rfl)) | (exact aop_pickT (by (first | (simp only [ASt.ev, tmPut, ↓reduceIte, reduceIte, Nat.reduceEqDiff, decide_true, decide_false, not_true_eq_false, not_false_eq_true, Bool.not_true, Bool.not_false, *]; done) | fail)) (by (first | (simp only [ASt.ev, tmPut, ↓reduceIte, reduceIte, Nat.reduceEqDiff, plain1, *]; rfl) | fail))) | (exact aop_pickF (by (first | (simp only [ASt.ev, tmPut, ↓reduceIte, reduceIte, Nat.reduceEqDiff, decide_true, decide_false, not_true_eq_false, not_false_eq_true, Bool.not_true, Bool.not_false, *]; done) | fail)) (by (first | (simp only [ASt.ev, tmPut, ↓reduceIte, reduceIte, Nat.reduceEqDiff, plain1, *]; rfl) | fail))) | fail)) ?_) | (refine OpsL.nil ?_; ((repeat (first | refine blockExit_eq ?_ | refine blockExit_ne (by decide) ?_ | refine blockExit_normal ?_ | refine blockExit_ret ?_ | refine blockExit_goto ?_)); first | (change Trip _ _ _ _ _) | dsimp only | skip)) | (refine OpsL.unguard (by exact rfl) (by (first | (simp only [ASt.ev, tmPut, ↓reduceIte, reduceIte, Nat.reduceEqDiff, decide_true, decide_false, not_true_eq_false, not_false_eq_true, Bool.not_true, Bool.not_false, *]; done) | fail)) ?_) | (refine OpsL.skipped (by exact rfl) (by (first | (simp only [ASt.ev, tmPut, ↓reduceIte, reduceIte, Nat.reduceEqDiff, decide_true, decide_false, not_true_eq_false, not_false_eq_true, Bool.not_true, Bool.not_false, *]; done) | fail)) (by subst_vars; decide) ?_) | (refine OpsL.guardT (by exact rfl) (by (first | (simp only [ASt.ev, tmPut, ↓reduceIte, reduceIte, Nat.reduceEqDiff, plain1, *]; rfl) | fail)) (by subst_vars; decide) (fun _ => ?_) (fun _ => ?_)) | fail)
        · rename_i hc
          refine OpsL.p (by subst_vars; decide) (aop_indexS (by (first | (simp only [ASt.ev, tmPut, ↓reduceIte, reduceIte, Nat.reduceEqDiff, plain1, *]; done) | fail)) (by (first | (simp only [ASt.ev, tmPut, ↓reduceIte, reduceIte, Nat.reduceEqDiff, plain1, *]; rfl) | fail)) (by exact rfl) (by omega) hd) ?_
          repeat' (first | (refine OpsL.p (by subst_vars; decide) (by (first | (exact aop_eql (by (first | (simp only [ASt.ev, tmPut, ↓reduceIte, reduceIte, Nat.reduceEqDiff, plain1, *]; rfl) | fail)) (by (first | (simp only [ASt.ev, tmPut, ↓reduceIte, reduceIte, Nat.reduceEqDiff, plain1, *]; rfl) | fail))) | (exact aop_pickT (by (first | (simp only [ASt.ev, tmPut, ↓reduceIte, reduceIte, Nat.reduceEqDiff, decide_true, decide_false, not_true_eq_false, not_false_eq_true, Bool.not_true, Bool.not_false, *]; done) | fail)) (by (first | (simp only [ASt.ev, tmPut, ↓reduceIte, reduceIte, Nat.reduceEqDiff, plain1, *]; rfl) | fail))) | fail)) ?_) | (refine OpsL.nil ?_; ((repeat (first | refine blockExit_eq ?_ | refine blockExit_ne (by decide) ?_ | refine blockExit_normal ?_ | refine blockExit_ret ?_ | refine blockExit_goto ?_)); first | (change Trip _ _ _ _ _) | dsimp only | skip)) | (refine OpsL.unguard (by exact rfl) (by (first | (simp only [ASt.ev, tmPut, ↓reduceIte, reduceIte, Nat.reduceEqDiff, decide_true, decide_false, not_true_eq_false, not_false_eq_true, Bool.not_true, Bool.not_false, *]; done) | fail)) ?_) | fail)
          refine ⟨rfl, _, rfl, by simp [tmPut, *], by simp [tmPut, *], by simp [tmPut, *], ?_⟩
          simp [tmPut, *]
        · refine ⟨rfl, _, rfl, by simp [tmPut, *], by simp [tmPut, *], by simp [tmPut, *], ?_⟩
          simp [tmPut, *]
      all_goals refine ⟨rfl, _, rfl, by simp [tmPut, *], by simp [tmPut, *], by simp [tmPut, *], ?_⟩
      all_goals rename_i hx
      all_goals rw [decide_eq_false (hd0 (Decidable.not_not.1 hx))]
      all_goals rfl
    · rintro e st ⟨rfl, tm', rfl, e0, e2, e4, e21⟩
      dsimp only
      repeat' (first | (refine OpsL.p (by subst_vars; decide) (by (first | (exact aop_move (by (first | (simp only [ASt.ev, tmPut, ↓reduceIte, reduceIte, Nat.reduceEqDiff, plain1, *]; rfl) | fail))) | (exact aop_sub (by (first | (simp only [ASt.ev, tmPut, ↓reduceIte, reduceIte, Nat.reduceEqDiff, plain1, *]; rfl) | fail)) (by (first | (simp only [ASt.ev, tmPut, ↓reduceIte, reduceIte, Nat.reduceEqDiff, plain1, *]; rfl) | fail)) (by omega)) | (exact aop_lenB (by (first | (simp only [ASt.ev, tmPut, ↓reduceIte, reduceIte, Nat.reduceEqDiff, plain1, *]; rfl) | fail)) (by exact rfl)) | fail)) ?_) | (refine Trip.seq ?_) | (refine Trip.ops ?_) | (refine Trip.ite (by (first | (simp only [ASt.ev, tmPut, ↓reduceIte, reduceIte, Nat.reduceEqDiff, plain1, *]; rfl) | fail)) (fun _ => ?_) (fun _ => ?_)) | (refine Trip.skip ?_; ((repeat (first | refine blockExit_eq ?_ | refine blockExit_ne (by decide) ?_ | refine blockExit_normal ?_ | refine blockExit_ret ?_ | refine blockExit_goto ?_)); first | (change Trip _ _ _ _ _) | dsimp only | skip)) | fail)
      · rename_i hbr
        have hl2 : 2 ≤ (bs s).length := by
          obtain ⟨a, b⟩ := hbr
          cases hb : bs s with
          | nil => rw [hb] at a; cases a
          | cons c r =>
            cases r with
            | nil => rw [hb] at a b; simp at a b; omega
            | cons d r => simp
        refine OpsL.p (by subst_vars; decide) (aop_slice (a := some (.int .i64 (1 : Nat))) (b := some (.int .i64 ((bs s).length - 1 : Nat))) (c := none) (by (first | (simp only [ASt.ev, tmPut, ↓reduceIte, reduceIte, Nat.reduceEqDiff, plain1, *]; rfl) | fail)) (by simp only [evOpt, ASt.ev, tmPut, ↓reduceIte, reduceIte, Option.some.injEq, Nat.reduceEqDiff, Option.map_some]; rfl) (by simp only [evOpt, ASt.ev, tmPut, ↓reduceIte, reduceIte, Option.some.injEq, Nat.reduceEqDiff, Option.map_some]; congr 3; omega) rfl (aSlice_str (by exact rfl) (by omega) (by omega))) ?_
        refine OpsL.p (by subst_vars; decide) (aop_build (v := .agg #[.string (esubstr s 1 ((bs s).length - 1)), .int .i64 1]) (l := [(0, .string (esubstr s 1 ((bs s).length - 1))), (1, .int .i64 1)]) (by simp only [evParts, ASt.ev, tmPut, ↓reduceIte, reduceIte, Option.some.injEq, Nat.reduceEqDiff, *]; rfl) (by exact rfl)) ?_
        refine OpsL.upd (aop_store (a := ⟨nx + 1, 0, none⟩) (u := symV (esubstr s 1 ((bs s).length - 1), 1)) (k := 2) (by (first | (simp only [ASt.ev, tmPut, ↓reduceIte, reduceIte, Nat.reduceEqDiff, plain1, *]; done) | fail)) (by (first | (simp only [ASt.ev, tmPut, ↓reduceIte, reduceIte, Nat.reduceEqDiff, plain1, *]; rfl) | fail)) (by exact rfl) rfl (by simp [setc, g1, boxO, symV, Value.cells]; exact ⟨⟨rfl, rfl⟩, rfl⟩)) ?_
        have hsub : bs (esubstr s 1 ((bs s).length - 1)) = ((bs s).drop 1).take ((bs s).length - 1 - 1) := bs_sub _ _ _
        have hbr' : (bs s).head? = some 60 ∧ (bs s).getLast? = some 62 := hbr
        repeat' (first | (refine OpsL.p (by subst_vars; decide) (by (first | (exact aop_move (by (first | (simp only [ASt.ev, tmPut, ↓reduceIte, reduceIte, Nat.reduceEqDiff, plain1, *]; rfl) | fail))) | (exact aop_gtr (by (first | (simp only [ASt.ev, tmPut, ↓reduceIte, reduceIte, Nat.reduceEqDiff, plain1, *]; rfl) | fail)) (by (first | (simp only [ASt.ev, tmPut, ↓reduceIte, reduceIte, Nat.reduceEqDiff, plain1, *]; rfl) | fail))) | (exact aop_lenB (by (first | (simp only [ASt.ev, tmPut, ↓reduceIte, reduceIte, Nat.reduceEqDiff, plain1, *]; rfl) | fail)) (by exact rfl)) | (exact aop_pickF (by (first | (simp only [ASt.ev, tmPut, ↓reduceIte, reduceIte, Nat.reduceEqDiff, decide_true, decide_false, not_true_eq_false, not_false_eq_true, Bool.not_true, Bool.not_false, *]; done) | fail)) (by (first | (simp only [ASt.ev, tmPut, ↓reduceIte, reduceIte, Nat.reduceEqDiff, plain1, *]; rfl) | fail))) | fail)) ?_) | (refine Trip.seq ?_) | (refine Trip.ops ?_) | (refine OpsL.nil ?_; ((repeat (first | refine blockExit_eq ?_ | refine blockExit_ne (by decide) ?_ | refine blockExit_normal ?_ | refine blockExit_ret ?_ | refine blockExit_goto ?_)); first | (change Trip _ _ _ _ _) | dsimp only | skip)) | (refine OpsL.unguard (by exact rfl) (by (first | (simp only [ASt.ev, tmPut, ↓reduceIte, reduceIte, Nat.reduceEqDiff, decide_true, decide_false, not_true_eq_false, not_false_eq_true, Bool.not_true, Bool.not_false, *]; done) | fail)) ?_) | (refine OpsL.skipped (by exact rfl) (by (first | (simp only [ASt.ev, tmPut, ↓reduceIte, reduceIte, Nat.reduceEqDiff, decide_true, decide_false, not_true_eq_false, not_false_eq_true, Bool.not_true, Bool.not_false, *]; done) | fail)) (by subst_vars; decide) ?_) | (refine OpsL.guardT (by exact rfl) (by (first | (simp only [ASt.ev, tmPut, ↓reduceIte, reduceIte, Nat.reduceEqDiff, plain1, *]; rfl) | fail)) (by subst_vars; decide) (fun _ => ?_) (fun _ => ?_)) | fail)
        · rename_i h2
          obtain ⟨d, hd⟩ : ∃ d, (bs s)[(1 : Int).toNat]? = some d := ⟨_, List.getElem?_eq_getElem (by show 1 < _; omega)⟩
          refine OpsL.p (by subst_vars; decide) (aop_indexS (by (first | (simp only [ASt.ev, tmPut, ↓reduceIte, reduceIte, Nat.reduceEqDiff, plain1, *]; done) | fail)) (by (first | (simp only [ASt.ev, tmPut, ↓reduceIte, reduceIte, Nat.reduceEqDiff, plain1, *]; rfl) | fail)) (by exact rfl) (by omega) hd) ?_
          repeat' (first | (refine OpsL.p (by subst_vars; decide) (by (first | (exact aop_move (by (first | (simp only [ASt.ev, tmPut, ↓reduceIte, reduceIte, Nat.reduceEqDiff, plain1, *]; rfl) | fail))) | (exact aop_eql (by (first | (simp only [ASt.ev, tmPut, ↓reduceIte, reduceIte, Nat.reduceEqDiff, plain1, *]; rfl) | fail)) (by (first | (simp only [ASt.ev, tmPut, ↓reduceIte, reduceIte, Nat.reduceEqDiff, plain1, *]; rfl) | fail))) | (exact aop_sub (by (first | (simp only [ASt.ev, tmPut, ↓reduceIte, reduceIte, Nat.reduceEqDiff, plain1, *]; rfl) | fail)) (by (first | (simp only [ASt.ev, tmPut, ↓reduceIte, reduceIte, Nat.reduceEqDiff, plain1, *]; rfl) | fail)) (by omega)) | (exact aop_lenB (by (first | (simp only [ASt.ev, tmPut, ↓reduceIte, reduceIte, Nat.reduceEqDiff, plain1, *]; rfl) | fail)) (by exact rfl)) | (exact aop_pickT (by (first | (simp only [ASt.ev, tmPut, ↓reduceIte, reduceIte, Nat.reduceEqDiff, decide_true, decide_false, not_true_eq_false, not_false_eq_true, Bool.not_true, Bool.not_false, *]; done) | fail)) (by (first | (simp only [ASt.ev, tmPut, ↓reduceIte, reduceIte, Nat.reduceEqDiff, plain1, *]; rfl) | fail))) | fail)) ?_) | (refine Trip.ops ?_) | (refine Trip.ite (by (first | (simp only [ASt.ev, tmPut, ↓reduceIte, reduceIte, Nat.reduceEqDiff, plain1, *]; rfl) | fail)) (fun _ => ?_) (fun _ => ?_)) | (refine Trip.skip ?_; ((repeat (first | refine blockExit_eq ?_ | refine blockExit_ne (by decide) ?_ | refine blockExit_normal ?_ | refine blockExit_ret ?_ | refine blockExit_goto ?_)); first | (change Trip _ _ _ _ _) | dsimp only | skip)) | (refine OpsL.nil ?_; ((repeat (first | refine blockExit_eq ?_ | refine blockExit_ne (by decide) ?_ | refine blockExit_normal ?_ | refine blockExit_ret ?_ | refine blockExit_goto ?_)); first | (change Trip _ _ _ _ _) | dsimp only | skip)) | (refine OpsL.unguard (by exact rfl) (by (first | (simp only [ASt.ev, tmPut, ↓reduceIte, reduceIte, Nat.reduceEqDiff, decide_true, decide_false, not_true_eq_false, not_false_eq_true, Bool.not_true, Bool.not_false, *]; done) | fail)) ?_) | fail)
          · rename_i hd47
            refine OpsL.p (by subst_vars; decide) (aop_slice (a := some (.int .i64 (2 : Nat))) (b := some (.int .i64 ((bs s).length - 1 : Nat))) (c := none) (by (first | (simp only [ASt.ev, tmPut, ↓reduceIte, reduceIte, Nat.reduceEqDiff, plain1, *]; rfl) | fail)) (by simp only [evOpt, ASt.ev, tmPut, ↓reduceIte, reduceIte, Option.some.injEq, Nat.reduceEqDiff, Option.map_some]; rfl) (by simp only [evOpt, ASt.ev, tmPut, ↓reduceIte, reduceIte, Option.some.injEq, Nat.reduceEqDiff, Option.map_some]; congr 3; omega) rfl (aSlice_str (by exact rfl) (by omega) (by omega))) ?_
            refine OpsL.p (by subst_vars; decide) (aop_build (v := .agg #[.string (esubstr s 2 ((bs s).length - 1)), .int .i64 2]) (l := [(0, .string (esubstr s 2 ((bs s).length - 1))), (1, .int .i64 2)]) (by simp only [evParts, ASt.ev, tmPut, ↓reduceIte, reduceIte, Option.some.injEq, Nat.reduceEqDiff, *]; rfl) (by exact rfl)) ?_
            refine OpsL.upd (aop_store (a := ⟨nx + 1, 0, none⟩) (u := symV (esubstr s 2 ((bs s).length - 1), 2)) (k := 2) (by (first | (simp only [ASt.ev, tmPut, ↓reduceIte, reduceIte, Nat.reduceEqDiff, plain1, *]; done) | fail)) (by (first | (simp only [ASt.ev, tmPut, ↓reduceIte, reduceIte, Nat.reduceEqDiff, plain1, *]; rfl) | fail)) (by exact rfl) rfl (by simp [setc, Heap.put_eq, boxO, symV, Value.cells]; exact ⟨⟨rfl, rfl⟩, rfl⟩)) ?_
            have hsub2 : bs (esubstr s 2 ((bs s).length - 1)) = ((bs s).drop 2).take ((bs s).length - 1 - 2) := bs_sub _ _ _
            repeat' (first | (refine OpsL.nil ?_; ((repeat (first | refine blockExit_eq ?_ | refine blockExit_ne (by decide) ?_ | refine blockExit_normal ?_ | refine blockExit_ret ?_ | refine blockExit_goto ?_)); first | (change Trip _ _ _ _ _) | dsimp only | skip)) | fail)
            refine ⟨rfl, _, esubstr s 2 ((bs s).length - 1), 2, _, rfl, ?_, Heap.put_eq, ?_, ?_, by simp [tmPut, *], by simp [tmPut, *]⟩
            · unfold rawF
              rw [if_pos hbr', if_pos ⟨by omega, by rw [← hd47]; exact hd⟩, hsub2]
            · rw [Heap.put_ne (show nx ≠ nx + 1 by omega), Heap.put_ne (show nx ≠ nx + 1 by omega)]; exact g0
            · exact (gx.put (show nx ≤ nx + 1 by omega)).put (show nx ≤ nx + 1 by omega)
          · rename_i hd47
            refine ⟨rfl, _, esubstr s 1 ((bs s).length - 1), 1, _, rfl, ?_, Heap.put_eq, ?_, ?_, by simp [tmPut, *], by simp [tmPut, *]⟩
            · unfold rawF
              rw [if_pos hbr', if_neg (fun h => hd47 (by have := h.2.symm.trans hd; simpa using this.symm)), hsub]
            · rw [Heap.put_ne (show nx ≠ nx + 1 by omega)]; exact g0
            · exact gx.put (show nx ≤ nx + 1 by omega)
        · rename_i h2
          refine Trip.iteB (b := false) (by (first | (simp only [ASt.ev, tmPut, ↓reduceIte, reduceIte, Nat.reduceEqDiff, decide_true, decide_false, not_true_eq_false, not_false_eq_true, Bool.not_true, Bool.not_false, *]; done) | fail)) (fun h => absurd h (by decide)) (fun _ => ?_)
          repeat' (first | (refine Trip.skip ?_; ((repeat (first | refine blockExit_eq ?_ | refine blockExit_ne (by decide) ?_ | refine blockExit_normal ?_ | refine blockExit_ret ?_ | refine blockExit_goto ?_)); first | (change Trip _ _ _ _ _) | dsimp only | skip)) | fail)
          refine ⟨rfl, _, esubstr s 1 ((bs s).length - 1), 1, _, rfl, ?_, Heap.put_eq, ?_, ?_, by simp [tmPut, *], by simp [tmPut, *]⟩
          · unfold rawF
            rw [if_pos hbr', if_neg (fun h => h2 (by omega)), hsub]
          · rw [Heap.put_ne (show nx ≠ nx + 1 by omega)]; exact g0
          · exact gx.put (show nx ≤ nx + 1 by omega)
      · rename_i hbr
        refine ⟨rfl, _, s, 3, _, rfl, ?_, g1, g0, gx, by simp [tmPut, *], by simp [tmPut, *]⟩
        have hbr' : ¬ ((bs s).head? = some 60 ∧ (bs s).getLast? = some 62) := hbr
        unfold rawF
        rw [if_neg hbr']
  · rintro e st ⟨rfl, tm', t, k, G', rfl, hr, g1', g0', gx', e2, e4⟩
    dsimp only
    repeat (first | (refine Trip.seq ?_) | fail)
    have hlt : (bs t).length ≤ (bs s).length := by
      have : (bs t) = (rawF (bs s)).1 := by rw [← hr]
      rw [this]; unfold rawF
      split
      · split <;> (simp only [List.length_take, List.length_drop]; omega)
      · exact Nat.le_refl _
    have hK : getc G' ⟨nx + 1, 0, none⟩ 2 = some [.string t, .int .i64 k] := by simp [getc, g1', boxO]
    refine OpsK.drawn (K := fun _ H' => getc H' ⟨nx + 1, 0, none⟩ 2 = some [.string t, .int .i64 k]) fit.mixed (by kernel_rfl) (by kernel_rfl) hK ?_
    refine OpsK.sp (by subst_vars; decide) rfl (fun H' nx' hx => aop_loadAgg (k := 2) (by (first | (simp only [ASt.ev, tmPut, ↓reduceIte, reduceIte, Nat.reduceEqDiff, plain1, *]; done) | fail)) (by exact rfl) rfl (by exact rfl) hx) ?_
    refine OpsK.one rfl (by kernel_rfl) ?_
    repeat (first | (refine OpsL.p (by subst_vars; decide) (by (first | (exact aop_fieldAddr (by (first | (simp only [ASt.ev, tmPut, ↓reduceIte, reduceIte, Nat.reduceEqDiff, plain1, *]; rfl) | fail)) (by exact rfl)) | fail)) ?_) | (refine OpsL.nil ?_; ((repeat (first | refine blockExit_eq ?_ | refine blockExit_ne (by decide) ?_ | refine blockExit_normal ?_ | refine blockExit_ret ?_ | refine blockExit_goto ?_)); first | (change Trip _ _ _ _ _) | dsimp only | skip)) | fail)
    refine OpsK.sp (by subst_vars; decide) rfl (fun H' nx' hx => aop_load (by (first | (simp only [ASt.ev, tmPut, ↓reduceIte, reduceIte, Nat.reduceEqDiff, plain1, *]; rfl) | fail)) (by exact rfl) rfl (cellAt0_of_getc hx)) ?_
    refine OpsK.call1 (by subst_vars; decide) rfl (by (first | (simp only [ASt.ev, tmPut, ↓reduceIte, reduceIte, Nat.reduceEqDiff, plain1, *]; rfl) | fail)) entersLetters (lettersC W0 (by omega)) hK ?_
    refine OpsK.upd (by kernel_rfl) (aop_store (a := ⟨nx, 0, none⟩) (u := symV (t, k)) (k := 2) (by (first | (simp only [ASt.ev, tmPut, ↓reduceIte, reduceIte, Nat.reduceEqDiff, plain1, *]; done) | fail)) (by (first | (simp only [ASt.ev, tmPut, ↓reduceIte, reduceIte, Nat.reduceEqDiff, plain1, *]; rfl) | fail)) (by exact rfl) rfl (by simp [setc, g0', boxO, symV, Value.cells]; exact ⟨⟨rfl, rfl⟩, rfl⟩)) ?_ ?_
    · show getc (Heap.put _ nx _) _ 2 = _
      rw [getc_put (by show nx + 1 ≠ nx; omega)]
      exact hK
    refine OpsK.one rfl (by kernel_rfl) ?_
    repeat (first | (refine OpsL.p (by subst_vars; decide) (by (first | (exact aop_assign (by (first | (simp only [ASt.ev, tmPut, ↓reduceIte, reduceIte, Nat.reduceEqDiff, plain1, *]; rfl) | fail))) | fail)) ?_) | (refine OpsL.nil ?_; ((repeat (first | refine blockExit_eq ?_ | refine blockExit_ne (by decide) ?_ | refine blockExit_normal ?_ | refine blockExit_ret ?_ | refine blockExit_goto ?_)); first | (change Trip _ _ _ _ _) | dsimp only | skip)) | fail)
    refine OpsK.nil ?_
    ((repeat (first | refine blockExit_eq ?_ | refine blockExit_ne (by decide) ?_ | refine blockExit_normal ?_ | refine blockExit_ret ?_ | refine blockExit_goto ?_)); first | (change Trip _ _ _ _ _) | dsimp only | skip)
    repeat (first | (refine Trip.ret ?_; ((repeat (first | refine blockExit_eq ?_ | refine blockExit_ne (by decide) ?_ | refine blockExit_normal ?_ | refine blockExit_ret ?_ | refine blockExit_goto ?_)); first | (change Trip _ _ _ _ _) | dsimp only | skip)) | fail)
    refine ⟨.inr rfl, _, res_c1 (by (first | (simp only [ASt.ev, tmPut, ↓reduceIte, reduceIte, Nat.reduceEqDiff, plain1, *]; rfl) | fail)) (readAt_agg (k := 2) (by exact rfl) rfl (by exact rfl) (getc_own (by simp))), t, k, by simp [tmPut, symV], hr, rfl, gx'.put (by omega)⟩

end Go.Proofs.Ytngekapiemkgnaa
