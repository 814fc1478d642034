/-
  Chapter 1: the document's Parse is the plain one.
-/
import Derived.Test.YtngekapiemkgnaaRefR1
namespace Go.Proofs.Ytngekapiemkgnaa
set_option linter.unusedSimpArgs false
set_option linter.unusedVariables false
open Go.Am Go.RowKit
attribute [local irreducible] aop OpsL Trip blockExit OpsD OpsK

theorem pieceF_cons {l : List Int} {i : Nat} {b : Int} (h : l[i]? = some b) (hb : b ≠ 32) : pieceF l i = b :: pieceF l (i + 1) := by
  have hlt := (List.getElem?_eq_some_iff.1 h).1
  unfold pieceF
  have e : l.drop i = b :: l.drop (i + 1) := by rw [List.drop_eq_getElem_cons hlt]; congr 1; exact (List.getElem?_eq_some_iff.1 h).2
  rw [e, List.takeWhile_cons, if_pos (by simpa using hb)]
theorem pieceF_blank {l : List Int} {i : Nat} (h : l[i]? = some 32) : pieceF l i = [] := by
  have hlt := (List.getElem?_eq_some_iff.1 h).1
  unfold pieceF
  have e : l.drop i = 32 :: l.drop (i + 1) := by rw [List.drop_eq_getElem_cons hlt]; congr 1; exact (List.getElem?_eq_some_iff.1 h).2
  rw [e, List.takeWhile_cons, if_neg (by simp)]
theorem pieceF_end {l : List Int} {i : Nat} (h : l.length ≤ i) : pieceF l i = [] := by unfold pieceF; rw [List.drop_eq_nil_of_le h]; rfl
theorem pieceF_take (l : List Int) (i : Nat) : pieceF l i = (l.drop i).take (pieceF l i).length := List.prefix_iff_eq_take.1 (List.takeWhile_prefix _)

theorem entersRParse : Enters Try.prog 17 := ⟨Try.f17, Try.func17, by kernel_rfl, by kernel_rfl⟩

set_option maxRecDepth 20000 in
set_option maxHeartbeats 8000000 in
theorem rparseC (W0 : World) {nx : Nat} {H : Heap} {lv : Value} {ss : List (ByteArray × Int)} {s : ByteArray} (hl : SymsR H lv ss) (hn : ss.length ≤ 1000) (hs : (bs s).length ≤ 1000000) :
    ACalls Try.prog W0 17 [lv, .string s] nx H fun v nx' H' => Parsed nx (parseF (kss ss) (bs s)) v nx' H' ∧ Ext nx H nx' H' := by
  obtain ⟨la, lc, rfl⟩ := hl.slice
  refine ACalls.by_trip (fn := Try.f17) (c := _) Try.func17 rfl (fun tm n hn0 htm => ?_)
  have e0 : tm 0 = .slice la ss.length lc := htm 0
  have e1 : tm 1 = .string s := htm 1
  clear htm
  replace hn0 : n = 61 := hn0
  refine Trip.ok fun hok => ?_
  replace hok : ∀ id o, H id = some o → id < nx := hok
  repeat' (first | (refine OpsL.p (by subst_vars; decide) (by (first | (exact aop_move (by (first | (simp only [ASt.ev, tmPut, ↓reduceIte, reduceIte, Nat.reduceEqDiff, plain1, *]; rfl) | fail))) | (exact aop_assign (by (first | (simp only [ASt.ev, tmPut, ↓reduceIte, reduceIte, Nat.reduceEqDiff, plain1, *]; rfl) | fail))) | (exact aop_gtr (by (first | (simp only [ASt.ev, tmPut, ↓reduceIte, reduceIte, Nat.reduceEqDiff, plain1, *]; rfl) | fail)) (by (first | (simp only [ASt.ev, tmPut, ↓reduceIte, reduceIte, Nat.reduceEqDiff, plain1, *]; rfl) | fail))) | (exact aop_lenB (by (first | (simp only [ASt.ev, tmPut, ↓reduceIte, reduceIte, Nat.reduceEqDiff, plain1, *]; rfl) | fail)) (by exact rfl)) | fail)) ?_) | (refine Trip.seq ?_) | (refine Trip.ops ?_) | (refine Trip.block ?_) | (refine Trip.ite (by (first | (simp only [ASt.ev, tmPut, ↓reduceIte, reduceIte, Nat.reduceEqDiff, plain1, *]; rfl) | fail)) (fun _ => ?_) (fun _ => ?_)) | (refine Trip.skip ?_; ((repeat (first | refine blockExit_eq ?_ | refine blockExit_ne (by decide) ?_ | refine blockExit_normal ?_ | refine blockExit_ret ?_ | refine blockExit_goto ?_)); first | (change Trip _ _ _ _ _) | dsimp only | skip)) | (refine Trip.ret ?_; ((repeat (first | refine blockExit_eq ?_ | refine blockExit_ne (by decide) ?_ | refine blockExit_normal ?_ | refine blockExit_ret ?_ | refine blockExit_goto ?_)); first | (change Trip _ _ _ _ _) | dsimp only | skip)) | (refine OpsL.nil ?_; ((repeat (first | refine blockExit_eq ?_ | refine blockExit_ne (by decide) ?_ | refine blockExit_normal ?_ | refine blockExit_ret ?_ | refine blockExit_goto ?_)); first | (change Trip _ _ _ _ _) | dsimp only | skip)) | fail)
  · rename_i hlong
    have hlen : 2000 < (bs s).length := by omega
    have hp : parseF (kss ss) (bs s) = ([], 0, 2) := by unfold parseF; rw [if_pos hlen]
    rw [hp]
    exact ⟨.inr rfl, _, res_tmp3, ⟨_, none, by simp [tmPut], own_nil, fun _ _ h => by cases h⟩, Ext.refl⟩
  · rename_i hlong
    have hp : parseF (kss ss) (bs s) = parseAt (kss ss) (bs s) 0 [] := by unfold parseF parseAt; rw [if_neg (by omega)]
    rw [hp]
    refine Trip.inv (fun (j : Nat) st => ∃ (tm : Nat → Value) (nx' : Nat) (H' : Heap) (ob : Option (Nat × Nat)) (wv : Value) (w : List Int), st = ⟨tm, n, H', nx'⟩ ∧ Ext nx H nx' H' ∧ OwnInts H' ob 3 wv w ∧ (∀ b t, ob = some (b, t) → nx ≤ b ∧ b < nx') ∧
      tm 0 = .slice la ss.length lc ∧ tm 1 = .string s ∧ tm 7 = wv ∧ tm 8 = .int .i64 j ∧ j ≤ (bs s).length ∧ parseAt (kss ss) (bs s) j w = parseAt (kss ss) (bs s) 0 [] ∧ w.length ≤ j) (fun j => (bs s).length - j) 0 ?_ ?_
    · exact ⟨_, _, _, none, _, [], rfl, Ext.refl, own_nil, fun _ _ h => (by cases h), e0, e1, rfl, rfl, by omega, rfl, by simp⟩
    · rintro j st ⟨tm, nx', H', ob, wv, w, rfl, hext, hown, hob, e0, e1, e7, e8, hj, hpa, hwl⟩
      refine Trip.ok fun hok' => ?_
      replace hok' : ∀ id o, H' id = some o → id < nx' := hok'
      repeat' (first | (refine OpsL.p (by subst_vars; decide) (by (first | (exact aop_move (by (first | (simp only [ASt.ev, tmPut, ↓reduceIte, reduceIte, Nat.reduceEqDiff, plain1, *]; rfl) | fail))) | (exact aop_assign (by (first | (simp only [ASt.ev, tmPut, ↓reduceIte, reduceIte, Nat.reduceEqDiff, plain1, *]; rfl) | fail))) | (exact aop_lss (by (first | (simp only [ASt.ev, tmPut, ↓reduceIte, reduceIte, Nat.reduceEqDiff, plain1, *]; rfl) | fail)) (by (first | (simp only [ASt.ev, tmPut, ↓reduceIte, reduceIte, Nat.reduceEqDiff, plain1, *]; rfl) | fail))) | (exact aop_lenB (by (first | (simp only [ASt.ev, tmPut, ↓reduceIte, reduceIte, Nat.reduceEqDiff, plain1, *]; rfl) | fail)) (by exact rfl)) | fail)) ?_) | (refine Trip.seq ?_) | (refine Trip.ops ?_) | (refine Trip.block ?_) | (refine Trip.ite (by (first | (simp only [ASt.ev, tmPut, ↓reduceIte, reduceIte, Nat.reduceEqDiff, plain1, *]; rfl) | fail)) (fun _ => ?_) (fun _ => ?_)) | (refine Trip.skip ?_; ((repeat (first | refine blockExit_eq ?_ | refine blockExit_ne (by decide) ?_ | refine blockExit_normal ?_ | refine blockExit_ret ?_ | refine blockExit_goto ?_)); first | (change Trip _ _ _ _ _) | dsimp only | skip)) | (refine Trip.exit ?_; ((repeat (first | refine blockExit_eq ?_ | refine blockExit_ne (by decide) ?_ | refine blockExit_normal ?_ | refine blockExit_ret ?_ | refine blockExit_goto ?_)); first | (change Trip _ _ _ _ _) | dsimp only | skip)) | (refine Trip.ret ?_; ((repeat (first | refine blockExit_eq ?_ | refine blockExit_ne (by decide) ?_ | refine blockExit_normal ?_ | refine blockExit_ret ?_ | refine blockExit_goto ?_)); first | (change Trip _ _ _ _ _) | dsimp only | skip)) | (refine OpsL.nil ?_; ((repeat (first | refine blockExit_eq ?_ | refine blockExit_ne (by decide) ?_ | refine blockExit_normal ?_ | refine blockExit_ret ?_ | refine blockExit_goto ?_)); first | (change Trip _ _ _ _ _) | dsimp only | skip)) | fail)
      · rename_i hlt
        have hjl : j < (bs s).length := by omega
        obtain ⟨b0, hb0⟩ : ∃ b, (bs s)[(j : Int).toNat]? = some b := ⟨_, List.getElem?_eq_getElem (by show j < _; omega)⟩
        refine OpsL.p (by subst_vars; decide) (aop_indexS (by (first | (simp only [ASt.ev, tmPut, ↓reduceIte, reduceIte, Nat.reduceEqDiff, plain1, *]; done) | fail)) (by (first | (simp only [ASt.ev, tmPut, ↓reduceIte, reduceIte, Nat.reduceEqDiff, plain1, *]; rfl) | fail)) (by exact rfl) (by omega) hb0) ?_
        repeat' (first | (refine OpsL.p (by subst_vars; decide) (by (first | (exact aop_move (by (first | (simp only [ASt.ev, tmPut, ↓reduceIte, reduceIte, Nat.reduceEqDiff, plain1, *]; rfl) | fail))) | (exact aop_assign (by (first | (simp only [ASt.ev, tmPut, ↓reduceIte, reduceIte, Nat.reduceEqDiff, plain1, *]; rfl) | fail))) | (exact aop_eql (by (first | (simp only [ASt.ev, tmPut, ↓reduceIte, reduceIte, Nat.reduceEqDiff, plain1, *]; rfl) | fail)) (by (first | (simp only [ASt.ev, tmPut, ↓reduceIte, reduceIte, Nat.reduceEqDiff, plain1, *]; rfl) | fail))) | (exact aop_add (by (first | (simp only [ASt.ev, tmPut, ↓reduceIte, reduceIte, Nat.reduceEqDiff, plain1, *]; rfl) | fail)) (by (first | (simp only [ASt.ev, tmPut, ↓reduceIte, reduceIte, Nat.reduceEqDiff, plain1, *]; rfl) | fail)) (by omega)) | fail)) ?_) | (refine Trip.seq ?_) | (refine Trip.ops ?_) | (refine Trip.block ?_) | (refine Trip.ite (by (first | (simp only [ASt.ev, tmPut, ↓reduceIte, reduceIte, Nat.reduceEqDiff, plain1, *]; rfl) | fail)) (fun _ => ?_) (fun _ => ?_)) | (refine Trip.skip ?_; ((repeat (first | refine blockExit_eq ?_ | refine blockExit_ne (by decide) ?_ | refine blockExit_normal ?_ | refine blockExit_ret ?_ | refine blockExit_goto ?_)); first | (change Trip _ _ _ _ _) | dsimp only | skip)) | (refine Trip.exit ?_; ((repeat (first | refine blockExit_eq ?_ | refine blockExit_ne (by decide) ?_ | refine blockExit_normal ?_ | refine blockExit_ret ?_ | refine blockExit_goto ?_)); first | (change Trip _ _ _ _ _) | dsimp only | skip)) | (refine OpsL.nil ?_; ((repeat (first | refine blockExit_eq ?_ | refine blockExit_ne (by decide) ?_ | refine blockExit_normal ?_ | refine blockExit_ret ?_ | refine blockExit_goto ?_)); first | (change Trip _ _ _ _ _) | dsimp only | skip)) | fail)
        · rename_i hb32
          refine ⟨j + 1, ⟨_, _, _, ob, wv, w, rfl, hext, hown, hob, by simp [tmPut, *], by simp [tmPut, *], by simp [tmPut, *], by simp [tmPut], by omega, ?_, by omega⟩, by omega⟩
          rw [← hpa, parseAt_blank (show (bs s)[j]? = some 32 by rw [← hb32]; exact hb0)]
        · rename_i hb32
          have hstep := parseAt_piece (ss := kss ss) (w := w) (i := j) (show (bs s)[j]? = some b0 from hb0) hb32
          have hpos := pieceF_pos (l := bs s) (i := j) (show (bs s)[j]? = some b0 from hb0) hb32
          refine Trip.mono (Q := fun x st => x = .exit 2 ∧ ∃ (tm : Nat → Value), st = ⟨tm, n, H', nx'⟩ ∧ tm 0 = .slice la ss.length lc ∧ tm 1 = .string s ∧ tm 7 = wv ∧ tm 8 = .int .i64 (j + (pieceF (bs s) j).length : Nat) ∧ tm 9 = .int .i64 j) ?_ ?_
          · refine Trip.inv (fun (e : Nat) st => ∃ (tm : Nat → Value), st = ⟨tm, n, H', nx'⟩ ∧ tm 0 = .slice la ss.length lc ∧ tm 1 = .string s ∧ tm 7 = wv ∧ tm 8 = .int .i64 e ∧ tm 9 = .int .i64 j ∧ j ≤ e ∧ e ≤ (bs s).length ∧ e + (pieceF (bs s) e).length = j + (pieceF (bs s) j).length) (fun e => (bs s).length - e) j ?_ ?_
            · exact ⟨_, rfl, by simp [tmPut, *], by simp [tmPut, *], by simp [tmPut, *], by simp [tmPut, *], by simp [tmPut], by omega, by omega, rfl⟩
            · clear e0 e1 e7 e8
              rintro e st ⟨tm, rfl, e0, e1, e7, e8, e9, hje, hel, hep⟩
              repeat' (first | (refine OpsL.p (by subst_vars; decide) (by (first | (exact aop_move (by (first | (simp only [ASt.ev, tmPut, ↓reduceIte, reduceIte, Nat.reduceEqDiff, plain1, *]; rfl) | fail))) | (exact aop_lss (by (first | (simp only [ASt.ev, tmPut, ↓reduceIte, reduceIte, Nat.reduceEqDiff, plain1, *]; rfl) | fail)) (by (first | (simp only [ASt.ev, tmPut, ↓reduceIte, reduceIte, Nat.reduceEqDiff, plain1, *]; rfl) | fail))) | (exact aop_lenB (by (first | (simp only [ASt.ev, tmPut, ↓reduceIte, reduceIte, Nat.reduceEqDiff, plain1, *]; rfl) | fail)) (by exact rfl)) | (exact aop_pickF (by (first | (simp only [ASt.ev, tmPut, ↓reduceIte, reduceIte, Nat.reduceEqDiff, decide_true, decide_false, not_true_eq_false, not_false_eq_true, Bool.not_true, Bool.not_false, *]; done) | fail)) (by (first | (simp only [ASt.ev, tmPut, ↓reduceIte, reduceIte, Nat.reduceEqDiff, plain1, *]; rfl) | fail))) | fail)) ?_) | (refine Trip.seq ?_) | (refine Trip.ops ?_) | (refine OpsL.nil ?_; ((repeat (first | refine blockExit_eq ?_ | refine blockExit_ne (by decide) ?_ | refine blockExit_normal ?_ | refine blockExit_ret ?_ | refine blockExit_goto ?_)); first | (change Trip _ _ _ _ _) | dsimp only | skip)) | (refine OpsL.unguard (by exact rfl) (by (first | (simp only [ASt.ev, tmPut, ↓reduceIte, reduceIte, Nat.reduceEqDiff, decide_true, decide_false, not_true_eq_false, not_false_eq_true, Bool.not_true, Bool.not_false, *]; done) | fail)) ?_) | (refine OpsL.skipped (by exact rfl) (by (first | (simp only [ASt.ev, tmPut, ↓reduceIte, reduceIte, Nat.reduceEqDiff, decide_true, decide_false, not_true_eq_false, not_false_eq_true, Bool.not_true, Bool.not_false, *]; done) | fail)) (by subst_vars; decide) ?_) | (refine OpsL.guardT (by exact rfl) (by (first | (simp only [ASt.ev, tmPut, ↓reduceIte, reduceIte, Nat.reduceEqDiff, plain1, *]; rfl) | fail)) (by subst_vars; decide) (fun _ => ?_) (fun _ => ?_)) | fail)
              · rename_i helt
                obtain ⟨b1, hb1⟩ : ∃ b, (bs s)[(e : Int).toNat]? = some b := ⟨_, List.getElem?_eq_getElem (by show e < _; omega)⟩
                refine OpsL.p (by subst_vars; decide) (aop_indexS (by (first | (simp only [ASt.ev, tmPut, ↓reduceIte, reduceIte, Nat.reduceEqDiff, plain1, *]; done) | fail)) (by (first | (simp only [ASt.ev, tmPut, ↓reduceIte, reduceIte, Nat.reduceEqDiff, plain1, *]; rfl) | fail)) (by exact rfl) (by omega) hb1) ?_
                repeat' (first | (refine OpsL.p (by subst_vars; decide) (by (first | (exact aop_move (by (first | (simp only [ASt.ev, tmPut, ↓reduceIte, reduceIte, Nat.reduceEqDiff, plain1, *]; rfl) | fail))) | (exact aop_assign (by (first | (simp only [ASt.ev, tmPut, ↓reduceIte, reduceIte, Nat.reduceEqDiff, plain1, *]; rfl) | fail))) | (exact aop_neq (by (first | (simp only [ASt.ev, tmPut, ↓reduceIte, reduceIte, Nat.reduceEqDiff, plain1, *]; rfl) | fail)) (by (first | (simp only [ASt.ev, tmPut, ↓reduceIte, reduceIte, Nat.reduceEqDiff, plain1, *]; rfl) | fail))) | (exact aop_add (by (first | (simp only [ASt.ev, tmPut, ↓reduceIte, reduceIte, Nat.reduceEqDiff, plain1, *]; rfl) | fail)) (by (first | (simp only [ASt.ev, tmPut, ↓reduceIte, reduceIte, Nat.reduceEqDiff, plain1, *]; rfl) | fail)) (by omega)) | (exact aop_pickT (by (first | (simp only [ASt.ev, tmPut, ↓reduceIte, reduceIte, Nat.reduceEqDiff, decide_true, decide_false, not_true_eq_false, not_false_eq_true, Bool.not_true, Bool.not_false, *]; done) | fail)) (by (first | (simp only [ASt.ev, tmPut, ↓reduceIte, reduceIte, Nat.reduceEqDiff, plain1, *]; rfl) | fail))) | fail)) ?_) | (refine Trip.ops ?_) | (refine Trip.block ?_) | (refine Trip.ite (by (first | (simp only [ASt.ev, tmPut, ↓reduceIte, reduceIte, Nat.reduceEqDiff, plain1, *]; rfl) | fail)) (fun _ => ?_) (fun _ => ?_)) | (refine Trip.skip ?_; ((repeat (first | refine blockExit_eq ?_ | refine blockExit_ne (by decide) ?_ | refine blockExit_normal ?_ | refine blockExit_ret ?_ | refine blockExit_goto ?_)); first | (change Trip _ _ _ _ _) | dsimp only | skip)) | (refine Trip.exit ?_; ((repeat (first | refine blockExit_eq ?_ | refine blockExit_ne (by decide) ?_ | refine blockExit_normal ?_ | refine blockExit_ret ?_ | refine blockExit_goto ?_)); first | (change Trip _ _ _ _ _) | dsimp only | skip)) | (refine OpsL.nil ?_; ((repeat (first | refine blockExit_eq ?_ | refine blockExit_ne (by decide) ?_ | refine blockExit_normal ?_ | refine blockExit_ret ?_ | refine blockExit_goto ?_)); first | (change Trip _ _ _ _ _) | dsimp only | skip)) | (refine OpsL.unguard (by exact rfl) (by (first | (simp only [ASt.ev, tmPut, ↓reduceIte, reduceIte, Nat.reduceEqDiff, decide_true, decide_false, not_true_eq_false, not_false_eq_true, Bool.not_true, Bool.not_false, *]; done) | fail)) ?_) | fail)
                · rename_i hb
                  rw [pieceF_cons (show (bs s)[e]? = some b1 from hb1) hb, List.length_cons] at hep
                  exact ⟨e + 1, ⟨_, rfl, by simp [tmPut, *], by simp [tmPut, *], by simp [tmPut, *], by simp [tmPut], by simp [tmPut, *], by omega, by omega, by omega⟩, by omega⟩
                · rename_i hb
                  rw [pieceF_blank (show (bs s)[e]? = some 32 by rw [← Decidable.not_not.1 hb]; exact hb1)] at hep
                  simp only [List.length_nil, Nat.add_zero] at hep
                  exact ⟨rfl, _, rfl, by simp [tmPut, *], by simp [tmPut, *], by simp [tmPut, *], by simp [tmPut, *], by simp [tmPut, *]⟩
              · rename_i helt
                rw [pieceF_end (by omega)] at hep
                simp only [List.length_nil, Nat.add_zero] at hep
                refine Trip.iteB (b := false) (by (first | (simp only [ASt.ev, tmPut, ↓reduceIte, reduceIte, Nat.reduceEqDiff, decide_true, decide_false, not_true_eq_false, not_false_eq_true, Bool.not_true, Bool.not_false, *]; done) | fail)) (fun h => absurd h (by decide)) (fun _ => ?_)
                repeat' (first | (refine Trip.exit ?_; ((repeat (first | refine blockExit_eq ?_ | refine blockExit_ne (by decide) ?_ | refine blockExit_normal ?_ | refine blockExit_ret ?_ | refine blockExit_goto ?_)); first | (change Trip _ _ _ _ _) | dsimp only | skip)) | fail)
                exact ⟨rfl, _, rfl, by simp [tmPut, *], by simp [tmPut, *], by simp [tmPut, *], by simp [tmPut, *], by simp [tmPut, *]⟩
          · clear e0 e1 e7 e8
            rintro x st ⟨rfl, tm, rfl, e0, e1, e7, e8, e9⟩
            ((repeat (first | refine blockExit_eq ?_ | refine blockExit_ne (by decide) ?_ | refine blockExit_normal ?_ | refine blockExit_ret ?_ | refine blockExit_goto ?_)); first | (change Trip _ _ _ _ _) | dsimp only | skip)
            repeat' (first | (refine OpsL.p (by subst_vars; decide) (by (first | (exact aop_move (by (first | (simp only [ASt.ev, tmPut, ↓reduceIte, reduceIte, Nat.reduceEqDiff, plain1, *]; rfl) | fail))) | fail)) ?_) | (refine Trip.seq ?_) | (refine Trip.ops ?_) | fail)
            generalize he : j + (pieceF (bs s) j).length = e at *
            refine OpsL.p (by subst_vars; decide) (aop_slice (a := some (.int .i64 j)) (b := some (.int .i64 e)) (c := none) (by (first | (simp only [ASt.ev, tmPut, ↓reduceIte, reduceIte, Nat.reduceEqDiff, plain1, *]; rfl) | fail)) (by simp only [evOpt, ASt.ev, tmPut, ↓reduceIte, reduceIte, Option.some.injEq, Nat.reduceEqDiff, Option.map_some, *]) (by simp only [evOpt, ASt.ev, tmPut, ↓reduceIte, reduceIte, Option.some.injEq, Nat.reduceEqDiff, Option.map_some, *]) rfl (aSlice_str (by exact rfl) (show j ≤ e by omega) (by omega))) ?_
            have hpc : bs (esubstr s j e) = pieceF (bs s) j := by
              rw [bs_sub, show e - j = (pieceF (bs s) j).length by omega]; exact (pieceF_take _ _).symm
            have hplen : (pieceF (bs s) j).length ≤ 1000000 := by omega
            refine OpsL.call1 (by subst_vars; decide) (by (first | (simp only [ASt.ev, tmPut, ↓reduceIte, reduceIte, Nat.reduceEqDiff, plain1, *]; rfl) | fail)) entersRead (readC W0 (by rw [hpc]; exact hplen)) ?_
            rintro v1 nx1 H1 ⟨t, k, rfl, hr, rfl, hx1⟩
            rw [hpc] at hr
            repeat (first | (refine OpsL.p (by subst_vars; decide) (by (first | (exact aop_move (by (first | (simp only [ASt.ev, tmPut, ↓reduceIte, reduceIte, Nat.reduceEqDiff, plain1, *]; rfl) | fail))) | (exact aop_extract (by (first | (simp only [ASt.ev, tmPut, ↓reduceIte, reduceIte, Nat.reduceEqDiff, plain1, *]; rfl) | fail)) (by exact rfl)) | fail)) ?_) | fail)
            refine OpsL.new (by subst_vars; decide) (aop_alloc (by exact rfl)) ?_
            refine OpsL.upd (aop_store (a := ⟨nx' + 2, 0, none⟩) (u := symV (t, k)) (k := 2) (by (first | (simp only [ASt.ev, tmPut, ↓reduceIte, reduceIte, Nat.reduceEqDiff, plain1, *]; done) | fail)) (by (first | (simp only [ASt.ev, tmPut, ↓reduceIte, reduceIte, Nat.reduceEqDiff, plain1, *]; rfl) | fail)) (by exact rfl) rfl (by simp [setc, Heap.put_eq, boxO, symV, Value.cells]; exact ⟨⟨rfl, rfl⟩, rfl⟩)) ?_
            (first | (refine OpsL.p (by subst_vars; decide) (by (first | (exact aop_assign (by (first | (simp only [ASt.ev, tmPut, ↓reduceIte, reduceIte, Nat.reduceEqDiff, plain1, *]; rfl) | fail))) | fail)) ?_) | fail)
            (first | (refine OpsL.nil ?_; ((repeat (first | refine blockExit_eq ?_ | refine blockExit_ne (by decide) ?_ | refine blockExit_normal ?_ | refine blockExit_ret ?_ | refine blockExit_goto ?_)); first | (change Trip _ _ _ _ _) | dsimp only | skip)) | fail)
            ((repeat (first | refine blockExit_eq ?_ | refine blockExit_ne (by decide) ?_ | refine blockExit_normal ?_ | refine blockExit_ret ?_ | refine blockExit_goto ?_)); first | (change Trip _ _ _ _ _) | dsimp only | skip)
            generalize hG : (H1.put (nx' + 2) _).put (nx' + 2) _ = G
            have gx : Ext nx' H' (nx' + 2 + 1) G := by
              rw [← hG]
              exact (((hx1.up (show nx' + 2 ≤ nx' + 2 + 1 by omega)).put (k := nx' + 2) (by omega)).put (k := nx' + 2) (by omega))
            have gb : getc G ⟨nx' + 2, 0, none⟩ 2 = some [.string t, .int .i64 k] := by rw [← hG]; exact getc_own (by show 0 + 2 ≤ 2; decide)
            clear hG
            refine Trip.ok fun gok => ?_
            replace gok : ∀ id o, G id = some o → id < nx' + 2 + 1 := gok
            repeat (first | (refine OpsL.p (by subst_vars; decide) (by (first | (exact aop_move (by (first | (simp only [ASt.ev, tmPut, ↓reduceIte, reduceIte, Nat.reduceEqDiff, plain1, *]; rfl) | fail))) | (exact aop_not (by (first | (simp only [ASt.ev, tmPut, ↓reduceIte, reduceIte, Nat.reduceEqDiff, plain1, *]; rfl) | fail))) | fail)) ?_) | (refine Trip.seq ?_) | (refine Trip.ops ?_) | (refine OpsL.nil ?_; ((repeat (first | refine blockExit_eq ?_ | refine blockExit_ne (by decide) ?_ | refine blockExit_normal ?_ | refine blockExit_ret ?_ | refine blockExit_goto ?_)); first | (change Trip _ _ _ _ _) | dsimp only | skip)) | fail)
            by_cases hno : okName (bs t)
            · have hrd : readF (pieceF (bs s) j) = some (bs t, k) := by unfold readF; rw [← hr, if_pos hno]
              rw [hrd] at hstep
              clear hr
              refine Trip.iteB (b := false) (by (first | (simp only [ASt.ev, tmPut, ↓reduceIte, reduceIte, Nat.reduceEqDiff, decide_true, decide_false, not_true_eq_false, not_false_eq_true, Bool.not_true, Bool.not_false, *]; done) | fail)) (fun h => absurd h (by decide)) (fun _ => ?_)
              repeat (first | (refine OpsL.p (by subst_vars; decide) (by (first | (exact aop_move (by (first | (simp only [ASt.ev, tmPut, ↓reduceIte, reduceIte, Nat.reduceEqDiff, plain1, *]; rfl) | fail))) | fail)) ?_) | (refine Trip.seq ?_) | (refine Trip.ops ?_) | (refine Trip.skip ?_; ((repeat (first | refine blockExit_eq ?_ | refine blockExit_ne (by decide) ?_ | refine blockExit_normal ?_ | refine blockExit_ret ?_ | refine blockExit_goto ?_)); first | (change Trip _ _ _ _ _) | dsimp only | skip)) | fail)
              refine OpsL.p (by subst_vars; decide) (aop_loadAgg (k := 2) (vs := [.string t, .int .i64 k]) (by (first | (simp only [ASt.ev, tmPut, ↓reduceIte, reduceIte, Nat.reduceEqDiff, plain1, *]; done) | fail)) (by exact rfl) rfl (by exact rfl) gb) ?_
              have hext2 := hext.trans gx
              refine OpsL.call2 (by subst_vars; decide) (by (first | (simp only [ASt.ev, tmPut, ↓reduceIte, reduceIte, Nat.reduceEqDiff, plain1, *]; done) | fail)) (by (first | (simp only [ASt.ev, tmPut, ↓reduceIte, reduceIte, Nat.reduceEqDiff, plain1, *]; rfl) | fail)) entersRFind (refFindC W0 (t, k) (hl.ext hext2 hok) (by omega) gok) ?_
              rintro v3 nx3 H3 ⟨rfl, rfl, rfl⟩
              have hfc := findI_cases (bs t, k) ss
              have hrange := findI_range (bs t, k) ss
              repeat' (first | (refine OpsL.p (by subst_vars; decide) (by (first | (exact aop_move (by (first | (simp only [ASt.ev, tmPut, ↓reduceIte, reduceIte, Nat.reduceEqDiff, plain1, *]; rfl) | fail))) | (exact aop_assign (by (first | (simp only [ASt.ev, tmPut, ↓reduceIte, reduceIte, Nat.reduceEqDiff, plain1, *]; rfl) | fail))) | (exact aop_lss (by (first | (simp only [ASt.ev, tmPut, ↓reduceIte, reduceIte, Nat.reduceEqDiff, plain1, *]; rfl) | fail)) (by (first | (simp only [ASt.ev, tmPut, ↓reduceIte, reduceIte, Nat.reduceEqDiff, plain1, *]; rfl) | fail))) | fail)) ?_) | (refine Trip.seq ?_) | (refine Trip.ops ?_) | (refine Trip.ite (by (first | (simp only [ASt.ev, tmPut, ↓reduceIte, reduceIte, Nat.reduceEqDiff, plain1, *]; rfl) | fail)) (fun _ => ?_) (fun _ => ?_)) | (refine Trip.skip ?_; ((repeat (first | refine blockExit_eq ?_ | refine blockExit_ne (by decide) ?_ | refine blockExit_normal ?_ | refine blockExit_ret ?_ | refine blockExit_goto ?_)); first | (change Trip _ _ _ _ _) | dsimp only | skip)) | (refine Trip.ret ?_; ((repeat (first | refine blockExit_eq ?_ | refine blockExit_ne (by decide) ?_ | refine blockExit_normal ?_ | refine blockExit_ret ?_ | refine blockExit_goto ?_)); first | (change Trip _ _ _ _ _) | dsimp only | skip)) | (refine OpsL.nil ?_; ((repeat (first | refine blockExit_eq ?_ | refine blockExit_ne (by decide) ?_ | refine blockExit_normal ?_ | refine blockExit_ret ?_ | refine blockExit_goto ?_)); first | (change Trip _ _ _ _ _) | dsimp only | skip)) | fail)
              · rename_i hneg
                rcases hfc with ⟨hf, _⟩ | ⟨q, _, hq⟩
                · simp only [hf] at hstep
                  refine ⟨.inr rfl, _, res_tmp3, ?_, ?_⟩
                  · rw [← hpa, hstep]
                    exact parsed_nil (by simp [tmPut])
                  · exact hext2.trans ext_put
                · exfalso; omega
              · rename_i hneg
                rcases hfc with ⟨_, hq⟩ | ⟨q, hf, hq⟩
                · exfalso; omega
                · simp only [hf] at hstep
                  rw [hq] at *
                  have hextc : Ext nx' H' (nx' + 2 + 1 + 1) (G.put (nx' + 2 + 1) (boxO (t, k))) := gx.trans ext_put
                  have hownc := OwnRow.ext hextc (fun b t hb => (hob b t hb).2) hown
                  refine OpsL.appendI (by subst_vars; decide) (by subst_vars; decide) (by (first | (simp only [ASt.ev, tmPut, ↓reduceIte, reduceIte, Nat.reduceEqDiff, plain1, *]; rfl) | fail)) (by decide) (by (simp only [tmPut, ↓reduceIte, reduceIte, Option.some.injEq, Nat.reduceEqDiff, *])) hownc (fun b t hb => by have := (hob b t hb).2; omega) (by exact rfl) (by exact rfl) (by exact rfl) (by exact rfl) (by omega) ?_
                  rintro v' ob' H'' hown' ⟨b', rfl, hb'⟩ hsame
                  repeat (first | (refine OpsL.p (by subst_vars; decide) (by (first | (exact aop_assign (by (first | (simp only [ASt.ev, tmPut, ↓reduceIte, reduceIte, Nat.reduceEqDiff, plain1, *]; rfl) | fail))) | fail)) ?_) | (refine OpsL.nil ?_; ((repeat (first | refine blockExit_eq ?_ | refine blockExit_ne (by decide) ?_ | refine blockExit_normal ?_ | refine blockExit_ret ?_ | refine blockExit_goto ?_)); first | (change Trip _ _ _ _ _) | dsimp only | skip)) | fail)
                  refine ⟨e, ⟨_, _, _, some (b', nx' + 2 + 1 + 1 + 1), v', w ++ [(q : Int)], rfl, ?_, hown', ?_, by simp [tmPut, *], by simp [tmPut, *], by simp [tmPut, *], by simp [tmPut, *], by omega, ?_, ?_⟩, by omega⟩
                  · have hcur := hext2.trans (ext_put (nx := nx' + 2 + 1) (o := boxO (t, k)))
                    exact ⟨by have := hext.1; omega, fun i hi => by rw [hsame i (by have := hext.1; omega) (fun b t hb => by have := (hob b t hb).1; omega), hcur.2 i hi]⟩
                  · intro b2 t2 hb2
                    cases hb2
                    rcases hb' with rfl | ⟨t, hb'⟩
                    · exact ⟨by have := hext.1; omega, by omega⟩
                    · have := hob _ _ hb'; exact ⟨by omega, by omega⟩
                  · rw [← hpa, hstep]
                  · simp; omega
            · have hrd : readF (pieceF (bs s) j) = none := by unfold readF; rw [← hr, if_neg hno]
              rw [hrd] at hstep
              refine Trip.iteB (b := true) (by (first | (simp only [ASt.ev, tmPut, ↓reduceIte, reduceIte, Nat.reduceEqDiff, decide_true, decide_false, not_true_eq_false, not_false_eq_true, Bool.not_true, Bool.not_false, *]; done) | fail)) (fun _ => ?_) (fun h => absurd h (by decide))
              repeat (first | (refine OpsL.p (by subst_vars; decide) (by (first | (exact aop_move (by (first | (simp only [ASt.ev, tmPut, ↓reduceIte, reduceIte, Nat.reduceEqDiff, plain1, *]; rfl) | fail))) | (exact aop_assign (by (first | (simp only [ASt.ev, tmPut, ↓reduceIte, reduceIte, Nat.reduceEqDiff, plain1, *]; rfl) | fail))) | fail)) ?_) | (refine Trip.seq ?_) | (refine Trip.ops ?_) | (refine Trip.ret ?_; ((repeat (first | refine blockExit_eq ?_ | refine blockExit_ne (by decide) ?_ | refine blockExit_normal ?_ | refine blockExit_ret ?_ | refine blockExit_goto ?_)); first | (change Trip _ _ _ _ _) | dsimp only | skip)) | (refine OpsL.nil ?_; ((repeat (first | refine blockExit_eq ?_ | refine blockExit_ne (by decide) ?_ | refine blockExit_normal ?_ | refine blockExit_ret ?_ | refine blockExit_goto ?_)); first | (change Trip _ _ _ _ _) | dsimp only | skip)) | fail)
              refine ⟨.inr rfl, _, res_tmp3, ?_, ?_⟩
              · rw [← hpa, hstep]
                exact parsed_nil (by simp [tmPut])
              · exact hext.trans gx
      · rename_i hge
        refine ⟨.inr rfl, _, res_tmp3, ⟨wv, ob, ?_, ?_, hob⟩, hext⟩
        · rw [← hpa, parseAt_end (by omega)]
          simp [tmPut]
        · rw [← hpa, parseAt_end (by omega)]
          exact hown

end Go.Proofs.Ytngekapiemkgnaa
