/-
  Chapter 1: the program's Parse is the plain one.
-/
import Derived.Test.YtngekapiemkgnaaScan1
namespace Go.Proofs.Ytngekapiemkgnaa
set_option linter.unusedSimpArgs false
set_option linter.unusedVariables false
open Go.Am Go.RowKit
attribute [local irreducible] aop OpsL Trip blockExit OpsD

theorem res_tmp3 {P : Program} {st : ASt} {s t u : Tmp} : aResults P st #[.tmp s, .tmp t, .tmp u] = some (.tuple #[st.tm s, st.tm t, st.tm u]) := rfl

/-- The place, the error of a text; the word. -/
def Parsed (nx : Nat) (r : List Int × Int × Int) (v : Value) (nx' : Nat) (H' : Heap) : Prop :=
  ∃ wv ob, v = .tuple #[wv, .int .i64 r.2.1, .int .i64 r.2.2] ∧ OwnInts H' ob 3 wv r.1 ∧ ∀ b t, ob = some (b, t) → nx ≤ b ∧ b < nx'

theorem own_nil {H : Heap} : OwnInts H none 3 (.slice none 0 0) [] := ⟨rfl, rfl, rfl⟩

theorem bs_sub (s : ByteArray) (a b : Nat) : bs (esubstr s a b) = ((bs s).drop a).take (b - a) := by
  simp [bs, esubstr, List.map_drop, List.map_take]

theorem findI_cases (x : List Int × Int) (ss : List (ByteArray × Int)) : (findGo x (kss ss) 0 = none ∧ findI x ss = -1) ∨ ∃ j : Nat, findGo x (kss ss) 0 = some j ∧ findI x ss = j := by
  unfold findI
  cases findGo x (kss ss) 0 with
  | none => exact .inl ⟨rfl, rfl⟩
  | some j => exact .inr ⟨j, rfl, rfl⟩

theorem parsed_nil {nx nx' : Nat} {H' : Heap} {j e : Int} {v : Value} (h : v = .tuple #[.slice none 0 0, .int .i64 j, .int .i64 e]) : Parsed nx ([], j, e) v nx' H' := ⟨_, none, h, own_nil, fun _ _ h => by cases h⟩

set_option maxRecDepth 20000 in
set_option maxHeartbeats 8000000 in
theorem parseC (W0 : World) {nx : Nat} {H : Heap} {lv : Value} {ss : List (ByteArray × Int)} {s : ByteArray} (hl : SymsR H lv ss) (hn : ss.length ≤ 1000) (hs : (bs s).length ≤ 1000000) :
    ACalls Try.prog W0 12 [lv, .string s] nx H fun v nx' H' => Parsed nx (parseF (kss ss) (bs s)) v nx' H' ∧ Ext nx H nx' H' := by
  obtain ⟨la, lc, rfl⟩ := hl.slice
  refine ACalls.by_trip (fn := Try.f12) (c := _) Try.func12 rfl (fun tm n hn0 htm => ?_)
  have e0 : tm 0 = .slice la ss.length lc := htm 0
  have e1 : tm 1 = .string s := htm 1
  clear htm
  replace hn0 : n = 46 := hn0
  refine Trip.ok fun hok => ?_
  replace hok : ∀ id o, H id = some o → id < nx := hok
  repeat' (first | (refine OpsL.p (by subst_vars; decide) (by (first | (exact aop_move (by (first | (simp only [ASt.ev, tmPut, ↓reduceIte, reduceIte, Nat.reduceEqDiff, plain1, *]; rfl) | fail))) | (exact aop_assign (by (first | (simp only [ASt.ev, tmPut, ↓reduceIte, reduceIte, Nat.reduceEqDiff, plain1, *]; rfl) | fail))) | (exact aop_gtr (by (first | (simp only [ASt.ev, tmPut, ↓reduceIte, reduceIte, Nat.reduceEqDiff, plain1, *]; rfl) | fail)) (by (first | (simp only [ASt.ev, tmPut, ↓reduceIte, reduceIte, Nat.reduceEqDiff, plain1, *]; rfl) | fail))) | (exact aop_lenB (by (first | (simp only [ASt.ev, tmPut, ↓reduceIte, reduceIte, Nat.reduceEqDiff, plain1, *]; rfl) | fail)) (by exact rfl)) | fail)) ?_) | (refine Trip.seq ?_) | (refine Trip.ops ?_) | (refine Trip.ite (by (first | (simp only [ASt.ev, tmPut, ↓reduceIte, reduceIte, Nat.reduceEqDiff, plain1, *]; rfl) | fail)) (fun _ => ?_) (fun _ => ?_)) | (refine Trip.skip ?_; ((repeat (first | refine blockExit_eq ?_ | refine blockExit_ne (by decide) ?_ | refine blockExit_normal ?_ | refine blockExit_ret ?_ | refine blockExit_goto ?_)); first | (change Trip _ _ _ _ _) | dsimp only | skip)) | (refine Trip.ret ?_; ((repeat (first | refine blockExit_eq ?_ | refine blockExit_ne (by decide) ?_ | refine blockExit_normal ?_ | refine blockExit_ret ?_ | refine blockExit_goto ?_)); first | (change Trip _ _ _ _ _) | dsimp only | skip)) | (refine OpsL.nil ?_; ((repeat (first | refine blockExit_eq ?_ | refine blockExit_ne (by decide) ?_ | refine blockExit_normal ?_ | refine blockExit_ret ?_ | refine blockExit_goto ?_)); first | (change Trip _ _ _ _ _) | dsimp only | skip)) | fail)
  · rename_i hlong
    have hlen : 2000 < (bs s).length := by omega
    have hp : parseF (kss ss) (bs s) = ([], 0, 2) := by unfold parseF; rw [if_pos hlen]
    rw [hp]
    exact ⟨.inr rfl, _, res_tmp3, ⟨_, none, by simp [tmPut], own_nil, fun _ _ h => by cases h⟩, Ext.refl⟩
  · rename_i hlong
    have hp : parseF (kss ss) (bs s) = parseAt (kss ss) (bs s) 0 [] := by unfold parseF parseAt; rw [if_neg (by omega)]
    rw [hp]
    refine OpsL.call2 (by subst_vars; decide) (by (first | (simp only [ASt.ev, tmPut, ↓reduceIte, reduceIte, Nat.reduceEqDiff, plain1, *]; rfl) | fail)) (by (first | (simp only [ASt.ev, tmPut, ↓reduceIte, reduceIte, Nat.reduceEqDiff, plain1, *]; rfl) | fail)) entersSkip (skipC W0 (i := 0) (by omega) (by omega)) ?_
    rintro v nx1 H1 ⟨rfl, rfl, rfl⟩
    repeat (first | (refine OpsL.p (by subst_vars; decide) (by (first | (exact aop_assign (by (first | (simp only [ASt.ev, tmPut, ↓reduceIte, reduceIte, Nat.reduceEqDiff, plain1, *]; rfl) | fail))) | fail)) ?_) | (refine Trip.block ?_) | (refine OpsL.nil ?_; ((repeat (first | refine blockExit_eq ?_ | refine blockExit_ne (by decide) ?_ | refine blockExit_normal ?_ | refine blockExit_ret ?_ | refine blockExit_goto ?_)); first | (change Trip _ _ _ _ _) | dsimp only | skip)) | fail)
    refine Trip.inv (fun (j : Nat) st => ∃ (tm : Nat → Value) (nx' : Nat) (H' : Heap) (ob : Option (Nat × Nat)) (wv : Value) (w : List Int), st = ⟨tm, n, H', nx'⟩ ∧ Ext nx1 H1 nx' H' ∧ OwnInts H' ob 3 wv w ∧ (∀ b t, ob = some (b, t) → nx1 ≤ b ∧ b < nx') ∧
      tm 0 = .slice la ss.length lc ∧ tm 1 = .string s ∧ tm 7 = wv ∧ tm 8 = .int .i64 j ∧ j ≤ (bs s).length ∧ classF (bs s) j ≠ 1 ∧ parseAt (kss ss) (bs s) j w = parseAt (kss ss) (bs s) 0 [] ∧ w.length ≤ j) (fun j => (bs s).length - j) (skipF (bs s) 0) ?_ ?_
    · exact ⟨_, _, _, none, _, [], rfl, Ext.refl, own_nil, fun _ _ h => (by cases h), e0, e1, rfl, rfl, (skipF_le (by omega)).2, skipF_end 0, parseAt_skip 0, by simp⟩
    · rintro j st ⟨tm, nx', H', ob, wv, w, rfl, hext, hown, hob, e0, e1, e7, e8, hj, hcl, hpa, hwl⟩
      refine Trip.ok fun hok' => ?_
      replace hok' : ∀ id o, H' id = some o → id < nx' := hok'
      repeat' (first | (refine OpsL.p (by subst_vars; decide) (by (first | (exact aop_move (by (first | (simp only [ASt.ev, tmPut, ↓reduceIte, reduceIte, Nat.reduceEqDiff, plain1, *]; rfl) | fail))) | (exact aop_assign (by (first | (simp only [ASt.ev, tmPut, ↓reduceIte, reduceIte, Nat.reduceEqDiff, plain1, *]; rfl) | fail))) | (exact aop_lss (by (first | (simp only [ASt.ev, tmPut, ↓reduceIte, reduceIte, Nat.reduceEqDiff, plain1, *]; rfl) | fail)) (by (first | (simp only [ASt.ev, tmPut, ↓reduceIte, reduceIte, Nat.reduceEqDiff, plain1, *]; rfl) | fail))) | (exact aop_lenB (by (first | (simp only [ASt.ev, tmPut, ↓reduceIte, reduceIte, Nat.reduceEqDiff, plain1, *]; rfl) | fail)) (by exact rfl)) | fail)) ?_) | (refine Trip.seq ?_) | (refine Trip.ops ?_) | (refine Trip.block ?_) | (refine Trip.ite (by (first | (simp only [ASt.ev, tmPut, ↓reduceIte, reduceIte, Nat.reduceEqDiff, plain1, *]; rfl) | fail)) (fun _ => ?_) (fun _ => ?_)) | (refine Trip.skip ?_; ((repeat (first | refine blockExit_eq ?_ | refine blockExit_ne (by decide) ?_ | refine blockExit_normal ?_ | refine blockExit_ret ?_ | refine blockExit_goto ?_)); first | (change Trip _ _ _ _ _) | dsimp only | skip)) | (refine Trip.exit ?_; ((repeat (first | refine blockExit_eq ?_ | refine blockExit_ne (by decide) ?_ | refine blockExit_normal ?_ | refine blockExit_ret ?_ | refine blockExit_goto ?_)); first | (change Trip _ _ _ _ _) | dsimp only | skip)) | (refine Trip.ret ?_; ((repeat (first | refine blockExit_eq ?_ | refine blockExit_ne (by decide) ?_ | refine blockExit_normal ?_ | refine blockExit_ret ?_ | refine blockExit_goto ?_)); first | (change Trip _ _ _ _ _) | dsimp only | skip)) | (refine OpsL.nil ?_; ((repeat (first | refine blockExit_eq ?_ | refine blockExit_ne (by decide) ?_ | refine blockExit_normal ?_ | refine blockExit_ret ?_ | refine blockExit_goto ?_)); first | (change Trip _ _ _ _ _) | dsimp only | skip)) | fail)
      · rename_i hlt
        refine OpsL.call2 (by subst_vars; decide) (by (first | (simp only [ASt.ev, tmPut, ↓reduceIte, reduceIte, Nat.reduceEqDiff, plain1, *]; done) | fail)) (by (first | (simp only [ASt.ev, tmPut, ↓reduceIte, reduceIte, Nat.reduceEqDiff, plain1, *]; done) | fail)) entersScan (scanC W0 hs hj) ?_
        rintro v2 nx2 H2 ⟨rfl, rfl, hx2⟩
        have hrd := scan_read (bs s) j
        have hjl : j < (bs s).length := by omega
        obtain ⟨b0, hb0, hb32⟩ : ∃ b, (bs s)[j]? = some b ∧ b ≠ 32 := by
          refine ⟨(bs s)[j], List.getElem?_eq_getElem hjl, fun e => hcl ?_⟩
          unfold classF
          rw [List.getElem?_eq_getElem hjl]
          exact classI_blank.2 e
        have hstep := parseAt_piece (ss := kss ss) (w := w) hb0 hb32
        cases hsc : scanF (bs s) j with
        | none =>
          rw [hsc] at hrd
          rw [hrd] at hstep
          simp only [scanV]
          repeat (first | (refine OpsL.p (by subst_vars; decide) (by (first | (exact aop_move (by (first | (simp only [ASt.ev, tmPut, ↓reduceIte, reduceIte, Nat.reduceEqDiff, plain1, *]; rfl) | fail))) | (exact aop_extract (by (first | (simp only [ASt.ev, tmPut, ↓reduceIte, reduceIte, Nat.reduceEqDiff, plain1, *]; rfl) | fail)) (by exact rfl)) | fail)) ?_) | fail)
          refine OpsL.new (by subst_vars; decide) (aop_alloc (by exact rfl)) ?_
          repeat fail
          refine OpsL.upd (aop_store (u := .agg #[.string ⟨#[]⟩, .int .i64 0]) (by (first | (simp only [ASt.ev, tmPut, ↓reduceIte, reduceIte, Nat.reduceEqDiff, plain1, *]; rfl) | fail)) (by (first | (simp only [ASt.ev, tmPut, ↓reduceIte, reduceIte, Nat.reduceEqDiff, plain1, *]; rfl) | fail)) (by exact rfl) rfl (by simp [setc, Heap.put_eq, Value.cells]; exact ⟨⟨rfl, rfl⟩, rfl⟩)) ?_
          repeat (first | (refine OpsL.p (by subst_vars; decide) (by (first | (exact aop_move (by (first | (simp only [ASt.ev, tmPut, ↓reduceIte, reduceIte, Nat.reduceEqDiff, plain1, *]; rfl) | fail))) | (exact aop_assign (by (first | (simp only [ASt.ev, tmPut, ↓reduceIte, reduceIte, Nat.reduceEqDiff, plain1, *]; rfl) | fail))) | (exact aop_not (by (first | (simp only [ASt.ev, tmPut, ↓reduceIte, reduceIte, Nat.reduceEqDiff, plain1, *]; rfl) | fail))) | fail)) ?_) | (refine Trip.seq ?_) | (refine Trip.ops ?_) | (refine OpsL.nil ?_; ((repeat (first | refine blockExit_eq ?_ | refine blockExit_ne (by decide) ?_ | refine blockExit_normal ?_ | refine blockExit_ret ?_ | refine blockExit_goto ?_)); first | (change Trip _ _ _ _ _) | dsimp only | skip)) | fail)
          refine Trip.iteB (b := true) (by (first | (simp only [ASt.ev, tmPut, ↓reduceIte, reduceIte, Nat.reduceEqDiff, decide_true, decide_false, not_true_eq_false, not_false_eq_true, Bool.not_true, Bool.not_false, *]; done) | fail)) (fun _ => ?_) (fun h => absurd h (by decide))
          repeat (first | (refine OpsL.p (by subst_vars; decide) (by (first | (exact aop_move (by (first | (simp only [ASt.ev, tmPut, ↓reduceIte, reduceIte, Nat.reduceEqDiff, plain1, *]; rfl) | fail))) | (exact aop_assign (by (first | (simp only [ASt.ev, tmPut, ↓reduceIte, reduceIte, Nat.reduceEqDiff, plain1, *]; rfl) | fail))) | fail)) ?_) | (refine Trip.seq ?_) | (refine Trip.ops ?_) | (refine Trip.ret ?_; ((repeat (first | refine blockExit_eq ?_ | refine blockExit_ne (by decide) ?_ | refine blockExit_normal ?_ | refine blockExit_ret ?_ | refine blockExit_goto ?_)); first | (change Trip _ _ _ _ _) | dsimp only | skip)) | (refine OpsL.nil ?_; ((repeat (first | refine blockExit_eq ?_ | refine blockExit_ne (by decide) ?_ | refine blockExit_normal ?_ | refine blockExit_ret ?_ | refine blockExit_goto ?_)); first | (change Trip _ _ _ _ _) | dsimp only | skip)) | fail)
          refine ⟨.inr rfl, _, res_tmp3, ?_, ?_⟩
          · rw [← hpa, hstep]
            exact parsed_nil (by simp [tmPut])
          · exact ((hext.trans hx2).up (by omega)).put (by have := hext.1; omega) |>.put (by have := hext.1; omega)
        | some q =>
          obtain ⟨a, b, k, c⟩ := q
          rw [hsc] at hrd
          obtain ⟨hr1, hr2, hr3, hr4, hr5, hr6, hr7⟩ := hrd
          rw [hr1] at hstep
          simp only [scanV]
          repeat (first | (refine OpsL.p (by subst_vars; decide) (by (first | (exact aop_move (by (first | (simp only [ASt.ev, tmPut, ↓reduceIte, reduceIte, Nat.reduceEqDiff, plain1, *]; rfl) | fail))) | (exact aop_extract (by (first | (simp only [ASt.ev, tmPut, ↓reduceIte, reduceIte, Nat.reduceEqDiff, plain1, *]; rfl) | fail)) (by exact rfl)) | fail)) ?_) | fail)
          refine OpsL.new (by subst_vars; decide) (aop_alloc (by exact rfl)) ?_
          repeat fail
          refine OpsL.upd (aop_store (u := .agg #[.string (esubstr s a b), .int .i64 k]) (by (first | (simp only [ASt.ev, tmPut, ↓reduceIte, reduceIte, Nat.reduceEqDiff, plain1, *]; rfl) | fail)) (by (first | (simp only [ASt.ev, tmPut, ↓reduceIte, reduceIte, Nat.reduceEqDiff, plain1, *]; rfl) | fail)) (by exact rfl) rfl (by simp [setc, Heap.put_eq, Value.cells]; exact ⟨⟨rfl, rfl⟩, rfl⟩)) ?_
          (first | (refine OpsL.p (by subst_vars; decide) (by (first | (exact aop_assign (by (first | (simp only [ASt.ev, tmPut, ↓reduceIte, reduceIte, Nat.reduceEqDiff, plain1, *]; rfl) | fail))) | fail)) ?_) | fail)
          (first | (refine OpsL.p (by subst_vars; decide) (by (first | (exact aop_assign (by (first | (simp only [ASt.ev, tmPut, ↓reduceIte, reduceIte, Nat.reduceEqDiff, plain1, *]; rfl) | fail))) | fail)) ?_) | fail)
          (first | (refine OpsL.nil ?_; ((repeat (first | refine blockExit_eq ?_ | refine blockExit_ne (by decide) ?_ | refine blockExit_normal ?_ | refine blockExit_ret ?_ | refine blockExit_goto ?_)); first | (change Trip _ _ _ _ _) | dsimp only | skip)) | fail)
          refine Trip.ok fun hok2 => ?_
          have hext2 : Ext nx1 H1 (nx' + 1 + 1) ((H2.put (nx' + 1) (AObj.cells (Value.agg #[Value.string ⟨#[]⟩, Value.int IntKind.i64 0]).cells.toList 0 none false (some 45))).put (nx' + 1) (AObj.cells [Value.string (esubstr s a b), Value.int IntKind.i64 k] 0 none false (some 45))) :=
            ((((hext.trans hx2).up (by omega)).put (by have := hext.1; omega)).put (by have := hext.1; omega))
          have hown2 := (OwnRow.ext hx2 (fun b t hb => (hob b t hb).2) hown)
          repeat (first | (refine OpsL.p (by subst_vars; decide) (by (first | (exact aop_move (by (first | (simp only [ASt.ev, tmPut, ↓reduceIte, reduceIte, Nat.reduceEqDiff, plain1, *]; rfl) | fail))) | (exact aop_not (by (first | (simp only [ASt.ev, tmPut, ↓reduceIte, reduceIte, Nat.reduceEqDiff, plain1, *]; rfl) | fail))) | fail)) ?_) | (refine Trip.seq ?_) | (refine Trip.ops ?_) | (refine OpsL.nil ?_; ((repeat (first | refine blockExit_eq ?_ | refine blockExit_ne (by decide) ?_ | refine blockExit_normal ?_ | refine blockExit_ret ?_ | refine blockExit_goto ?_)); first | (change Trip _ _ _ _ _) | dsimp only | skip)) | fail)
          refine Trip.iteB (b := false) (by (first | (simp only [ASt.ev, tmPut, ↓reduceIte, reduceIte, Nat.reduceEqDiff, decide_true, decide_false, not_true_eq_false, not_false_eq_true, Bool.not_true, Bool.not_false, *]; done) | fail)) (fun h => absurd h (by decide)) (fun _ => ?_)
          repeat (first | (refine OpsL.p (by subst_vars; decide) (by (first | (exact aop_move (by (first | (simp only [ASt.ev, tmPut, ↓reduceIte, reduceIte, Nat.reduceEqDiff, plain1, *]; rfl) | fail))) | fail)) ?_) | (refine Trip.seq ?_) | (refine Trip.ops ?_) | (refine Trip.skip ?_; ((repeat (first | refine blockExit_eq ?_ | refine blockExit_ne (by decide) ?_ | refine blockExit_normal ?_ | refine blockExit_ret ?_ | refine blockExit_goto ?_)); first | (change Trip _ _ _ _ _) | dsimp only | skip)) | fail)
          refine OpsL.p (by subst_vars; decide) (aop_loadAgg (k := 2) (vs := [.string (esubstr s a b), .int .i64 k]) (by (first | (simp only [ASt.ev, tmPut, ↓reduceIte, reduceIte, Nat.reduceEqDiff, plain1, *]; rfl) | fail)) (by exact rfl) rfl (by exact rfl) (by exact getc_own (by show 0 + 2 ≤ 2; decide))) ?_
          refine OpsL.call2 (by subst_vars; decide) (by (first | (simp only [ASt.ev, tmPut, ↓reduceIte, reduceIte, Nat.reduceEqDiff, plain1, *]; done) | fail)) (by (first | (simp only [ASt.ev, tmPut, ↓reduceIte, reduceIte, Nat.reduceEqDiff, plain1, *]; rfl) | fail)) entersIndex (indexC W0 (esubstr s a b, k) (hl.ext hext2 hok) (by omega) hok2) ?_
          rintro v3 nx3 H3 ⟨rfl, rfl, rfl⟩
          have hfc := findI_cases (bs (esubstr s a b), k) ss
          rw [← bs_sub s a b] at hstep
          have hrange := findI_range (bs (esubstr s a b), k) ss
          repeat' (first | (refine OpsL.p (by subst_vars; decide) (by (first | (exact aop_move (by (first | (simp only [ASt.ev, tmPut, ↓reduceIte, reduceIte, Nat.reduceEqDiff, plain1, *]; rfl) | fail))) | (exact aop_assign (by (first | (simp only [ASt.ev, tmPut, ↓reduceIte, reduceIte, Nat.reduceEqDiff, plain1, *]; rfl) | fail))) | (exact aop_lss (by (first | (simp only [ASt.ev, tmPut, ↓reduceIte, reduceIte, Nat.reduceEqDiff, plain1, *]; rfl) | fail)) (by (first | (simp only [ASt.ev, tmPut, ↓reduceIte, reduceIte, Nat.reduceEqDiff, plain1, *]; rfl) | fail))) | fail)) ?_) | (refine Trip.seq ?_) | (refine Trip.ops ?_) | (refine Trip.ite (by (first | (simp only [ASt.ev, tmPut, ↓reduceIte, reduceIte, Nat.reduceEqDiff, plain1, *]; rfl) | fail)) (fun _ => ?_) (fun _ => ?_)) | (refine Trip.skip ?_; ((repeat (first | refine blockExit_eq ?_ | refine blockExit_ne (by decide) ?_ | refine blockExit_normal ?_ | refine blockExit_ret ?_ | refine blockExit_goto ?_)); first | (change Trip _ _ _ _ _) | dsimp only | skip)) | (refine Trip.ret ?_; ((repeat (first | refine blockExit_eq ?_ | refine blockExit_ne (by decide) ?_ | refine blockExit_normal ?_ | refine blockExit_ret ?_ | refine blockExit_goto ?_)); first | (change Trip _ _ _ _ _) | dsimp only | skip)) | (refine OpsL.nil ?_; ((repeat (first | refine blockExit_eq ?_ | refine blockExit_ne (by decide) ?_ | refine blockExit_normal ?_ | refine blockExit_ret ?_ | refine blockExit_goto ?_)); first | (change Trip _ _ _ _ _) | dsimp only | skip)) | fail)
          · rename_i hneg
            rcases hfc with ⟨hf, _⟩ | ⟨q, _, hq⟩
            · simp only [hf] at hstep
              refine ⟨.inr rfl, _, res_tmp3, ?_, ?_⟩
              · rw [← hpa, hstep]
                exact parsed_nil (by simp [tmPut])
              · exact hext2.trans ext_put
            · exfalso; omega
          · rename_i hneg
            rcases hfc with ⟨_, hq⟩ | ⟨q, hf, hq⟩
            · exfalso; omega
            · simp only [hf] at hstep
              rw [hq] at *
              have hextc : Ext nx' H' (nx' + 1 + 1 + 1) (((H2.put (nx' + 1) (AObj.cells (Value.agg #[Value.string ⟨#[]⟩, Value.int IntKind.i64 0]).cells.toList 0 none false (some 45))).put (nx' + 1) (AObj.cells [Value.string (esubstr s a b), Value.int IntKind.i64 k] 0 none false (some 45))).put (nx' + 1 + 1) (boxO (esubstr s a b, k))) :=
                ((((hx2.up (show nx' + 1 ≤ nx' + 1 + 1 + 1 by omega)).put (k := nx' + 1) (by omega)).put (k := nx' + 1) (by omega)).put (k := nx' + 1 + 1) (by omega))
              have hownc := OwnRow.ext hextc (fun b t hb => (hob b t hb).2) hown
              refine OpsL.appendI (by subst_vars; decide) (by subst_vars; decide) (by (first | (simp only [ASt.ev, tmPut, ↓reduceIte, reduceIte, Nat.reduceEqDiff, plain1, *]; rfl) | fail)) (by decide) (by (simp only [tmPut, ↓reduceIte, reduceIte, Option.some.injEq, Nat.reduceEqDiff, *])) hownc (fun b t hb => by have := (hob b t hb).2; omega) (by exact rfl) (by exact rfl) (by exact rfl) (by exact rfl) (by omega) ?_
              rintro v' ob' H'' hown' ⟨b', rfl, hb'⟩ hsame
              have hpos := pieceF_pos hb0 hb32
              repeat (first | (refine OpsL.p (by subst_vars; decide) (by (first | (exact aop_move (by (first | (simp only [ASt.ev, tmPut, ↓reduceIte, reduceIte, Nat.reduceEqDiff, plain1, *]; rfl) | fail))) | (exact aop_assign (by (first | (simp only [ASt.ev, tmPut, ↓reduceIte, reduceIte, Nat.reduceEqDiff, plain1, *]; rfl) | fail))) | fail)) ?_) | (refine Trip.ops ?_) | (refine OpsL.nil ?_; ((repeat (first | refine blockExit_eq ?_ | refine blockExit_ne (by decide) ?_ | refine blockExit_normal ?_ | refine blockExit_ret ?_ | refine blockExit_goto ?_)); first | (change Trip _ _ _ _ _) | dsimp only | skip)) | fail)
              refine OpsL.call2 (by subst_vars; decide) (by (first | (simp only [ASt.ev, tmPut, ↓reduceIte, reduceIte, Nat.reduceEqDiff, plain1, *]; rfl) | fail)) (by (first | (simp only [ASt.ev, tmPut, ↓reduceIte, reduceIte, Nat.reduceEqDiff, plain1, *]; rfl) | fail)) entersSkip (skipC W0 (i := c) (by omega) (by omega)) ?_
              rintro v4 nx4 H4 ⟨rfl, rfl, rfl⟩
              have hskl := skipF_le (l := bs s) (i := c) (by omega)
              repeat (first | (refine OpsL.p (by subst_vars; decide) (by (first | (exact aop_assign (by (first | (simp only [ASt.ev, tmPut, ↓reduceIte, reduceIte, Nat.reduceEqDiff, plain1, *]; rfl) | fail))) | fail)) ?_) | (refine OpsL.nil ?_; ((repeat (first | refine blockExit_eq ?_ | refine blockExit_ne (by decide) ?_ | refine blockExit_normal ?_ | refine blockExit_ret ?_ | refine blockExit_goto ?_)); first | (change Trip _ _ _ _ _) | dsimp only | skip)) | fail)
              refine ⟨skipF (bs s) c, ⟨_, _, _, some (b', nx' + 1 + 1 + 1 + 1), v', w ++ [(q : Int)], rfl, ?_, hown', ?_, ?_, ?_, ?_, ?_, hskl.2, skipF_end c, ?_, ?_⟩, by omega⟩
              · have hcur := hext2.trans (ext_put (nx := nx' + 1 + 1) (o := boxO (esubstr s a b, k)))
                exact ⟨by have := hext.1; omega, fun i hi => by rw [hsame i (by have := hext.1; omega) (fun b t hb => by have := (hob b t hb).1; omega), hcur.2 i hi]⟩
              · intro b2 t2 hb2
                cases hb2
                rcases hb' with rfl | ⟨t, hb'⟩
                · exact ⟨by have := hext.1; omega, by omega⟩
                · have := hob _ _ hb'; exact ⟨by omega, by omega⟩
              · simp [tmPut, *]
              · simp [tmPut, *]
              · simp [tmPut, *]
              · simp [tmPut, *]
              · rw [parseAt_skip, ← hpa, hstep, hr2]
              · simp; omega
      · refine ⟨.inr rfl, _, res_tmp3, ?_, hext⟩
        rw [← hpa, parseAt_end (by omega)]
        exact ⟨wv, ob, by simp [tmPut], hown, hob⟩

end Go.Proofs.Ytngekapiemkgnaa
