/-
  Chapter 1: the document's Sign and Text.
-/
import Derived.Test.YtngekapiemkgnaaRPar1
namespace Go.Proofs.Ytngekapiemkgnaa
set_option linter.unusedSimpArgs false
set_option linter.unusedVariables false
open Go.Am Go.RowKit
attribute [local irreducible] aop OpsL Trip blockExit OpsD OpsK

theorem bs_cat (a b : ByteArray) : bs ⟨(a.data.toList ++ b.data.toList).toArray⟩ = bs a ++ bs b := by simp [bs]

theorem entersSign : Enters Try.prog 30 := ⟨Try.f30, Try.func30, by kernel_rfl, by kernel_rfl⟩

set_option maxRecDepth 20000 in
set_option maxHeartbeats 4000000 in
theorem signC (W0 : World) {nx : Nat} {H : Heap} (x : ByteArray × Int) (hx : (bs x.1).length ≤ 1000000) :
    ACalls Try.prog W0 30 [symV x] nx H fun v nx' H' => ∃ t : ByteArray, v = .string t ∧ bs t = textOf x.2 (bs x.1) ∧ Ext nx H nx' H' := by
  refine ACalls.by_trip (fn := Try.f30) (c := _) Try.func30 rfl (fun tm n hn0 htm => ?_)
  have e0 : tm 0 = symV x := htm 0
  clear htm
  replace hn0 : n = 19 := hn0
  refine Trip.seq (Trip.ops ?_)
  refine OpsL.new (o := boxO x) (by subst_vars; decide) (aop_box (v := symV x) (by (first | (simp only [ASt.ev, tmPut, ↓reduceIte, reduceIte, Nat.reduceEqDiff, plain1, *]; done) | fail))) ?_
  have c0 : cellAt (H.put nx (boxO x)) ⟨nx, 0 + 0, none⟩ (.string x.1) := getc_own (by show 0 + 1 ≤ 2; decide)
  have c1 : cellAt (H.put nx (boxO x)) ⟨nx, 0 + 1, none⟩ (.int .i64 x.2) := getc_own (by show 1 + 1 ≤ 2; decide)
  have hlen : x.1.data.toList.length ≤ 1000000 := by rw [bs_length] at hx; exact hx
  repeat' (first | (refine OpsL.p (by subst_vars; decide) (by (first | (exact aop_assign (by (first | (simp only [ASt.ev, tmPut, ↓reduceIte, reduceIte, Nat.reduceEqDiff, plain1, *]; rfl) | fail))) | (exact aop_eql (by (first | (simp only [ASt.ev, tmPut, ↓reduceIte, reduceIte, Nat.reduceEqDiff, plain1, *]; rfl) | fail)) (by (first | (simp only [ASt.ev, tmPut, ↓reduceIte, reduceIte, Nat.reduceEqDiff, plain1, *]; rfl) | fail))) | (exact aop_fieldAddr (by (first | (simp only [ASt.ev, tmPut, ↓reduceIte, reduceIte, Nat.reduceEqDiff, plain1, *]; rfl) | fail)) (by exact rfl)) | (exact aop_load (by (first | (simp only [ASt.ev, tmPut, ↓reduceIte, reduceIte, Nat.reduceEqDiff, plain1, *]; rfl) | fail)) (by exact rfl) rfl (by assumption)) | fail)) ?_) | (refine Trip.seq ?_) | (refine Trip.ops ?_) | (refine Trip.block ?_) | (refine Trip.ite (by (first | (simp only [ASt.ev, tmPut, ↓reduceIte, reduceIte, Nat.reduceEqDiff, plain1, *]; rfl) | fail)) (fun _ => ?_) (fun _ => ?_)) | (refine Trip.skip ?_; ((repeat (first | refine blockExit_eq ?_ | refine blockExit_ne (by decide) ?_ | refine blockExit_normal ?_ | refine blockExit_ret ?_ | refine blockExit_goto ?_)); first | (change Trip _ _ _ _ _) | dsimp only | skip)) | (refine Trip.ret ?_; ((repeat (first | refine blockExit_eq ?_ | refine blockExit_ne (by decide) ?_ | refine blockExit_normal ?_ | refine blockExit_ret ?_ | refine blockExit_goto ?_)); first | (change Trip _ _ _ _ _) | dsimp only | skip)) | (refine OpsL.nil ?_; ((repeat (first | refine blockExit_eq ?_ | refine blockExit_ne (by decide) ?_ | refine blockExit_normal ?_ | refine blockExit_ret ?_ | refine blockExit_goto ?_)); first | (change Trip _ _ _ _ _) | dsimp only | skip)) | fail)
  · rename_i hk
    refine OpsL.p (by subst_vars; decide) (aop_addS (by (first | (simp only [ASt.ev, tmPut, ↓reduceIte, reduceIte, Nat.reduceEqDiff, plain1, *]; rfl) | fail)) (by (first | (simp only [ASt.ev, tmPut, ↓reduceIte, reduceIte, Nat.reduceEqDiff, plain1, *]; rfl) | fail)) (by show 1 + _ ≤ _; omega)) ?_
    refine OpsL.p (by subst_vars; decide) (aop_addS (by (first | (simp only [ASt.ev, tmPut, ↓reduceIte, reduceIte, Nat.reduceEqDiff, plain1, *]; rfl) | fail)) (by (first | (simp only [ASt.ev, tmPut, ↓reduceIte, reduceIte, Nat.reduceEqDiff, plain1, *]; rfl) | fail)) (by simp only [List.length_append]; show 1 + _ + 1 ≤ _; omega)) ?_
    repeat' (first | (refine OpsL.p (by subst_vars; decide) (by (first | (exact aop_assign (by (first | (simp only [ASt.ev, tmPut, ↓reduceIte, reduceIte, Nat.reduceEqDiff, plain1, *]; rfl) | fail))) | fail)) ?_) | (refine Trip.ret ?_; ((repeat (first | refine blockExit_eq ?_ | refine blockExit_ne (by decide) ?_ | refine blockExit_normal ?_ | refine blockExit_ret ?_ | refine blockExit_goto ?_)); first | (change Trip _ _ _ _ _) | dsimp only | skip)) | (refine OpsL.nil ?_; ((repeat (first | refine blockExit_eq ?_ | refine blockExit_ne (by decide) ?_ | refine blockExit_normal ?_ | refine blockExit_ret ?_ | refine blockExit_goto ?_)); first | (change Trip _ _ _ _ _) | dsimp only | skip)) | fail)
    refine ⟨.inr rfl, _, res_tmp, _, by simp [tmPut]; rfl, ?_, ext_put⟩
    simp [bs, textOf, hk]
  · rename_i hk1 hk
    refine OpsL.p (by subst_vars; decide) (aop_addS (by (first | (simp only [ASt.ev, tmPut, ↓reduceIte, reduceIte, Nat.reduceEqDiff, plain1, *]; rfl) | fail)) (by (first | (simp only [ASt.ev, tmPut, ↓reduceIte, reduceIte, Nat.reduceEqDiff, plain1, *]; rfl) | fail)) (by show 2 + _ ≤ _; omega)) ?_
    refine OpsL.p (by subst_vars; decide) (aop_addS (by (first | (simp only [ASt.ev, tmPut, ↓reduceIte, reduceIte, Nat.reduceEqDiff, plain1, *]; rfl) | fail)) (by (first | (simp only [ASt.ev, tmPut, ↓reduceIte, reduceIte, Nat.reduceEqDiff, plain1, *]; rfl) | fail)) (by simp only [List.length_append]; show 2 + _ + 1 ≤ _; omega)) ?_
    repeat' (first | (refine OpsL.p (by subst_vars; decide) (by (first | (exact aop_assign (by (first | (simp only [ASt.ev, tmPut, ↓reduceIte, reduceIte, Nat.reduceEqDiff, plain1, *]; rfl) | fail))) | fail)) ?_) | (refine Trip.ret ?_; ((repeat (first | refine blockExit_eq ?_ | refine blockExit_ne (by decide) ?_ | refine blockExit_normal ?_ | refine blockExit_ret ?_ | refine blockExit_goto ?_)); first | (change Trip _ _ _ _ _) | dsimp only | skip)) | (refine OpsL.nil ?_; ((repeat (first | refine blockExit_eq ?_ | refine blockExit_ne (by decide) ?_ | refine blockExit_normal ?_ | refine blockExit_ret ?_ | refine blockExit_goto ?_)); first | (change Trip _ _ _ _ _) | dsimp only | skip)) | fail)
    refine ⟨.inr rfl, _, res_tmp, _, by simp [tmPut]; rfl, ?_, ext_put⟩
    simp [bs, textOf, hk]
  · rename_i hk1 hk2
    refine ⟨.inr rfl, _, res_tmp, x.1, by simp [tmPut], ?_, ext_put⟩
    unfold textOf
    rw [if_neg hk1, if_neg hk2]

/-- A word's text. -/
def wtextF (ss : List (ByteArray × Int)) : List Int → List Int
  | [] => []
  | [i] => (kss ss).getD i.toNat ([], 3) |> fun x => textOf x.2 x.1
  | i :: w => ((kss ss).getD i.toNat ([], 3) |> fun x => textOf x.2 x.1) ++ 32 :: wtextF ss w

def symT (ss : List (ByteArray × Int)) (i : Int) : List Int := (kss ss).getD i.toNat ([], 3) |> fun x => textOf x.2 x.1

theorem wtextF_append (ss : List (ByteArray × Int)) (w : List Int) (i : Int) : wtextF ss (w ++ [i]) = wtextF ss w ++ (if w.length = 0 then [] else [32]) ++ symT ss i := by
  induction w with
  | nil => rfl
  | cons x w ih =>
    cases w with
    | nil => simp [wtextF, symT]
    | cons y w =>
      have e : wtextF ss ((x :: y :: w) ++ [i]) = symT ss x ++ 32 :: wtextF ss ((y :: w) ++ [i]) := rfl
      have e2 : wtextF ss (x :: y :: w) = symT ss x ++ 32 :: wtextF ss (y :: w) := rfl
      rw [e, ih, e2]
      simp

theorem symT_at {ss : List (ByteArray × Int)} {i : Int} (h0 : 0 ≤ i) (h : i.toNat < ss.length) : symT ss i = textOf (ss[i.toNat]).2 (bs (ss[i.toNat]).1) := by
  unfold symT
  rw [List.getD_eq_getElem?_getD, List.getElem?_eq_getElem (by simp [kss]; exact h)]
  simp [kss]

theorem textOf_len (k : Int) (l : List Int) : (textOf k l).length ≤ l.length + 3 := by unfold textOf; split <;> (try split) <;> simp <;> omega

theorem entersRText : Enters Try.prog 14 := ⟨Try.f14, Try.func14, by kernel_rfl, by kernel_rfl⟩

set_option maxRecDepth 20000 in
set_option maxHeartbeats 4000000 in
theorem rtextC (W0 : World) {nx : Nat} {H : Heap} {lv wv : Value} {ss : List (ByteArray × Int)} {w : List Int} (hl : SymsR H lv ss) (hw : IntsAt H wv w) (hwm : ∀ x ∈ w, 0 ≤ x ∧ x < ss.length) (hwl : w.length ≤ 1000) (hb : ∀ s ∈ ss, (bs s.1).length ≤ 1000) :
    ACalls Try.prog W0 14 [lv, wv] nx H fun v nx' H' => ∃ t : ByteArray, v = .string t ∧ bs t = wtextF ss w ∧ (bs t).length ≤ 2000 * w.length ∧ Ext nx H nx' H' := by
  obtain ⟨la, lc, rfl⟩ := hl.slice
  obtain ⟨wa, wc, rfl⟩ := hw.slice
  refine ACalls.by_trip (fn := Try.f14) (c := _) Try.func14 rfl (fun tm n hn0 htm => ?_)
  have e0 : tm 0 = .slice la ss.length lc := htm 0
  have e1 : tm 1 = .slice wa w.length wc := htm 1
  clear htm
  replace hn0 : n = 28 := hn0
  refine Trip.ok fun hok => ?_
  replace hok : ∀ id o, H id = some o → id < nx := hok
  repeat (first | (refine OpsL.p (by subst_vars; decide) (by (first | (exact aop_assign (by (first | (simp only [ASt.ev, tmPut, ↓reduceIte, reduceIte, Nat.reduceEqDiff, plain1, *]; rfl) | fail))) | fail)) ?_) | (refine Trip.seq ?_) | (refine Trip.ops ?_) | (refine Trip.block ?_) | (refine OpsL.nil ?_; ((repeat (first | refine blockExit_eq ?_ | refine blockExit_ne (by decide) ?_ | refine blockExit_normal ?_ | refine blockExit_ret ?_ | refine blockExit_goto ?_)); first | (change Trip _ _ _ _ _) | dsimp only | skip)) | fail)
  refine Trip.inv (fun (i : Nat) st => ∃ (tm : Nat → Value) (nx' : Nat) (H' : Heap) (t : ByteArray), st = ⟨tm, n, H', nx'⟩ ∧ Ext nx H nx' H' ∧ tm 0 = .slice la ss.length lc ∧ tm 1 = .slice wa w.length wc ∧ tm 5 = .string t ∧ tm 6 = .int .i64 i ∧ i ≤ w.length ∧ bs t = wtextF ss (w.take i) ∧ (bs t).length ≤ 2000 * i) (fun i => w.length - i) 0 ?_ ?_
  · exact ⟨_, _, _, ⟨#[]⟩, rfl, Ext.refl, by simp [tmPut, *], by simp [tmPut, *], by simp [tmPut], by simp [tmPut], by omega, rfl, by show 0 ≤ _; omega⟩
  · clear e0 e1
    rintro i st ⟨tm, nx', H', t, rfl, hext, e0, e1, e5, e6, hi, hbt, htl⟩
    have hlt' : t.data.toList.length ≤ 2000 * i := by rw [bs_length] at htl; exact htl
    repeat' (first | (refine OpsL.p (by subst_vars; decide) (by (first | (exact aop_move (by (first | (simp only [ASt.ev, tmPut, ↓reduceIte, reduceIte, Nat.reduceEqDiff, plain1, *]; rfl) | fail))) | (exact aop_assign (by (first | (simp only [ASt.ev, tmPut, ↓reduceIte, reduceIte, Nat.reduceEqDiff, plain1, *]; rfl) | fail))) | (exact aop_lss (by (first | (simp only [ASt.ev, tmPut, ↓reduceIte, reduceIte, Nat.reduceEqDiff, plain1, *]; rfl) | fail)) (by (first | (simp only [ASt.ev, tmPut, ↓reduceIte, reduceIte, Nat.reduceEqDiff, plain1, *]; rfl) | fail))) | (exact aop_gtr (by (first | (simp only [ASt.ev, tmPut, ↓reduceIte, reduceIte, Nat.reduceEqDiff, plain1, *]; rfl) | fail)) (by (first | (simp only [ASt.ev, tmPut, ↓reduceIte, reduceIte, Nat.reduceEqDiff, plain1, *]; rfl) | fail))) | (exact aop_len (by (first | (simp only [ASt.ev, tmPut, ↓reduceIte, reduceIte, Nat.reduceEqDiff, plain1, *]; rfl) | fail)) (by exact rfl)) | fail)) ?_) | (refine Trip.seq ?_) | (refine Trip.ops ?_) | (refine Trip.block ?_) | (refine Trip.ite (by (first | (simp only [ASt.ev, tmPut, ↓reduceIte, reduceIte, Nat.reduceEqDiff, plain1, *]; rfl) | fail)) (fun _ => ?_) (fun _ => ?_)) | (refine Trip.skip ?_; ((repeat (first | refine blockExit_eq ?_ | refine blockExit_ne (by decide) ?_ | refine blockExit_normal ?_ | refine blockExit_ret ?_ | refine blockExit_goto ?_)); first | (change Trip _ _ _ _ _) | dsimp only | skip)) | (refine Trip.exit ?_; ((repeat (first | refine blockExit_eq ?_ | refine blockExit_ne (by decide) ?_ | refine blockExit_normal ?_ | refine blockExit_ret ?_ | refine blockExit_goto ?_)); first | (change Trip _ _ _ _ _) | dsimp only | skip)) | (refine Trip.ret ?_; ((repeat (first | refine blockExit_eq ?_ | refine blockExit_ne (by decide) ?_ | refine blockExit_normal ?_ | refine blockExit_ret ?_ | refine blockExit_goto ?_)); first | (change Trip _ _ _ _ _) | dsimp only | skip)) | (refine OpsL.nil ?_; ((repeat (first | refine blockExit_eq ?_ | refine blockExit_ne (by decide) ?_ | refine blockExit_normal ?_ | refine blockExit_ret ?_ | refine blockExit_goto ?_)); first | (change Trip _ _ _ _ _) | dsimp only | skip)) | fail)
    · rename_i hlt0 hz
      have hiw : i < w.length := by omega
      obtain ⟨hx0, hx1'⟩ := hwm _ (List.getElem_mem hiw)
      have hxn : ((w[i]).toNat : Int) = w[i] := by omega
      have hxs : (w[i]).toNat < ss.length := by omega
      obtain ⟨wp, rfl, hwc⟩ := (hw.ext hext hok).get hiw
      obtain ⟨p, rfl, hg⟩ := (hl.ext hext hok).get hxs
      rw [hxn] at hg
      replace hwc : cellAt H' ⟨wp.block, wp.off + (i : Int).toNat * 1, wp.spot⟩ (.int .i64 w[i]) := by simpa using hwc
      refine OpsL.p (by subst_vars; decide) (aop_addS (by (first | (simp only [ASt.ev, tmPut, ↓reduceIte, reduceIte, Nat.reduceEqDiff, plain1, *]; rfl) | fail)) (by (first | (simp only [ASt.ev, tmPut, ↓reduceIte, reduceIte, Nat.reduceEqDiff, plain1, *]; rfl) | fail)) (by show _ + 1 ≤ _; omega)) ?_
      generalize hu0 : (⟨(t.data.toList ++ (⟨#[32]⟩ : ByteArray).data.toList).toArray⟩ : ByteArray) = u
      have hu : bs u = wtextF ss (w.take i) ++ [32] := by rw [← hu0, bs_cat, hbt]; rfl
      have hul : (bs u).length ≤ 2000 * i + 1 := by rw [← hu0, bs_cat, List.length_append]; show _ + 1 ≤ _; omega
      have hul' : u.data.toList.length ≤ 2000 * i + 1 := by rw [bs_length] at hul; exact hul
      clear hu0
      repeat (first | (refine OpsL.p (by subst_vars; decide) (by (first | (exact aop_move (by (first | (simp only [ASt.ev, tmPut, ↓reduceIte, reduceIte, Nat.reduceEqDiff, plain1, *]; rfl) | fail))) | (exact aop_assign (by (first | (simp only [ASt.ev, tmPut, ↓reduceIte, reduceIte, Nat.reduceEqDiff, plain1, *]; rfl) | fail))) | (exact aop_indexAddr (by (first | (simp only [ASt.ev, tmPut, ↓reduceIte, reduceIte, Nat.reduceEqDiff, plain1, *]; rfl) | fail)) (by (first | (simp only [ASt.ev, tmPut, ↓reduceIte, reduceIte, Nat.reduceEqDiff, plain1, *]; rfl) | fail)) (by exact rfl) (by exact rfl) (by omega) (by omega)) | (exact aop_load (by (first | (simp only [ASt.ev, tmPut, ↓reduceIte, reduceIte, Nat.reduceEqDiff, plain1, *]; rfl) | fail)) (by exact rfl) rfl (by assumption)) | fail)) ?_) | (refine Trip.ops ?_) | (refine OpsL.nil ?_; ((repeat (first | refine blockExit_eq ?_ | refine blockExit_ne (by decide) ?_ | refine blockExit_normal ?_ | refine blockExit_ret ?_ | refine blockExit_goto ?_)); first | (change Trip _ _ _ _ _) | dsimp only | skip)) | fail)
      refine OpsL.p (by subst_vars; decide) (aop_loadAgg (k := 2) (vs := [.string ss[(w[i]).toNat].1, .int .i64 ss[(w[i]).toNat].2]) (by (first | (simp only [ASt.ev, tmPut, ↓reduceIte, reduceIte, Nat.reduceEqDiff, plain1, *]; rfl) | fail)) (by exact rfl) rfl (by exact rfl) hg) ?_
      refine OpsL.call1 (by subst_vars; decide) (by (first | (simp only [ASt.ev, tmPut, ↓reduceIte, reduceIte, Nat.reduceEqDiff, plain1, *]; rfl) | fail)) entersSign (signC W0 (ss[(w[i]).toNat]) (by have := hb _ (List.getElem_mem hxs); omega)) ?_
      rintro v1 nx1 H1 ⟨g, rfl, hg1, hx1⟩
      have hgl : (bs g).length ≤ 1003 := by rw [hg1]; exact Nat.le_trans (textOf_len _ _) (by have := hb _ (List.getElem_mem hxs); omega)
      have hgl' : g.data.toList.length ≤ 1003 := by rw [bs_length] at hgl; exact hgl
      refine OpsL.p (by subst_vars; decide) (aop_addS (by (first | (simp only [ASt.ev, tmPut, ↓reduceIte, reduceIte, Nat.reduceEqDiff, plain1, *]; rfl) | fail)) (by (first | (simp only [ASt.ev, tmPut, ↓reduceIte, reduceIte, Nat.reduceEqDiff, plain1, *]; rfl) | fail)) (by omega)) ?_
      repeat (first | (refine OpsL.p (by subst_vars; decide) (by (first | (exact aop_move (by (first | (simp only [ASt.ev, tmPut, ↓reduceIte, reduceIte, Nat.reduceEqDiff, plain1, *]; rfl) | fail))) | (exact aop_assign (by (first | (simp only [ASt.ev, tmPut, ↓reduceIte, reduceIte, Nat.reduceEqDiff, plain1, *]; rfl) | fail))) | (exact aop_add (by (first | (simp only [ASt.ev, tmPut, ↓reduceIte, reduceIte, Nat.reduceEqDiff, plain1, *]; rfl) | fail)) (by (first | (simp only [ASt.ev, tmPut, ↓reduceIte, reduceIte, Nat.reduceEqDiff, plain1, *]; rfl) | fail)) (by omega)) | fail)) ?_) | (refine Trip.ops ?_) | (refine OpsL.nil ?_; ((repeat (first | refine blockExit_eq ?_ | refine blockExit_ne (by decide) ?_ | refine blockExit_normal ?_ | refine blockExit_ret ?_ | refine blockExit_goto ?_)); first | (change Trip _ _ _ _ _) | dsimp only | skip)) | fail)
      refine ⟨i + 1, ⟨_, _, _, ⟨(u.data.toList ++ g.data.toList).toArray⟩, rfl, hext.trans hx1, by simp [tmPut, *], by simp [tmPut, *], by simp [tmPut], by simp [tmPut], by omega, ?_, ?_⟩, by omega⟩
      · rw [bs_cat, hu, hg1, List.take_add_one, List.getElem?_eq_getElem hiw, Option.toList_some, wtextF_append, symT_at hx0 hxs, if_neg (by rw [List.length_take]; omega)]
      · rw [bs_cat, List.length_append]; omega
    · rename_i hlt0 hz
      have hiw : i < w.length := by omega
      obtain ⟨hx0, hx1'⟩ := hwm _ (List.getElem_mem hiw)
      have hxn : ((w[i]).toNat : Int) = w[i] := by omega
      have hxs : (w[i]).toNat < ss.length := by omega
      obtain ⟨wp, rfl, hwc⟩ := (hw.ext hext hok).get hiw
      obtain ⟨p, rfl, hg⟩ := (hl.ext hext hok).get hxs
      rw [hxn] at hg
      replace hwc : cellAt H' ⟨wp.block, wp.off + (i : Int).toNat * 1, wp.spot⟩ (.int .i64 w[i]) := by simpa using hwc
      have hu : bs t = wtextF ss (w.take i) := hbt
      repeat (first | (refine OpsL.p (by subst_vars; decide) (by (first | (exact aop_indexAddr (by (first | (simp only [ASt.ev, tmPut, ↓reduceIte, reduceIte, Nat.reduceEqDiff, plain1, *]; rfl) | fail)) (by (first | (simp only [ASt.ev, tmPut, ↓reduceIte, reduceIte, Nat.reduceEqDiff, plain1, *]; rfl) | fail)) (by exact rfl) (by exact rfl) (by omega) (by omega)) | (exact aop_load (by (first | (simp only [ASt.ev, tmPut, ↓reduceIte, reduceIte, Nat.reduceEqDiff, plain1, *]; rfl) | fail)) (by exact rfl) rfl (by assumption)) | fail)) ?_) | fail)
      refine OpsL.p (by subst_vars; decide) (aop_loadAgg (k := 2) (vs := [.string ss[(w[i]).toNat].1, .int .i64 ss[(w[i]).toNat].2]) (by (first | (simp only [ASt.ev, tmPut, ↓reduceIte, reduceIte, Nat.reduceEqDiff, plain1, *]; rfl) | fail)) (by exact rfl) rfl (by exact rfl) hg) ?_
      refine OpsL.call1 (by subst_vars; decide) (by (first | (simp only [ASt.ev, tmPut, ↓reduceIte, reduceIte, Nat.reduceEqDiff, plain1, *]; rfl) | fail)) entersSign (signC W0 (ss[(w[i]).toNat]) (by have := hb _ (List.getElem_mem hxs); omega)) ?_
      rintro v1 nx1 H1 ⟨g, rfl, hg1, hx1⟩
      have hgl : (bs g).length ≤ 1003 := by rw [hg1]; exact Nat.le_trans (textOf_len _ _) (by have := hb _ (List.getElem_mem hxs); omega)
      have hgl' : g.data.toList.length ≤ 1003 := by rw [bs_length] at hgl; exact hgl
      refine OpsL.p (by subst_vars; decide) (aop_addS (by (first | (simp only [ASt.ev, tmPut, ↓reduceIte, reduceIte, Nat.reduceEqDiff, plain1, *]; rfl) | fail)) (by (first | (simp only [ASt.ev, tmPut, ↓reduceIte, reduceIte, Nat.reduceEqDiff, plain1, *]; rfl) | fail)) (by omega)) ?_
      repeat (first | (refine OpsL.p (by subst_vars; decide) (by (first | (exact aop_move (by (first | (simp only [ASt.ev, tmPut, ↓reduceIte, reduceIte, Nat.reduceEqDiff, plain1, *]; rfl) | fail))) | (exact aop_assign (by (first | (simp only [ASt.ev, tmPut, ↓reduceIte, reduceIte, Nat.reduceEqDiff, plain1, *]; rfl) | fail))) | (exact aop_add (by (first | (simp only [ASt.ev, tmPut, ↓reduceIte, reduceIte, Nat.reduceEqDiff, plain1, *]; rfl) | fail)) (by (first | (simp only [ASt.ev, tmPut, ↓reduceIte, reduceIte, Nat.reduceEqDiff, plain1, *]; rfl) | fail)) (by omega)) | fail)) ?_) | (refine Trip.ops ?_) | (refine OpsL.nil ?_; ((repeat (first | refine blockExit_eq ?_ | refine blockExit_ne (by decide) ?_ | refine blockExit_normal ?_ | refine blockExit_ret ?_ | refine blockExit_goto ?_)); first | (change Trip _ _ _ _ _) | dsimp only | skip)) | fail)
      refine ⟨i + 1, ⟨_, _, _, ⟨(t.data.toList ++ g.data.toList).toArray⟩, rfl, hext.trans hx1, by simp [tmPut, *], by simp [tmPut, *], by simp [tmPut], by simp [tmPut], by omega, ?_, ?_⟩, by omega⟩
      · rw [bs_cat, hu, hg1, List.take_add_one, List.getElem?_eq_getElem hiw, Option.toList_some, wtextF_append, symT_at hx0 hxs, if_pos (by rw [List.length_take]; omega), List.append_nil]
      · rw [bs_cat, List.length_append]; omega
    · rename_i hge
      have hin : i = w.length := by omega
      refine ⟨.inr rfl, _, res_tmp, t, by simp [tmPut], ?_, by omega, hext⟩
      rw [hbt, hin, List.take_length]

end Go.Proofs.Ytngekapiemkgnaa
