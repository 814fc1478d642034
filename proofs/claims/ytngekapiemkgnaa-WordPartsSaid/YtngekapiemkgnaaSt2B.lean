/-
  Texts laid together: RText1, Ints1, Bld1, WText1, Back1.
-/
import Derived.Test.YtngekapiemkgnaaSt2A
import Derived.Test.YtngekapiemkgnaaBase1S
import Derived.Test.YtngekapiemkgnaaAmZK
import Derived.Test.YtngekapiemkgnaaAmY
import Derived.Test.YtngekapiemkgnaaAmW
/-
  Chapter 1: the document's Sign and Text.
-/
namespace Go.Proofs.Ytngekapiemkgnaa
set_option linter.unusedSimpArgs false
set_option linter.unusedVariables false
open Go.Am Go.RowKit
attribute [local irreducible] aop OpsL Trip blockExit OpsD OpsK

theorem bs_cat (a b : ByteArray) : bs ⟨(a.data.toList ++ b.data.toList).toArray⟩ = bs a ++ bs b := by simp [bs]

theorem entersSign : Enters Try.prog 30 := ⟨Try.f30, Try.func30, by kernel_rfl, by kernel_rfl⟩

set_option maxRecDepth 20000 in
set_option maxHeartbeats 4000000 in
theorem signC (W0 : World) {nx : Nat} {H : Heap} (x : ByteArray × Int) (hx : (bs x.1).length ≤ 1000000) :
    ACalls Try.prog W0 30 [symV x] nx H fun v nx' H' => ∃ t : ByteArray, v = .string t ∧ bs t = textOf x.2 (bs x.1) ∧ Ext nx H nx' H' := by
  refine ACalls.by_trip (fn := Try.f30) (c := _) Try.func30 rfl (fun tm n hn0 htm => ?_)
  have e0 : tm 0 = symV x := htm 0
  clear htm
  replace hn0 : n = 19 := hn0
  refine Trip.seq (Trip.ops ?_)
  refine OpsL.new (o := boxO x) (by subst_vars; decide) (aop_box (v := symV x) (by (first | (simp only [ASt.ev, tmPut, ↓reduceIte, reduceIte, Nat.reduceEqDiff, plain1, *]; done) | fail))) ?_
  have c0 : cellAt (H.put nx (boxO x)) ⟨nx, 0 + 0, none⟩ (.string x.1) := getc_own (by show 0 + 1 ≤ 2; decide)
  have c1 : cellAt (H.put nx (boxO x)) ⟨nx, 0 + 1, none⟩ (.int .i64 x.2) := getc_own (by show 1 + 1 ≤ 2; decide)
  have hlen : x.1.data.toList.length ≤ 1000000 := by rw [bs_length] at hx; exact hx
  repeat' (first | (refine OpsL.p (by subst_vars; decide) (by (first | (exact aop_assign (by (first | (simp only [ASt.ev, tmPut, ↓reduceIte, reduceIte, Nat.reduceEqDiff, plain1, *]; rfl) | fail))) | (exact aop_eql (by (first | (simp only [ASt.ev, tmPut, ↓reduceIte, reduceIte, Nat.reduceEqDiff, plain1, *]; rfl) | fail)) (by (first | (simp only [ASt.ev, tmPut, ↓reduceIte, reduceIte, Nat.reduceEqDiff, plain1, *]; rfl) | fail))) | (exact aop_fieldAddr (by (first | (simp only [ASt.ev, tmPut, ↓reduceIte, reduceIte, Nat.reduceEqDiff, plain1, *]; rfl) | fail)) (by exact rfl)) | (exact aop_load (by (first | (simp only [ASt.ev, tmPut, ↓reduceIte, reduceIte, Nat.reduceEqDiff, plain1, *]; rfl) | fail)) (by exact rfl) rfl (by assumption)) | fail)) ?_) | (refine Trip.seq ?_) | (refine Trip.ops ?_) | (refine Trip.block ?_) | (refine Trip.ite (by (first | (simp only [ASt.ev, tmPut, ↓reduceIte, reduceIte, Nat.reduceEqDiff, plain1, *]; rfl) | fail)) (fun _ => ?_) (fun _ => ?_)) | (refine Trip.skip ?_; ((repeat (first | refine blockExit_eq ?_ | refine blockExit_ne (by decide) ?_ | refine blockExit_normal ?_ | refine blockExit_ret ?_ | refine blockExit_goto ?_)); first | (change Trip _ _ _ _ _) | dsimp only | skip)) | (refine Trip.ret ?_; ((repeat (first | refine blockExit_eq ?_ | refine blockExit_ne (by decide) ?_ | refine blockExit_normal ?_ | refine blockExit_ret ?_ | refine blockExit_goto ?_)); first | (change Trip _ _ _ _ _) | dsimp only | skip)) | (refine OpsL.nil ?_; ((repeat (first | refine blockExit_eq ?_ | refine blockExit_ne (by decide) ?_ | refine blockExit_normal ?_ | refine blockExit_ret ?_ | refine blockExit_goto ?_)); first | (change Trip _ _ _ _ _) | dsimp only | skip)) | fail)
  · rename_i hk
    refine OpsL.p (by subst_vars; decide) (aop_addS (by (first | (simp only [ASt.ev, tmPut, ↓reduceIte, reduceIte, Nat.reduceEqDiff, plain1, *]; rfl) | fail)) (by (first | (simp only [ASt.ev, tmPut, ↓reduceIte, reduceIte, Nat.reduceEqDiff, plain1, *]; rfl) | fail)) (by show 1 + _ ≤ _; omega)) ?_
    refine OpsL.p (by subst_vars; decide) (aop_addS (by (first | (simp only [ASt.ev, tmPut, ↓reduceIte, reduceIte, Nat.reduceEqDiff, plain1, *]; rfl) | fail)) (by (first | (simp only [ASt.ev, tmPut, ↓reduceIte, reduceIte, Nat.reduceEqDiff, plain1, *]; rfl) | fail)) (by simp only [List.length_append]; show 1 + _ + 1 ≤ _; omega)) ?_
    repeat' (first | (refine OpsL.p (by subst_vars; decide) (by (first | (exact aop_assign (by (first | (simp only [ASt.ev, tmPut, ↓reduceIte, reduceIte, Nat.reduceEqDiff, plain1, *]; rfl) | fail))) | fail)) ?_) | (refine Trip.ret ?_; ((repeat (first | refine blockExit_eq ?_ | refine blockExit_ne (by decide) ?_ | refine blockExit_normal ?_ | refine blockExit_ret ?_ | refine blockExit_goto ?_)); first | (change Trip _ _ _ _ _) | dsimp only | skip)) | (refine OpsL.nil ?_; ((repeat (first | refine blockExit_eq ?_ | refine blockExit_ne (by decide) ?_ | refine blockExit_normal ?_ | refine blockExit_ret ?_ | refine blockExit_goto ?_)); first | (change Trip _ _ _ _ _) | dsimp only | skip)) | fail)
    refine ⟨.inr rfl, _, res_tmp, _, by simp [tmPut]; rfl, ?_, ext_put⟩
    simp [bs, textOf, hk]
  · rename_i hk1 hk
    refine OpsL.p (by subst_vars; decide) (aop_addS (by (first | (simp only [ASt.ev, tmPut, ↓reduceIte, reduceIte, Nat.reduceEqDiff, plain1, *]; rfl) | fail)) (by (first | (simp only [ASt.ev, tmPut, ↓reduceIte, reduceIte, Nat.reduceEqDiff, plain1, *]; rfl) | fail)) (by show 2 + _ ≤ _; omega)) ?_
    refine OpsL.p (by subst_vars; decide) (aop_addS (by (first | (simp only [ASt.ev, tmPut, ↓reduceIte, reduceIte, Nat.reduceEqDiff, plain1, *]; rfl) | fail)) (by (first | (simp only [ASt.ev, tmPut, ↓reduceIte, reduceIte, Nat.reduceEqDiff, plain1, *]; rfl) | fail)) (by simp only [List.length_append]; show 2 + _ + 1 ≤ _; omega)) ?_
    repeat' (first | (refine OpsL.p (by subst_vars; decide) (by (first | (exact aop_assign (by (first | (simp only [ASt.ev, tmPut, ↓reduceIte, reduceIte, Nat.reduceEqDiff, plain1, *]; rfl) | fail))) | fail)) ?_) | (refine Trip.ret ?_; ((repeat (first | refine blockExit_eq ?_ | refine blockExit_ne (by decide) ?_ | refine blockExit_normal ?_ | refine blockExit_ret ?_ | refine blockExit_goto ?_)); first | (change Trip _ _ _ _ _) | dsimp only | skip)) | (refine OpsL.nil ?_; ((repeat (first | refine blockExit_eq ?_ | refine blockExit_ne (by decide) ?_ | refine blockExit_normal ?_ | refine blockExit_ret ?_ | refine blockExit_goto ?_)); first | (change Trip _ _ _ _ _) | dsimp only | skip)) | fail)
    refine ⟨.inr rfl, _, res_tmp, _, by simp [tmPut]; rfl, ?_, ext_put⟩
    simp [bs, textOf, hk]
  · rename_i hk1 hk2
    refine ⟨.inr rfl, _, res_tmp, x.1, by simp [tmPut], ?_, ext_put⟩
    unfold textOf
    rw [if_neg hk1, if_neg hk2]

/-- A word's text. -/
def wtextF (ss : List (ByteArray × Int)) : List Int → List Int
  | [] => []
  | [i] => (kss ss).getD i.toNat ([], 3) |> fun x => textOf x.2 x.1
  | i :: w => ((kss ss).getD i.toNat ([], 3) |> fun x => textOf x.2 x.1) ++ 32 :: wtextF ss w

def symT (ss : List (ByteArray × Int)) (i : Int) : List Int := (kss ss).getD i.toNat ([], 3) |> fun x => textOf x.2 x.1

theorem wtextF_append (ss : List (ByteArray × Int)) (w : List Int) (i : Int) : wtextF ss (w ++ [i]) = wtextF ss w ++ (if w.length = 0 then [] else [32]) ++ symT ss i := by
  induction w with
  | nil => rfl
  | cons x w ih =>
    cases w with
    | nil => simp [wtextF, symT]
    | cons y w =>
      have e : wtextF ss ((x :: y :: w) ++ [i]) = symT ss x ++ 32 :: wtextF ss ((y :: w) ++ [i]) := rfl
      have e2 : wtextF ss (x :: y :: w) = symT ss x ++ 32 :: wtextF ss (y :: w) := rfl
      rw [e, ih, e2]
      simp

theorem symT_at {ss : List (ByteArray × Int)} {i : Int} (h0 : 0 ≤ i) (h : i.toNat < ss.length) : symT ss i = textOf (ss[i.toNat]).2 (bs (ss[i.toNat]).1) := by
  unfold symT
  rw [List.getD_eq_getElem?_getD, List.getElem?_eq_getElem (by simp [kss]; exact h)]
  simp [kss]

theorem textOf_len (k : Int) (l : List Int) : (textOf k l).length ≤ l.length + 3 := by unfold textOf; split <;> (try split) <;> simp <;> omega

theorem entersRText : Enters Try.prog 14 := ⟨Try.f14, Try.func14, by kernel_rfl, by kernel_rfl⟩

set_option maxRecDepth 20000 in
set_option maxHeartbeats 4000000 in
theorem rtextC (W0 : World) {nx : Nat} {H : Heap} {lv wv : Value} {ss : List (ByteArray × Int)} {w : List Int} (hl : SymsR H lv ss) (hw : IntsAt H wv w) (hwm : ∀ x ∈ w, 0 ≤ x ∧ x < ss.length) (hwl : w.length ≤ 1000) (hb : ∀ s ∈ ss, (bs s.1).length ≤ 1000) :
    ACalls Try.prog W0 14 [lv, wv] nx H fun v nx' H' => ∃ t : ByteArray, v = .string t ∧ bs t = wtextF ss w ∧ (bs t).length ≤ 2000 * w.length ∧ Ext nx H nx' H' := by
  obtain ⟨la, lc, rfl⟩ := hl.slice
  obtain ⟨wa, wc, rfl⟩ := hw.slice
  refine ACalls.by_trip (fn := Try.f14) (c := _) Try.func14 rfl (fun tm n hn0 htm => ?_)
  have e0 : tm 0 = .slice la ss.length lc := htm 0
  have e1 : tm 1 = .slice wa w.length wc := htm 1
  clear htm
  replace hn0 : n = 28 := hn0
  refine Trip.ok fun hok => ?_
  replace hok : ∀ id o, H id = some o → id < nx := hok
  repeat (first | (refine OpsL.p (by subst_vars; decide) (by (first | (exact aop_assign (by (first | (simp only [ASt.ev, tmPut, ↓reduceIte, reduceIte, Nat.reduceEqDiff, plain1, *]; rfl) | fail))) | fail)) ?_) | (refine Trip.seq ?_) | (refine Trip.ops ?_) | (refine Trip.block ?_) | (refine OpsL.nil ?_; ((repeat (first | refine blockExit_eq ?_ | refine blockExit_ne (by decide) ?_ | refine blockExit_normal ?_ | refine blockExit_ret ?_ | refine blockExit_goto ?_)); first | (change Trip _ _ _ _ _) | dsimp only | skip)) | fail)
  refine Trip.inv (fun (i : Nat) st => ∃ (tm : Nat → Value) (nx' : Nat) (H' : Heap) (t : ByteArray), st = ⟨tm, n, H', nx'⟩ ∧ Ext nx H nx' H' ∧ tm 0 = .slice la ss.length lc ∧ tm 1 = .slice wa w.length wc ∧ tm 5 = .string t ∧ tm 6 = .int .i64 i ∧ i ≤ w.length ∧ bs t = wtextF ss (w.take i) ∧ (bs t).length ≤ 2000 * i) (fun i => w.length - i) 0 ?_ ?_
  · exact ⟨_, _, _, ⟨#[]⟩, rfl, Ext.refl, by simp [tmPut, *], by simp [tmPut, *], by simp [tmPut], by simp [tmPut], by omega, rfl, by show 0 ≤ _; omega⟩
  · clear e0 e1
    rintro i st ⟨tm, nx', H', t, rfl, hext, e0, e1, e5, e6, hi, hbt, htl⟩
    have hlt' : t.data.toList.length ≤ 2000 * i := by rw [bs_length] at htl; exact htl
    repeat' (first | (refine OpsL.p (by subst_vars; decide) (by (first | (exact aop_move (by (first | (simp only [ASt.ev, tmPut, ↓reduceIte, reduceIte, Nat.reduceEqDiff, plain1, *]; rfl) | fail))) | (exact aop_assign (by (first | (simp only [ASt.ev, tmPut, ↓reduceIte, reduceIte, Nat.reduceEqDiff, plain1, *]; rfl) | fail))) | (exact aop_lss (by (first | (simp only [ASt.ev, tmPut, ↓reduceIte, reduceIte, Nat.reduceEqDiff, plain1, *]; rfl) | fail)) (by (first | (simp only [ASt.ev, tmPut, ↓reduceIte, reduceIte, Nat.reduceEqDiff, plain1, *]; rfl) | fail))) | (exact aop_gtr (by (first | (simp only [ASt.ev, tmPut, ↓reduceIte, reduceIte, Nat.reduceEqDiff, plain1, *]; rfl) | fail)) (by (first | (simp only [ASt.ev, tmPut, ↓reduceIte, reduceIte, Nat.reduceEqDiff, plain1, *]; rfl) | fail))) | (exact aop_len (by (first | (simp only [ASt.ev, tmPut, ↓reduceIte, reduceIte, Nat.reduceEqDiff, plain1, *]; rfl) | fail)) (by exact rfl)) | fail)) ?_) | (refine Trip.seq ?_) | (refine Trip.ops ?_) | (refine Trip.block ?_) | (refine Trip.ite (by (first | (simp only [ASt.ev, tmPut, ↓reduceIte, reduceIte, Nat.reduceEqDiff, plain1, *]; rfl) | fail)) (fun _ => ?_) (fun _ => ?_)) | (refine Trip.skip ?_; ((repeat (first | refine blockExit_eq ?_ | refine blockExit_ne (by decide) ?_ | refine blockExit_normal ?_ | refine blockExit_ret ?_ | refine blockExit_goto ?_)); first | (change Trip _ _ _ _ _) | dsimp only | skip)) | (refine Trip.exit ?_; ((repeat (first | refine blockExit_eq ?_ | refine blockExit_ne (by decide) ?_ | refine blockExit_normal ?_ | refine blockExit_ret ?_ | refine blockExit_goto ?_)); first | (change Trip _ _ _ _ _) | dsimp only | skip)) | (refine Trip.ret ?_; ((repeat (first | refine blockExit_eq ?_ | refine blockExit_ne (by decide) ?_ | refine blockExit_normal ?_ | refine blockExit_ret ?_ | refine blockExit_goto ?_)); first | (change Trip _ _ _ _ _) | dsimp only | skip)) | (refine OpsL.nil ?_; ((repeat (first | refine blockExit_eq ?_ | refine blockExit_ne (by decide) ?_ | refine blockExit_normal ?_ | refine blockExit_ret ?_ | refine blockExit_goto ?_)); first | (change Trip _ _ _ _ _) | dsimp only | skip)) | fail)
    · rename_i hlt0 hz
      have hiw : i < w.length := by omega
      obtain ⟨hx0, hx1'⟩ := hwm _ (List.getElem_mem hiw)
      have hxn : ((w[i]).toNat : Int) = w[i] := by omega
      have hxs : (w[i]).toNat < ss.length := by omega
      obtain ⟨wp, rfl, hwc⟩ := (hw.ext hext hok).get hiw
      obtain ⟨p, rfl, hg⟩ := (hl.ext hext hok).get hxs
      rw [hxn] at hg
      replace hwc : cellAt H' ⟨wp.block, wp.off + (i : Int).toNat * 1, wp.spot⟩ (.int .i64 w[i]) := by simpa using hwc
      refine OpsL.p (by subst_vars; decide) (aop_addS (by (first | (simp only [ASt.ev, tmPut, ↓reduceIte, reduceIte, Nat.reduceEqDiff, plain1, *]; rfl) | fail)) (by (first | (simp only [ASt.ev, tmPut, ↓reduceIte, reduceIte, Nat.reduceEqDiff, plain1, *]; rfl) | fail)) (by show _ + 1 ≤ _; omega)) ?_
      generalize hu0 : (⟨(t.data.toList ++ (⟨#[32]⟩ : ByteArray).data.toList).toArray⟩ : ByteArray) = u
      have hu : bs u = wtextF ss (w.take i) ++ [32] := by rw [← hu0, bs_cat, hbt]; rfl
      have hul : (bs u).length ≤ 2000 * i + 1 := by rw [← hu0, bs_cat, List.length_append]; show _ + 1 ≤ _; omega
      have hul' : u.data.toList.length ≤ 2000 * i + 1 := by rw [bs_length] at hul; exact hul
      clear hu0
      repeat (first | (refine OpsL.p (by subst_vars; decide) (by (first | (exact aop_move (by (first | (simp only [ASt.ev, tmPut, ↓reduceIte, reduceIte, Nat.reduceEqDiff, plain1, *]; rfl) | fail))) | (exact aop_assign (by (first | (simp only [ASt.ev, tmPut, ↓reduceIte, reduceIte, Nat.reduceEqDiff, plain1, *]; rfl) | fail))) | (exact aop_indexAddr (by (first | (simp only [ASt.ev, tmPut, ↓reduceIte, reduceIte, Nat.reduceEqDiff, plain1, *]; rfl) | fail)) (by (first | (simp only [ASt.ev, tmPut, ↓reduceIte, reduceIte, Nat.reduceEqDiff, plain1, *]; rfl) | fail)) (by exact rfl) (by exact rfl) (by omega) (by omega)) | (exact aop_load (by (first | (simp only [ASt.ev, tmPut, ↓reduceIte, reduceIte, Nat.reduceEqDiff, plain1, *]; rfl) | fail)) (by exact rfl) rfl (by assumption)) | fail)) ?_) | (refine Trip.ops ?_) | (refine OpsL.nil ?_; ((repeat (first | refine blockExit_eq ?_ | refine blockExit_ne (by decide) ?_ | refine blockExit_normal ?_ | refine blockExit_ret ?_ | refine blockExit_goto ?_)); first | (change Trip _ _ _ _ _) | dsimp only | skip)) | fail)
      refine OpsL.p (by subst_vars; decide) (aop_loadAgg (k := 2) (vs := [.string ss[(w[i]).toNat].1, .int .i64 ss[(w[i]).toNat].2]) (by (first | (simp only [ASt.ev, tmPut, ↓reduceIte, reduceIte, Nat.reduceEqDiff, plain1, *]; rfl) | fail)) (by exact rfl) rfl (by exact rfl) hg) ?_
      refine OpsL.call1 (by subst_vars; decide) (by (first | (simp only [ASt.ev, tmPut, ↓reduceIte, reduceIte, Nat.reduceEqDiff, plain1, *]; rfl) | fail)) entersSign (signC W0 (ss[(w[i]).toNat]) (by have := hb _ (List.getElem_mem hxs); omega)) ?_
      rintro v1 nx1 H1 ⟨g, rfl, hg1, hx1⟩
      have hgl : (bs g).length ≤ 1003 := by rw [hg1]; exact Nat.le_trans (textOf_len _ _) (by have := hb _ (List.getElem_mem hxs); omega)
      have hgl' : g.data.toList.length ≤ 1003 := by rw [bs_length] at hgl; exact hgl
      refine OpsL.p (by subst_vars; decide) (aop_addS (by (first | (simp only [ASt.ev, tmPut, ↓reduceIte, reduceIte, Nat.reduceEqDiff, plain1, *]; rfl) | fail)) (by (first | (simp only [ASt.ev, tmPut, ↓reduceIte, reduceIte, Nat.reduceEqDiff, plain1, *]; rfl) | fail)) (by omega)) ?_
      repeat (first | (refine OpsL.p (by subst_vars; decide) (by (first | (exact aop_move (by (first | (simp only [ASt.ev, tmPut, ↓reduceIte, reduceIte, Nat.reduceEqDiff, plain1, *]; rfl) | fail))) | (exact aop_assign (by (first | (simp only [ASt.ev, tmPut, ↓reduceIte, reduceIte, Nat.reduceEqDiff, plain1, *]; rfl) | fail))) | (exact aop_add (by (first | (simp only [ASt.ev, tmPut, ↓reduceIte, reduceIte, Nat.reduceEqDiff, plain1, *]; rfl) | fail)) (by (first | (simp only [ASt.ev, tmPut, ↓reduceIte, reduceIte, Nat.reduceEqDiff, plain1, *]; rfl) | fail)) (by omega)) | fail)) ?_) | (refine Trip.ops ?_) | (refine OpsL.nil ?_; ((repeat (first | refine blockExit_eq ?_ | refine blockExit_ne (by decide) ?_ | refine blockExit_normal ?_ | refine blockExit_ret ?_ | refine blockExit_goto ?_)); first | (change Trip _ _ _ _ _) | dsimp only | skip)) | fail)
      refine ⟨i + 1, ⟨_, _, _, ⟨(u.data.toList ++ g.data.toList).toArray⟩, rfl, hext.trans hx1, by simp [tmPut, *], by simp [tmPut, *], by simp [tmPut], by simp [tmPut], by omega, ?_, ?_⟩, by omega⟩
      · rw [bs_cat, hu, hg1, List.take_add_one, List.getElem?_eq_getElem hiw, Option.toList_some, wtextF_append, symT_at hx0 hxs, if_neg (by rw [List.length_take]; omega)]
      · rw [bs_cat, List.length_append]; omega
    · rename_i hlt0 hz
      have hiw : i < w.length := by omega
      obtain ⟨hx0, hx1'⟩ := hwm _ (List.getElem_mem hiw)
      have hxn : ((w[i]).toNat : Int) = w[i] := by omega
      have hxs : (w[i]).toNat < ss.length := by omega
      obtain ⟨wp, rfl, hwc⟩ := (hw.ext hext hok).get hiw
      obtain ⟨p, rfl, hg⟩ := (hl.ext hext hok).get hxs
      rw [hxn] at hg
      replace hwc : cellAt H' ⟨wp.block, wp.off + (i : Int).toNat * 1, wp.spot⟩ (.int .i64 w[i]) := by simpa using hwc
      have hu : bs t = wtextF ss (w.take i) := hbt
      repeat (first | (refine OpsL.p (by subst_vars; decide) (by (first | (exact aop_indexAddr (by (first | (simp only [ASt.ev, tmPut, ↓reduceIte, reduceIte, Nat.reduceEqDiff, plain1, *]; rfl) | fail)) (by (first | (simp only [ASt.ev, tmPut, ↓reduceIte, reduceIte, Nat.reduceEqDiff, plain1, *]; rfl) | fail)) (by exact rfl) (by exact rfl) (by omega) (by omega)) | (exact aop_load (by (first | (simp only [ASt.ev, tmPut, ↓reduceIte, reduceIte, Nat.reduceEqDiff, plain1, *]; rfl) | fail)) (by exact rfl) rfl (by assumption)) | fail)) ?_) | fail)
      refine OpsL.p (by subst_vars; decide) (aop_loadAgg (k := 2) (vs := [.string ss[(w[i]).toNat].1, .int .i64 ss[(w[i]).toNat].2]) (by (first | (simp only [ASt.ev, tmPut, ↓reduceIte, reduceIte, Nat.reduceEqDiff, plain1, *]; rfl) | fail)) (by exact rfl) rfl (by exact rfl) hg) ?_
      refine OpsL.call1 (by subst_vars; decide) (by (first | (simp only [ASt.ev, tmPut, ↓reduceIte, reduceIte, Nat.reduceEqDiff, plain1, *]; rfl) | fail)) entersSign (signC W0 (ss[(w[i]).toNat]) (by have := hb _ (List.getElem_mem hxs); omega)) ?_
      rintro v1 nx1 H1 ⟨g, rfl, hg1, hx1⟩
      have hgl : (bs g).length ≤ 1003 := by rw [hg1]; exact Nat.le_trans (textOf_len _ _) (by have := hb _ (List.getElem_mem hxs); omega)
      have hgl' : g.data.toList.length ≤ 1003 := by rw [bs_length] at hgl; exact hgl
      refine OpsL.p (by subst_vars; decide) (aop_addS (by (first | (simp only [ASt.ev, tmPut, ↓reduceIte, reduceIte, Nat.reduceEqDiff, plain1, *]; rfl) | fail)) (by (first | (simp only [ASt.ev, tmPut, ↓reduceIte, reduceIte, Nat.reduceEqDiff, plain1, *]; rfl) | fail)) (by omega)) ?_
      repeat (first | (refine OpsL.p (by subst_vars; decide) (by (first | (exact aop_move (by (first | (simp only [ASt.ev, tmPut, ↓reduceIte, reduceIte, Nat.reduceEqDiff, plain1, *]; rfl) | fail))) | (exact aop_assign (by (first | (simp only [ASt.ev, tmPut, ↓reduceIte, reduceIte, Nat.reduceEqDiff, plain1, *]; rfl) | fail))) | (exact aop_add (by (first | (simp only [ASt.ev, tmPut, ↓reduceIte, reduceIte, Nat.reduceEqDiff, plain1, *]; rfl) | fail)) (by (first | (simp only [ASt.ev, tmPut, ↓reduceIte, reduceIte, Nat.reduceEqDiff, plain1, *]; rfl) | fail)) (by omega)) | fail)) ?_) | (refine Trip.ops ?_) | (refine OpsL.nil ?_; ((repeat (first | refine blockExit_eq ?_ | refine blockExit_ne (by decide) ?_ | refine blockExit_normal ?_ | refine blockExit_ret ?_ | refine blockExit_goto ?_)); first | (change Trip _ _ _ _ _) | dsimp only | skip)) | fail)
      refine ⟨i + 1, ⟨_, _, _, ⟨(t.data.toList ++ g.data.toList).toArray⟩, rfl, hext.trans hx1, by simp [tmPut, *], by simp [tmPut, *], by simp [tmPut], by simp [tmPut], by omega, ?_, ?_⟩, by omega⟩
      · rw [bs_cat, hu, hg1, List.take_add_one, List.getElem?_eq_getElem hiw, Option.toList_some, wtextF_append, symT_at hx0 hxs, if_pos (by rw [List.length_take]; omega), List.append_nil]
      · rw [bs_cat, List.length_append]; omega
    · rename_i hge
      have hin : i = w.length := by omega
      refine ⟨.inr rfl, _, res_tmp, t, by simp [tmPut], ?_, by omega, hext⟩
      rw [hbt, hin, List.take_length]

end Go.Proofs.Ytngekapiemkgnaa
/-
  Chapter 1: Ints of two rows that are the same.
-/
namespace Go.Proofs.Ytngekapiemkgnaa
set_option linter.unusedSimpArgs false
set_option linter.unusedVariables false
open Go.Am Go.RowKit
attribute [local irreducible] aop OpsL Trip blockExit OpsD OpsK

theorem entersIntsC : Enters Try.prog 15 := ⟨Try.f15, Try.func15, by kernel_rfl, by kernel_rfl⟩
theorem entersParse : Enters Try.prog 12 := ⟨Try.f12, Try.func12, by kernel_rfl, by kernel_rfl⟩

theorem symsF_names (n : Int) (ns : List Int) : ∀ s ∈ symsF n ns, (bs s.1).length ≤ 1000 := by
  have hb : ∀ s ∈ baseF, (bs s.1).length ≤ 1000 := by decide
  have h3 : ∀ s ∈ ([(⟨#[98]⟩, 3), (⟨#[97]⟩, 2), (⟨#[97]⟩, 1)] : List (ByteArray × Int)), (bs s.1).length ≤ 1000 := by decide
  intro s hs
  unfold symsF at hs
  split at hs
  · exact h3 s hs
  · split at hs
    · split at hs
      · exact hb s (List.mem_of_mem_drop (List.mem_of_mem_take hs))
      · exact hb s (List.mem_of_mem_take hs)
    · exact hb s (List.mem_of_mem_take hs)

set_option maxRecDepth 20000 in
set_option maxHeartbeats 4000000 in
theorem intsEqC (W0 : World) {nx : Nat} {H : Heap} {av bv : Value} {xs : List Int} (ha : IntsAt H av xs) (hb : IntsAt H bv xs) (hn : xs.length < 1000000000) :
    ACalls Try.prog W0 15 [av, bv] nx H fun v nx' H' => v = .bool true ∧ nx' = nx ∧ H' = H := by
  obtain ⟨aa, ac, rfl⟩ := ha.slice
  obtain ⟨ba, bc, rfl⟩ := hb.slice
  refine ACalls.by_trip (fn := Try.f15) (c := _) Try.func15 rfl (fun tm n hn0 htm => ?_)
  have e0 : tm 0 = .slice aa xs.length ac := htm 0
  have e1 : tm 1 = .slice ba xs.length bc := htm 1
  clear htm
  replace hn0 : n = 26 := hn0
  repeat (first | (refine OpsL.p (by subst_vars; decide) (by (first | (exact aop_move (by (first | (simp only [ASt.ev, tmPut, ↓reduceIte, reduceIte, Nat.reduceEqDiff, plain1, *]; rfl) | fail))) | (exact aop_assign (by (first | (simp only [ASt.ev, tmPut, ↓reduceIte, reduceIte, Nat.reduceEqDiff, plain1, *]; rfl) | fail))) | (exact aop_neq (by (first | (simp only [ASt.ev, tmPut, ↓reduceIte, reduceIte, Nat.reduceEqDiff, plain1, *]; rfl) | fail)) (by (first | (simp only [ASt.ev, tmPut, ↓reduceIte, reduceIte, Nat.reduceEqDiff, plain1, *]; rfl) | fail))) | (exact aop_len (by (first | (simp only [ASt.ev, tmPut, ↓reduceIte, reduceIte, Nat.reduceEqDiff, plain1, *]; rfl) | fail)) (by exact rfl)) | fail)) ?_) | (refine Trip.seq ?_) | (refine Trip.ops ?_) | (refine Trip.ite (by (first | (simp only [ASt.ev, tmPut, ↓reduceIte, reduceIte, Nat.reduceEqDiff, plain1, *]; rfl) | fail)) (fun _ => ?_) (fun _ => ?_)) | (refine Trip.ret ?_; ((repeat (first | refine blockExit_eq ?_ | refine blockExit_ne (by decide) ?_ | refine blockExit_normal ?_ | refine blockExit_ret ?_ | refine blockExit_goto ?_)); first | (change Trip _ _ _ _ _) | dsimp only | skip)) | (refine OpsL.nil ?_; ((repeat (first | refine blockExit_eq ?_ | refine blockExit_ne (by decide) ?_ | refine blockExit_normal ?_ | refine blockExit_ret ?_ | refine blockExit_goto ?_)); first | (change Trip _ _ _ _ _) | dsimp only | skip)) | fail)
  · rename_i h; exact absurd rfl h
  · repeat (first | (refine OpsL.p (by subst_vars; decide) (by (first | (exact aop_assign (by (first | (simp only [ASt.ev, tmPut, ↓reduceIte, reduceIte, Nat.reduceEqDiff, plain1, *]; rfl) | fail))) | fail)) ?_) | (refine Trip.seq ?_) | (refine Trip.ops ?_) | (refine Trip.block ?_) | (refine Trip.skip ?_; ((repeat (first | refine blockExit_eq ?_ | refine blockExit_ne (by decide) ?_ | refine blockExit_normal ?_ | refine blockExit_ret ?_ | refine blockExit_goto ?_)); first | (change Trip _ _ _ _ _) | dsimp only | skip)) | (refine OpsL.nil ?_; ((repeat (first | refine blockExit_eq ?_ | refine blockExit_ne (by decide) ?_ | refine blockExit_normal ?_ | refine blockExit_ret ?_ | refine blockExit_goto ?_)); first | (change Trip _ _ _ _ _) | dsimp only | skip)) | fail)
    refine Trip.inv (fun (i : Nat) s => ∃ tm : Nat → Value, s = ⟨tm, n, H, nx⟩ ∧ tm 0 = .slice aa xs.length ac ∧ tm 1 = .slice ba xs.length bc ∧ i ≤ xs.length ∧ tm 5 = .int .i64 i) (fun i => xs.length - i) 0 ?_ ?_
    · exact ⟨_, rfl, e0, e1, by omega, rfl⟩
    · rintro i s ⟨tm, rfl, e0, e1, hi, e5⟩
      repeat (first | (refine OpsL.p (by subst_vars; decide) (by (first | (exact aop_move (by (first | (simp only [ASt.ev, tmPut, ↓reduceIte, reduceIte, Nat.reduceEqDiff, plain1, *]; rfl) | fail))) | (exact aop_lss (by (first | (simp only [ASt.ev, tmPut, ↓reduceIte, reduceIte, Nat.reduceEqDiff, plain1, *]; rfl) | fail)) (by (first | (simp only [ASt.ev, tmPut, ↓reduceIte, reduceIte, Nat.reduceEqDiff, plain1, *]; rfl) | fail))) | (exact aop_len (by (first | (simp only [ASt.ev, tmPut, ↓reduceIte, reduceIte, Nat.reduceEqDiff, plain1, *]; rfl) | fail)) (by exact rfl)) | fail)) ?_) | (refine Trip.seq ?_) | (refine Trip.ops ?_) | (refine Trip.block ?_) | (refine Trip.ite (by (first | (simp only [ASt.ev, tmPut, ↓reduceIte, reduceIte, Nat.reduceEqDiff, plain1, *]; rfl) | fail)) (fun _ => ?_) (fun _ => ?_)) | (refine Trip.skip ?_; ((repeat (first | refine blockExit_eq ?_ | refine blockExit_ne (by decide) ?_ | refine blockExit_normal ?_ | refine blockExit_ret ?_ | refine blockExit_goto ?_)); first | (change Trip _ _ _ _ _) | dsimp only | skip)) | (refine OpsL.nil ?_; ((repeat (first | refine blockExit_eq ?_ | refine blockExit_ne (by decide) ?_ | refine blockExit_normal ?_ | refine blockExit_ret ?_ | refine blockExit_goto ?_)); first | (change Trip _ _ _ _ _) | dsimp only | skip)) | fail)
      · have hlt : i < xs.length := by omega
        obtain ⟨p, rfl, hc⟩ := ha.get hlt
        obtain ⟨q, rfl, hd⟩ := hb.get hlt
        replace hc : cellAt H ⟨p.block, p.off + (i : Int).toNat * 1, p.spot⟩ (.int .i64 xs[i]) := by simpa using hc
        replace hd : cellAt H ⟨q.block, q.off + (i : Int).toNat * 1, q.spot⟩ (.int .i64 xs[i]) := by simpa using hd
        refine OpsL.drawn fit.mixed (by kernel_rfl) (by kernel_rfl) ?_
        repeat (first | (refine OpsL.p (by subst_vars; decide) (by (first | (exact aop_move (by (first | (simp only [ASt.ev, tmPut, ↓reduceIte, reduceIte, Nat.reduceEqDiff, plain1, *]; rfl) | fail))) | (exact aop_assign (by (first | (simp only [ASt.ev, tmPut, ↓reduceIte, reduceIte, Nat.reduceEqDiff, plain1, *]; rfl) | fail))) | (exact aop_neq (by (first | (simp only [ASt.ev, tmPut, ↓reduceIte, reduceIte, Nat.reduceEqDiff, plain1, *]; rfl) | fail)) (by (first | (simp only [ASt.ev, tmPut, ↓reduceIte, reduceIte, Nat.reduceEqDiff, plain1, *]; rfl) | fail))) | (exact aop_indexAddr (by (first | (simp only [ASt.ev, tmPut, ↓reduceIte, reduceIte, Nat.reduceEqDiff, plain1, *]; rfl) | fail)) (by (first | (simp only [ASt.ev, tmPut, ↓reduceIte, reduceIte, Nat.reduceEqDiff, plain1, *]; rfl) | fail)) (by exact rfl) (by exact rfl) (by omega) (by omega)) | (exact aop_load (by (first | (simp only [ASt.ev, tmPut, ↓reduceIte, reduceIte, Nat.reduceEqDiff, plain1, *]; rfl) | fail)) (by exact rfl) rfl (by assumption)) | fail)) ?_) | (refine Trip.seq ?_) | (refine Trip.ops ?_) | (refine Trip.ite (by (first | (simp only [ASt.ev, tmPut, ↓reduceIte, reduceIte, Nat.reduceEqDiff, plain1, *]; rfl) | fail)) (fun _ => ?_) (fun _ => ?_)) | (refine Trip.ret ?_; ((repeat (first | refine blockExit_eq ?_ | refine blockExit_ne (by decide) ?_ | refine blockExit_normal ?_ | refine blockExit_ret ?_ | refine blockExit_goto ?_)); first | (change Trip _ _ _ _ _) | dsimp only | skip)) | (refine OpsL.nil ?_; ((repeat (first | refine blockExit_eq ?_ | refine blockExit_ne (by decide) ?_ | refine blockExit_normal ?_ | refine blockExit_ret ?_ | refine blockExit_goto ?_)); first | (change Trip _ _ _ _ _) | dsimp only | skip)) | fail)
        · rename_i h; exact absurd rfl h
        · repeat (first | (refine OpsL.p (by subst_vars; decide) (by (first | (exact aop_move (by (first | (simp only [ASt.ev, tmPut, ↓reduceIte, reduceIte, Nat.reduceEqDiff, plain1, *]; rfl) | fail))) | (exact aop_assign (by (first | (simp only [ASt.ev, tmPut, ↓reduceIte, reduceIte, Nat.reduceEqDiff, plain1, *]; rfl) | fail))) | (exact aop_add (by (first | (simp only [ASt.ev, tmPut, ↓reduceIte, reduceIte, Nat.reduceEqDiff, plain1, *]; rfl) | fail)) (by (first | (simp only [ASt.ev, tmPut, ↓reduceIte, reduceIte, Nat.reduceEqDiff, plain1, *]; rfl) | fail)) (by omega)) | fail)) ?_) | (refine Trip.ops ?_) | (refine Trip.skip ?_; ((repeat (first | refine blockExit_eq ?_ | refine blockExit_ne (by decide) ?_ | refine blockExit_normal ?_ | refine blockExit_ret ?_ | refine blockExit_goto ?_)); first | (change Trip _ _ _ _ _) | dsimp only | skip)) | (refine OpsL.nil ?_; ((repeat (first | refine blockExit_eq ?_ | refine blockExit_ne (by decide) ?_ | refine blockExit_normal ?_ | refine blockExit_ret ?_ | refine blockExit_goto ?_)); first | (change Trip _ _ _ _ _) | dsimp only | skip)) | fail)
          exact ⟨i + 1, ⟨_, rfl, e0, e1, by omega, by simp [tmPut]⟩, by omega⟩
      · repeat (first | (refine OpsL.p (by subst_vars; decide) (by (first | (exact aop_assign (by (first | (simp only [ASt.ev, tmPut, ↓reduceIte, reduceIte, Nat.reduceEqDiff, plain1, *]; rfl) | fail))) | fail)) ?_) | (refine Trip.seq ?_) | (refine Trip.ops ?_) | (refine Trip.exit ?_; ((repeat (first | refine blockExit_eq ?_ | refine blockExit_ne (by decide) ?_ | refine blockExit_normal ?_ | refine blockExit_ret ?_ | refine blockExit_goto ?_)); first | (change Trip _ _ _ _ _) | dsimp only | skip)) | (refine Trip.ret ?_; ((repeat (first | refine blockExit_eq ?_ | refine blockExit_ne (by decide) ?_ | refine blockExit_normal ?_ | refine blockExit_ret ?_ | refine blockExit_goto ?_)); first | (change Trip _ _ _ _ _) | dsimp only | skip)) | (refine OpsL.nil ?_; ((repeat (first | refine blockExit_eq ?_ | refine blockExit_ne (by decide) ?_ | refine blockExit_normal ?_ | refine blockExit_ret ?_ | refine blockExit_goto ?_)); first | (change Trip _ _ _ _ _) | dsimp only | skip)) | fail)
        exact ⟨.inr rfl, _, res_tmp, by simp [tmPut], rfl, rfl⟩


end Go.Proofs.Ytngekapiemkgnaa
/-
  strings.Builder: what it holds, by contracts: copyCheck, WriteByte, WriteString, String.
-/
namespace Go.Proofs.Ytngekapiemkgnaa
set_option linter.unusedSimpArgs false
set_option linter.unusedVariables false
open Go.Am Go.RowKit

section
variable {P : Program} {W0 : World} {H : Heap} {nx : Nat} {ev : Operand → Option Value} {dst : Option Tmp} {type : TypeId} {pos : String} {after : Array Edge} {guard : Option (Nat × Bool)}
theorem aop_nilCheck {x : Operand} {a : Addr} (hx : ev x = some (.pointer (some a))) : aop P H nx ev ⟨dst, .nilCheck x, type, pos, after, guard⟩ = some (.pointer (some a), .none) := by simp [aop, hx]
theorem aop_eqlP {t u : TypeId} {x y : Operand} {a b : Option Addr} {r : Bool} (hx : ev x = some (.pointer a)) (hy : ev y = some (.pointer b)) (he : aEq P H 60 t (.pointer a) (.pointer b) = some r) :
    aop P H nx ev ⟨dst, .binOp .eql t x y u, type, pos, after, guard⟩ = some (.bool r, .none) := by simp [aop, hx, hy, aBin, eqOk, he]
theorem aop_neqP {t u : TypeId} {x y : Operand} {a b : Option Addr} {r : Bool} (hx : ev x = some (.pointer a)) (hy : ev y = some (.pointer b)) (he : aEq P H 60 t (.pointer a) (.pointer b) = some r) :
    aop P H nx ev ⟨dst, .binOp .neq t x y u, type, pos, after, guard⟩ = some (.bool !r, .none) := by simp [aop, hx, hy, aBin, eqOk, he]
theorem aop_convP {s t : TypeId} {x : Operand} {a b : Addr} (hx : ev x = some (.pointer (some a))) (h0 : aConvert P nx H s t (.pointer (some a)) = none) (h : aConvPtr P H s t (.pointer (some a)) = some (.pointer (some b))) :
    aop P H nx ev ⟨dst, .convert s t x, type, pos, after, guard⟩ = some (.pointer (some b), .none) := by simp [aop, hx, h0, h]
theorem aop_sliceData {t : TypeId} {x : Operand} {v r : Value} (hx : ev x = some v) (h : aSliceData H v = some r) :
    aop P H nx ev ⟨dst, .call ⟨.builtin .unsafeSliceData, #[x], #[t]⟩, type, pos, after, guard⟩ = some (r, .none) := by simp [aop, evAll, hx, aBuiltin, h]
theorem aop_unsafeString {ts : Array TypeId} {x y : Operand} {v u : Value} {r : Value × Eff} (hx : ev x = some v) (hy : ev y = some u) (h : aUnsafeString P H ts v u = some r) :
    aop P H nx ev ⟨dst, .call ⟨.builtin .unsafeString, #[x, y], ts⟩, type, pos, after, guard⟩ = some r := by simp [aop, evAll, hx, hy, aBuiltin, h]
theorem aop_append0 {ob : Option (Nat × Nat)} {el : TypeId} {sz bytes k : Nat} {v u : Value} {cs z xs : List Value} {x y : Operand} {st xt : TypeId} {xd : TypeDesc} (hx : ev x = some v) (hy : ev y = some u) (hv : OwnRow H ob el sz v cs k)
    (hs : source H sz u none = some (0, xs)) (h1 : xs.all (·.oneCell') = true) (hst : P.underlying st = some (.slice el)) (hxt : P.underlying xt = some xd) (hxd : notInt xd = true)
    (hsz : szOf P el = some sz) (hby : bytesOfT P el = some bytes) (hz : zeroOf P el = some z) (hzl : z.length = sz) :
    aop P H nx ev ⟨dst, .call ⟨.builtin .append, #[x, y], #[st, xt]⟩, type, pos, after, guard⟩ = some (v, .none) := by
  cases ob with
  | none =>
    obtain ⟨rfl, rfl, rfl⟩ := hv
    simp [aop, hx, hy, evAll, aBuiltin, aAppend, hst, hxt, hsz, hby, hz, hxd, hzl, hs]
    rw [if_pos (by simpa using h1)]
  | some bt =>
    obtain ⟨b, t⟩ := bt
    obtain ⟨rfl, hc, rest, ho⟩ := hv
    simp [aop, hx, hy, evAll, aBuiltin, aAppend, hst, hxt, hsz, hby, hz, hxd, hzl, hs, ho]
    rw [if_pos (by simpa using h1)]
end

section
variable {P : Program} {W0 : World}
theorem OpsL.mono' {ops : Array Oper} {Q R : ASt → Prop} (hq : ∀ s, Q s → R s) : ∀ (l : List Oper) (st : ASt), OpsL P W0 ops l st Q → OpsL P W0 ops l st R := by
  intro l
  induction l with
  | nil => intro st h; exact hq _ h
  | cons o l ih =>
    intro st h
    obtain ⟨hd, h⟩ := h
    refine ⟨hd, ?_⟩
    rcases h with ⟨hw, h⟩ | ⟨hw, ⟨v, e, hop, h⟩ | ⟨f, args, R', hc, hf, hcall, h⟩⟩
    · exact .inl ⟨hw, ih _ h⟩
    · exact .inr ⟨hw, .inl ⟨v, e, hop, ih _ h⟩⟩
    · exact .inr ⟨hw, .inr ⟨f, args, R', hc, hf, hcall, fun v nx' H' hr => ih _ (h v nx' H' hr)⟩⟩

/-- The operations of a region, up to one that hands its argument through, and behind it. -/
theorem OpsL.opsX {ops : Array Oper} {Q : ASt → Prop} : ∀ (l l2 : List Oper) (k : Nat) (st : ASt), ops.toList.drop k = l ++ l2 → OpsL P W0 ops l st (fun s => Ops P W0 ops (List.range' (k + l.length) l2.length) s Q) → Ops P W0 ops (List.range' k (l.length + l2.length)) st Q := by
  intro l
  induction l with
  | nil =>
    intro l2 k st _ h
    have h' : Ops P W0 ops (List.range' (k + 0) l2.length) st Q := h
    simpa using h'
  | cons o l ih =>
    intro l2 k st hk h
    have ho : ops[k]? = some o := by
      have : (ops.toList.drop k)[0]? = some o := by rw [hk]; rfl
      rw [List.getElem?_drop] at this
      simpa using this
    have hk' : ops.toList.drop (k + 1) = l ++ l2 := by
      rw [← List.drop_drop, hk]; rfl
    rw [show (o :: l).length + l2.length = (l.length + l2.length) + 1 by simp; omega, List.range'_succ]
    have e : k + (o :: l).length = k + 1 + l.length := by simp; omega
    rw [e] at h
    obtain ⟨hd, h⟩ := h
    rcases h with ⟨hw, h⟩ | ⟨hw, ⟨v, e, hop, h⟩ | ⟨f, args, R, hc, hf, hcall, h⟩⟩
    · exact Ops.skip ho hw hd (ih _ _ _ hk' h)
    · exact Ops.step ho hw hd hop (ih _ _ _ hk' h)
    · exact Ops.call ho hw hd hc hf hcall fun v nx' H' hr => ih _ _ _ hk' (h v nx' H' hr)

theorem Trip.opsX {id : Nat} {ops : Array Oper} {l1 l2 : List Oper} {o : Oper} {st : ASt} {Q : AExit → ASt → Prop} (he : ops.toList = l1 ++ o :: l2)
    (h : OpsL P W0 ops l1 st fun s => dstOk s o = true ∧ wants ops s o = true ∧ ∃ f x, callee s o = some (f, [x]) ∧ IdExt P f ∧ OpsL P W0 ops l2 (s.put o.dst x .none) (Q .normal)) : Trip P W0 (.region id ops false) st Q := by
  refine Trip.region ?_
  have hlen : ops.size = l1.length + (o :: l2).length := by rw [← Array.length_toList, he, List.length_append]
  rw [hlen, List.range_eq_range']
  refine OpsL.opsX l1 (o :: l2) 0 st he (OpsL.mono' ?_ _ _ h)
  rintro s ⟨hd, hw, f, x, hc, hf, h2⟩
  rw [Nat.zero_add, List.length_cons, List.range'_succ]
  have ho : ops[l1.length]? = some o := by
    have : ops.toList[l1.length]? = some o := by rw [he, List.getElem?_append_right (Nat.le_refl _)]; simp
    simpa using this
  refine Ops.ext ho hw hd hc hf ?_
  exact OpsL.ops l2 (l1.length + 1) _ (by rw [he, ← List.drop_drop, List.drop_left]; rfl) h2
end

attribute [local irreducible] aop OpsL Trip blockExit OpsD OpsK

theorem bldNoEscape : IdExt Try.prog 40 := by
  intro x w
  have h : Try.prog.funcs[40]? = some Try.f40 := Try.func40
  simp only [callFunc, Sem.run_bind, run_program, Result.andThen_ok, h]
  rfl

/-- What a builder holds: its own address or none, and a row of bytes of its own; all that was there at (nx0, H0) is there. -/
def BldAt (nx0 : Nat) (H0 : Heap) (nx : Nat) (H : Heap) (b : Nat) (txt : List Int) : Prop :=
  Ext nx0 H0 nx H ∧ nx0 ≤ b ∧ b < nx ∧ (∀ x ∈ txt, 0 ≤ x ∧ x < 256) ∧ ∃ (av bv : Value) (ob : Option (Nat × Nat)), H b = some (.cells [av, bv] 0 none false (some 51)) ∧ (av = .pointer none ∨ av = .pointer (some ⟨b, 0, none⟩)) ∧
    OwnRow H ob 5 1 bv (txt.map (.int .u8 ·)) txt.length ∧ (∀ k t, ob = some (k, t) → nx0 ≤ k ∧ k < nx ∧ k ≠ b) ∧ (txt = [] → ob = none)

theorem bytes_src (H : Heap) (s : ByteArray) : source H 1 (.string s) none = some ((bs s).length, (bs s).map (.int .u8 ·)) := by
  have h1 : s.size = s.data.toList.length := by rw [Array.length_toList]; rfl
  simp only [source, cut, if_true, Option.some.injEq, Prod.mk.injEq]
  refine ⟨by rw [bs_length, h1], ?_⟩
  rw [h1, List.take_length]
  simp [bs, bcell]
theorem bytes_one (l : List Int) : (l.map (Value.int .u8 ·)).all (·.oneCell') = true := by simp [Value.oneCell']

theorem entersCopyCheck : Enters Try.prog 35 := ⟨Try.f35, Try.func35, by kernel_rfl, by kernel_rfl⟩
theorem entersWriteByte : Enters Try.prog 23 := ⟨Try.f23, Try.func23, by kernel_rfl, by kernel_rfl⟩
theorem entersWriteString : Enters Try.prog 36 := ⟨Try.f36, Try.func36, by kernel_rfl, by kernel_rfl⟩
theorem entersBString : Enters Try.prog 26 := ⟨Try.f26, Try.func26, by kernel_rfl, by kernel_rfl⟩

theorem conv_to (H : Heap) (nx : Nat) (b : Nat) (av bv : Value) (h : H b = some (.cells [av, bv] 0 none false (some 51))) : aConvPtr Try.prog H 49 71 (.pointer (some ⟨b, 0, none⟩)) = some (.pointer (some ⟨b, 0, none⟩)) := by
  have h1 : Try.prog.underlying 49 = some (.pointer 51) := rfl
  have h2 : Try.prog.underlying 71 = some .unsafePointer := rfl
  have h3 : szOf Try.prog 51 = some 2 := rfl
  simp [aConvPtr, h1, h2, h3, h]
theorem conv_from (H : Heap) (nx : Nat) (b : Nat) (av bv : Value) (h : H b = some (.cells [av, bv] 0 none false (some 51))) : aConvPtr Try.prog H 71 49 (.pointer (some ⟨b, 0, none⟩)) = some (.pointer (some ⟨b, 0, none⟩)) := by
  have h1 : Try.prog.underlying 49 = some (.pointer 51) := rfl
  have h2 : Try.prog.underlying 71 = some .unsafePointer := rfl
  have h3 : szOf Try.prog 51 = some 2 := rfl
  have h4 : liesAt Try.prog Try.prog.depth 51 (2 / Try.prog.cellsOf 51) 0 51 1 = true := by kernel_rfl
  simp [aConvPtr, h1, h2, h3, h, h4]
theorem conv_no (nx : Nat) (H : Heap) (a : Addr) : aConvert Try.prog nx H 49 71 (.pointer (some a)) = none ∧ aConvert Try.prog nx H 71 49 (.pointer (some a)) = none := by
  have h1 : Try.prog.underlying 49 = some (.pointer 51) := rfl
  have h2 : Try.prog.underlying 71 = some .unsafePointer := rfl
  exact ⟨by simp [aConvert, h1, h2], by simp [aConvert, h1, h2]⟩

theorem BldAt.cell0 {nx0 nx b : Nat} {H0 H : Heap} {av bv : Value} (h : H b = some (.cells [av, bv] 0 none false (some 51))) : cellAt H ⟨b, 0 + 0, none⟩ av := by
  simp [cellAt, getc, h]
theorem BldAt.cell1 {nx0 nx b : Nat} {H0 H : Heap} {av bv : Value} (h : H b = some (.cells [av, bv] 0 none false (some 51))) : cellAt H ⟨b, 0 + 1, none⟩ bv := by
  simp [cellAt, getc, h]

set_option maxRecDepth 20000 in
set_option maxHeartbeats 4000000 in
theorem copyCheckC (W0 : World) {nx0 nx b : Nat} {H0 H : Heap} {txt : List Int} (hb : BldAt nx0 H0 nx H b txt) :
    ACalls Try.prog W0 35 [.pointer (some ⟨b, 0, none⟩)] nx H fun v nx' H' => BldAt nx0 H0 nx' H' b txt := by
  obtain ⟨hx, hb0, hb1, htx, av, bv, ob, hH, hav, hrow, hob, hnil⟩ := hb
  refine ACalls.by_trip (fn := Try.f35) (c := _) Try.func35 rfl (fun tm n hn0 htm => ?_)
  have e0 : tm 0 = .pointer (some ⟨b, 0, none⟩) := htm 0
  clear htm
  replace hn0 : n = 20 := hn0
  have c0 := BldAt.cell0 (nx0 := nx0) (nx := nx) (H0 := H0) hH
  have h3 : szOf Try.prog 51 = some 2 := rfl
  have h1 : Try.prog.underlying 49 = some (.pointer 51) := rfl
  repeat (first | (refine OpsL.p (by subst_vars; decide) (by (first | (exact aop_move (by (first | (simp only [ASt.ev, tmPut, ↓reduceIte, reduceIte, Nat.reduceEqDiff, plain1, *]; rfl) | fail))) | fail)) ?_) | (refine Trip.seq ?_) | (refine Trip.ops ?_) | fail)
  refine OpsL.p (by subst_vars; decide) (aop_nilCheck (by (first | (simp only [ASt.ev, tmPut, ↓reduceIte, reduceIte, Nat.reduceEqDiff, plain1, *]; rfl) | fail))) ?_
  repeat (first | (refine OpsL.p (by subst_vars; decide) (by (first | (exact aop_fieldAddr (by (first | (simp only [ASt.ev, tmPut, ↓reduceIte, reduceIte, Nat.reduceEqDiff, plain1, *]; rfl) | fail)) (by exact rfl)) | (exact aop_load (by (first | (simp only [ASt.ev, tmPut, ↓reduceIte, reduceIte, Nat.reduceEqDiff, plain1, *]; rfl) | fail)) (by exact rfl) rfl (by assumption)) | fail)) ?_) | fail)
  rcases hav with rfl | rfl
  · refine OpsL.p (by subst_vars; decide) (aop_eqlP (a := none) (b := none) (r := true) (by (first | (simp only [ASt.ev, tmPut, ↓reduceIte, reduceIte, Nat.reduceEqDiff, plain1, *]; done) | fail)) (by (first | (simp only [ASt.ev, tmPut, ↓reduceIte, reduceIte, Nat.reduceEqDiff, plain1, *]; rfl) | fail)) (by simp [aEq, h1])) ?_
    repeat (first | (refine OpsL.nil ?_; ((repeat (first | refine blockExit_eq ?_ | refine blockExit_ne (by decide) ?_ | refine blockExit_normal ?_ | refine blockExit_ret ?_ | refine blockExit_goto ?_)); first | (change Trip _ _ _ _ _) | dsimp only | skip)) | fail)
    refine Trip.iteB (b := true) (by (first | (simp only [ASt.ev, tmPut, ↓reduceIte, reduceIte, Nat.reduceEqDiff, decide_true, decide_false, not_true_eq_false, not_false_eq_true, Bool.not_true, Bool.not_false, *]; done) | fail)) (fun _ => ?_) (fun h => absurd h (by decide))
    refine Trip.opsX (l1 := [_, _, _]) (o := _) (l2 := [_, _, _, _]) rfl ?_
    repeat (first | (refine OpsL.p (by subst_vars; decide) (by (first | (exact aop_move (by (first | (simp only [ASt.ev, tmPut, ↓reduceIte, reduceIte, Nat.reduceEqDiff, plain1, *]; rfl) | fail))) | fail)) ?_) | fail)
    refine OpsL.p (by subst_vars; decide) (aop_convP (by (first | (simp only [ASt.ev, tmPut, ↓reduceIte, reduceIte, Nat.reduceEqDiff, plain1, *]; done) | fail)) (conv_no _ _ _).1 (conv_to H nx b _ _ hH)) ?_
    refine OpsL.nil ?_
    refine ⟨by simp [dstOk, hn0], rfl, 40, .pointer (some ⟨b, 0, none⟩), by simp [callee, evAll, ASt.ev, tmPut], bldNoEscape, ?_⟩
    dsimp only [ASt.put, Eff.H, Eff.nx]
    refine OpsL.p (by subst_vars; decide) (aop_convP (by (first | (simp only [ASt.ev, tmPut, ↓reduceIte, reduceIte, Nat.reduceEqDiff, plain1, *]; done) | fail)) (conv_no _ _ _).2 (conv_from H nx b _ _ hH)) ?_
    refine OpsL.p (by subst_vars; decide) (aop_nilCheck (by (first | (simp only [ASt.ev, tmPut, ↓reduceIte, reduceIte, Nat.reduceEqDiff, plain1, *]; rfl) | fail))) ?_
    repeat (first | (refine OpsL.p (by subst_vars; decide) (by (first | (exact aop_fieldAddr (by (first | (simp only [ASt.ev, tmPut, ↓reduceIte, reduceIte, Nat.reduceEqDiff, plain1, *]; rfl) | fail)) (by exact rfl)) | fail)) ?_) | fail)
    refine OpsL.storeAt (j := 0) (cs := [.pointer none, bv]) (by (first | (simp only [ASt.ev, tmPut, ↓reduceIte, reduceIte, Nat.reduceEqDiff, plain1, *]; rfl) | fail)) (by (first | (simp only [ASt.ev, tmPut, ↓reduceIte, reduceIte, Nat.reduceEqDiff, plain1, *]; rfl) | fail)) (by exact rfl) rfl rfl hH rfl (by simp) rfl ?_
    repeat (first | (refine OpsL.nil ?_; ((repeat (first | refine blockExit_eq ?_ | refine blockExit_ne (by decide) ?_ | refine blockExit_normal ?_ | refine blockExit_ret ?_ | refine blockExit_goto ?_)); first | (change Trip _ _ _ _ _) | dsimp only | skip)) | fail)
    refine ⟨.inl rfl, _, rfl, ?_⟩
    refine ⟨hx.put hb0, hb0, hb1, htx, .pointer (some ⟨b, 0, none⟩), bv, ob, Heap.put_eq, .inr rfl, OwnRow.put_ne hrow (fun k t h => (hob k t h).2.2), hob, hnil⟩
  · refine OpsL.p (by subst_vars; decide) (aop_eqlP (a := some ⟨b, 0, none⟩) (b := none) (r := false) (by (first | (simp only [ASt.ev, tmPut, ↓reduceIte, reduceIte, Nat.reduceEqDiff, plain1, *]; done) | fail)) (by (first | (simp only [ASt.ev, tmPut, ↓reduceIte, reduceIte, Nat.reduceEqDiff, plain1, *]; rfl) | fail)) (by simp [aEq, h1])) ?_
    repeat (first | (refine OpsL.nil ?_; ((repeat (first | refine blockExit_eq ?_ | refine blockExit_ne (by decide) ?_ | refine blockExit_normal ?_ | refine blockExit_ret ?_ | refine blockExit_goto ?_)); first | (change Trip _ _ _ _ _) | dsimp only | skip)) | fail)
    refine Trip.iteB (b := false) (by (first | (simp only [ASt.ev, tmPut, ↓reduceIte, reduceIte, Nat.reduceEqDiff, decide_true, decide_false, not_true_eq_false, not_false_eq_true, Bool.not_true, Bool.not_false, *]; done) | fail)) (fun h => absurd h (by decide)) (fun _ => ?_)
    repeat (first | (refine OpsL.p (by subst_vars; decide) (by (first | (exact aop_move (by (first | (simp only [ASt.ev, tmPut, ↓reduceIte, reduceIte, Nat.reduceEqDiff, plain1, *]; rfl) | fail))) | fail)) ?_) | (refine Trip.seq ?_) | (refine Trip.ops ?_) | fail)
    refine OpsL.p (by subst_vars; decide) (aop_nilCheck (by (first | (simp only [ASt.ev, tmPut, ↓reduceIte, reduceIte, Nat.reduceEqDiff, plain1, *]; rfl) | fail))) ?_
    repeat (first | (refine OpsL.p (by subst_vars; decide) (by (first | (exact aop_move (by (first | (simp only [ASt.ev, tmPut, ↓reduceIte, reduceIte, Nat.reduceEqDiff, plain1, *]; rfl) | fail))) | (exact aop_fieldAddr (by (first | (simp only [ASt.ev, tmPut, ↓reduceIte, reduceIte, Nat.reduceEqDiff, plain1, *]; rfl) | fail)) (by exact rfl)) | (exact aop_load (by (first | (simp only [ASt.ev, tmPut, ↓reduceIte, reduceIte, Nat.reduceEqDiff, plain1, *]; rfl) | fail)) (by exact rfl) rfl (by assumption)) | fail)) ?_) | fail)
    refine OpsL.p (by subst_vars; decide) (aop_neqP (a := some ⟨b, 0, none⟩) (b := some ⟨b, 0, none⟩) (r := true) (by (first | (simp only [ASt.ev, tmPut, ↓reduceIte, reduceIte, Nat.reduceEqDiff, plain1, *]; done) | fail)) (by (first | (simp only [ASt.ev, tmPut, ↓reduceIte, reduceIte, Nat.reduceEqDiff, plain1, *]; done) | fail)) (by simp [aEq, h1, h3, hH, AObj.tag])) ?_
    repeat (first | (refine OpsL.nil ?_; ((repeat (first | refine blockExit_eq ?_ | refine blockExit_ne (by decide) ?_ | refine blockExit_normal ?_ | refine blockExit_ret ?_ | refine blockExit_goto ?_)); first | (change Trip _ _ _ _ _) | dsimp only | skip)) | fail)
    refine Trip.iteB (b := false) (by (first | (simp only [ASt.ev, tmPut, ↓reduceIte, reduceIte, Nat.reduceEqDiff, decide_true, decide_false, not_true_eq_false, not_false_eq_true, Bool.not_true, Bool.not_false, *]; done) | fail)) (fun h => absurd h (by decide)) (fun _ => ?_)
    repeat (first | (refine Trip.skip ?_; ((repeat (first | refine blockExit_eq ?_ | refine blockExit_ne (by decide) ?_ | refine blockExit_normal ?_ | refine blockExit_ret ?_ | refine blockExit_goto ?_)); first | (change Trip _ _ _ _ _) | dsimp only | skip)) | fail)
    exact ⟨.inl rfl, _, rfl, hx, hb0, hb1, htx, _, bv, ob, hH, .inr rfl, hrow, hob, hnil⟩

theorem OwnRow.grown {H : Heap} {nx k m sz : Nat} {ob : Option (Nat × Nat)} {el : TypeId} {v : Value} {cs xs : List Value} (hv : OwnRow H ob el sz v cs k) (hm : xs.length = m * sz) :
    OwnRow (H.put (blkOf nx ob) (.cells (cs ++ xs) sz (some nx) false (some el))) (some (blkOf nx ob, nx)) el sz (.slice (some ⟨blkOf nx ob, 0, some nx⟩) (k + m) (k + m)) (cs ++ xs) (k + m) := by
  refine ⟨rfl, ?_, [], by rw [Heap.put_eq, List.append_nil]⟩
  rw [List.length_append, hm, Nat.add_mul]
  cases ob with
  | none => obtain ⟨_, rfl, rfl⟩ := hv; simp
  | some bt => rw [hv.2.1]

theorem blkOf_facts {nx0 nx b : Nat} {ob : Option (Nat × Nat)} (h0 : nx0 ≤ nx) (hb : b < nx) (hob : ∀ k t, ob = some (k, t) → nx0 ≤ k ∧ k < nx ∧ k ≠ b) : nx0 ≤ blkOf nx ob ∧ blkOf nx ob < nx + 1 ∧ blkOf nx ob ≠ b := by
  cases ob with
  | none => simp only [blkOf]; omega
  | some bt => have := hob bt.1 bt.2 rfl; simp only [blkOf]; omega

set_option maxRecDepth 20000 in
set_option maxHeartbeats 4000000 in
theorem writeByteC (W0 : World) {nx0 nx b : Nat} {H0 H : Heap} {txt : List Int} {c : Int} (hb : BldAt nx0 H0 nx H b txt) (hc : 0 ≤ c ∧ c < 256) (hl : txt.length ≤ 1000000000) :
    ACalls Try.prog W0 23 [.pointer (some ⟨b, 0, none⟩), .int .u8 c] nx H fun v nx' H' => BldAt nx0 H0 nx' H' b (txt ++ [c]) := by
  refine ACalls.by_trip (fn := Try.f23) (c := _) Try.func23 rfl (fun tm n hn0 htm => ?_)
  have e0 : tm 0 = .pointer (some ⟨b, 0, none⟩) := htm 0
  have e1 : tm 1 = .int .u8 c := htm 1
  clear htm
  replace hn0 : n = 17 := hn0
  repeat (first | (refine OpsL.p (by subst_vars; decide) (by (first | (exact aop_move (by (first | (simp only [ASt.ev, tmPut, ↓reduceIte, reduceIte, Nat.reduceEqDiff, plain1, *]; rfl) | fail))) | (exact aop_assign (by (first | (simp only [ASt.ev, tmPut, ↓reduceIte, reduceIte, Nat.reduceEqDiff, plain1, *]; rfl) | fail))) | fail)) ?_) | (refine Trip.seq ?_) | (refine Trip.ops ?_) | (refine OpsL.nil ?_; ((repeat (first | refine blockExit_eq ?_ | refine blockExit_ne (by decide) ?_ | refine blockExit_normal ?_ | refine blockExit_ret ?_ | refine blockExit_goto ?_)); first | (change Trip _ _ _ _ _) | dsimp only | skip)) | fail)
  refine OpsL.call1 (by subst_vars; decide) (by (first | (simp only [ASt.ev, tmPut, ↓reduceIte, reduceIte, Nat.reduceEqDiff, plain1, *]; done) | fail)) entersCopyCheck (copyCheckC W0 hb) ?_
  rintro v1 nx1 H1 ⟨hx, hb0, hb1, htx, av, bv, ob, hH, hav, hrow, hob, hnil⟩
  have c1 := BldAt.cell1 (nx0 := nx0) (nx := nx) (H0 := H0) hH
  repeat (first | (refine OpsL.p (by subst_vars; decide) (by (first | (exact aop_move (by (first | (simp only [ASt.ev, tmPut, ↓reduceIte, reduceIte, Nat.reduceEqDiff, plain1, *]; rfl) | fail))) | fail)) ?_) | (refine Trip.seq ?_) | (refine Trip.ops ?_) | (refine OpsL.nil ?_; ((repeat (first | refine blockExit_eq ?_ | refine blockExit_ne (by decide) ?_ | refine blockExit_normal ?_ | refine blockExit_ret ?_ | refine blockExit_goto ?_)); first | (change Trip _ _ _ _ _) | dsimp only | skip)) | fail)
  refine OpsL.p (by subst_vars; decide) (aop_nilCheck (by (first | (simp only [ASt.ev, tmPut, ↓reduceIte, reduceIte, Nat.reduceEqDiff, plain1, *]; rfl) | fail))) ?_
  repeat (first | (refine OpsL.p (by subst_vars; decide) (by (first | (exact aop_move (by (first | (simp only [ASt.ev, tmPut, ↓reduceIte, reduceIte, Nat.reduceEqDiff, plain1, *]; rfl) | fail))) | (exact aop_fieldAddr (by (first | (simp only [ASt.ev, tmPut, ↓reduceIte, reduceIte, Nat.reduceEqDiff, plain1, *]; rfl) | fail)) (by exact rfl)) | (exact aop_load (by (first | (simp only [ASt.ev, tmPut, ↓reduceIte, reduceIte, Nat.reduceEqDiff, plain1, *]; rfl) | fail)) (by exact rfl) rfl (by assumption)) | fail)) ?_) | fail)
  refine OpsL.new (by subst_vars; decide) (aop_buildSlice1 (k := .u8) (a := c) (b := 0) (by (first | (simp only [ASt.ev, tmPut, ↓reduceIte, reduceIte, Nat.reduceEqDiff, plain1, *]; done) | fail)) (by exact rfl) (by exact rfl) (by exact rfl)) ?_
  obtain ⟨f1, f2, f3⟩ := blkOf_facts (nx0 := nx0) (b := b) (nx := nx1 + 1) (ob := ob) (by have := hx.1; omega) (by omega) (fun k t h => by have := hob k t h; exact ⟨this.1, by omega, this.2.2⟩)
  have hrow1 := OwnRow.put_ne (j := nx1) (o := .cells [.int .u8 c] 1 none false (some 5)) hrow (fun k t h => by have := hob k t h; omega)
  refine OpsL.append (sz := 1) (bytes := 1) (k := txt.length) (m := 1) (cs := txt.map (.int .u8 ·)) (xs := [.int .u8 c]) (ob := ob) (u := .slice (some ⟨nx1, 0, none⟩) 1 1) (xd := .slice 5) (v := bv) (el := 5) (z := [.int .u8 0]) (by subst_vars; decide) (by (first | (simp only [ASt.ev, tmPut, ↓reduceIte, reduceIte, Nat.reduceEqDiff, plain1, *]; done) | fail)) (by (first | (simp only [ASt.ev, tmPut, ↓reduceIte, reduceIte, Nat.reduceEqDiff, plain1, *]; done) | fail))
    hrow1 (source_own (by exact Heap.put_eq) rfl (by omega)) rfl (by omega) (by exact rfl) (by exact rfl) rfl (by exact rfl) (by exact rfl) (by exact rfl) rfl (by omega) (by omega) ?_
  have hgr := OwnRow.grown (nx := nx1 + 1) (m := 1) (xs := [.int .u8 c]) hrow1 rfl
  refine OpsL.p (by subst_vars; decide) (aop_nilCheck (by (first | (simp only [ASt.ev, tmPut, ↓reduceIte, reduceIte, Nat.reduceEqDiff, plain1, *]; rfl) | fail))) ?_
  repeat (first | (refine OpsL.p (by subst_vars; decide) (by (first | (exact aop_fieldAddr (by (first | (simp only [ASt.ev, tmPut, ↓reduceIte, reduceIte, Nat.reduceEqDiff, plain1, *]; rfl) | fail)) (by exact rfl)) | fail)) ?_) | fail)
  refine OpsL.storeAt (j := 1) (cs := [av, bv]) (by (first | (simp only [ASt.ev, tmPut, ↓reduceIte, reduceIte, Nat.reduceEqDiff, plain1, *]; rfl) | fail)) (by (first | (simp only [ASt.ev, tmPut, ↓reduceIte, reduceIte, Nat.reduceEqDiff, plain1, *]; rfl) | fail)) (by exact rfl) rfl rfl (by rw [Heap.put_ne (Ne.symm f3), Heap.put_ne (by show b ≠ nx1; omega)]; exact hH) rfl (by simp) rfl ?_
  repeat (first | (refine OpsL.p (by subst_vars; decide) (by (first | (exact aop_assign (by (first | (simp only [ASt.ev, tmPut, ↓reduceIte, reduceIte, Nat.reduceEqDiff, plain1, *]; rfl) | fail))) | fail)) ?_) | (refine Trip.seq ?_) | (refine Trip.ops ?_) | (refine Trip.ret ?_; ((repeat (first | refine blockExit_eq ?_ | refine blockExit_ne (by decide) ?_ | refine blockExit_normal ?_ | refine blockExit_ret ?_ | refine blockExit_goto ?_)); first | (change Trip _ _ _ _ _) | dsimp only | skip)) | (refine OpsL.nil ?_; ((repeat (first | refine blockExit_eq ?_ | refine blockExit_ne (by decide) ?_ | refine blockExit_normal ?_ | refine blockExit_ret ?_ | refine blockExit_goto ?_)); first | (change Trip _ _ _ _ _) | dsimp only | skip)) | fail)
  refine ⟨.inr rfl, _, rfl, ?_⟩
  refine ⟨(((hx.up (by omega : nx1 ≤ nx1 + 1 + 1)).put (by omega)).put f1).put hb0, hb0, by omega, ?_, av, _, some (blkOf (nx1 + 1) ob, nx1 + 1), Heap.put_eq, hav, ?_, ?_, by simp⟩
  · intro x hx2
    rw [List.mem_append, List.mem_singleton] at hx2
    rcases hx2 with h | rfl
    · exact htx x h
    · exact hc
  · refine OwnRow.put_ne ?_ (fun k t h => by cases h; exact f3)
    rw [List.map_append, List.length_append]
    exact hgr
  · intro k t h
    cases h
    exact ⟨f1, f2, f3⟩

set_option maxRecDepth 20000 in
set_option maxHeartbeats 4000000 in
theorem writeStringC (W0 : World) {nx0 nx b : Nat} {H0 H : Heap} {txt : List Int} {s : ByteArray} (hb : BldAt nx0 H0 nx H b txt) (hl : txt.length ≤ 1000000000) (hs : (bs s).length ≤ 1000000000) :
    ACalls Try.prog W0 36 [.pointer (some ⟨b, 0, none⟩), .string s] nx H fun v nx' H' => BldAt nx0 H0 nx' H' b (txt ++ bs s) := by
  refine ACalls.by_trip (fn := Try.f36) (c := _) Try.func36 rfl (fun tm n hn0 htm => ?_)
  have e0 : tm 0 = .pointer (some ⟨b, 0, none⟩) := htm 0
  have e1 : tm 1 = .string s := htm 1
  clear htm
  replace hn0 : n = 19 := hn0
  repeat (first | (refine OpsL.p (by subst_vars; decide) (by (first | (exact aop_move (by (first | (simp only [ASt.ev, tmPut, ↓reduceIte, reduceIte, Nat.reduceEqDiff, plain1, *]; rfl) | fail))) | (exact aop_assign (by (first | (simp only [ASt.ev, tmPut, ↓reduceIte, reduceIte, Nat.reduceEqDiff, plain1, *]; rfl) | fail))) | fail)) ?_) | (refine Trip.seq ?_) | (refine Trip.ops ?_) | (refine OpsL.nil ?_; ((repeat (first | refine blockExit_eq ?_ | refine blockExit_ne (by decide) ?_ | refine blockExit_normal ?_ | refine blockExit_ret ?_ | refine blockExit_goto ?_)); first | (change Trip _ _ _ _ _) | dsimp only | skip)) | fail)
  refine OpsL.call1 (by subst_vars; decide) (by (first | (simp only [ASt.ev, tmPut, ↓reduceIte, reduceIte, Nat.reduceEqDiff, plain1, *]; done) | fail)) entersCopyCheck (copyCheckC W0 hb) ?_
  rintro v1 nx1 H1 ⟨hx, hb0, hb1, htx, av, bv, ob, hH, hav, hrow, hob, hnil⟩
  have c1 := BldAt.cell1 (nx0 := nx0) (nx := nx) (H0 := H0) hH
  repeat (first | (refine OpsL.p (by subst_vars; decide) (by (first | (exact aop_move (by (first | (simp only [ASt.ev, tmPut, ↓reduceIte, reduceIte, Nat.reduceEqDiff, plain1, *]; rfl) | fail))) | fail)) ?_) | (refine Trip.seq ?_) | (refine Trip.ops ?_) | (refine OpsL.nil ?_; ((repeat (first | refine blockExit_eq ?_ | refine blockExit_ne (by decide) ?_ | refine blockExit_normal ?_ | refine blockExit_ret ?_ | refine blockExit_goto ?_)); first | (change Trip _ _ _ _ _) | dsimp only | skip)) | fail)
  refine OpsL.p (by subst_vars; decide) (aop_nilCheck (by (first | (simp only [ASt.ev, tmPut, ↓reduceIte, reduceIte, Nat.reduceEqDiff, plain1, *]; rfl) | fail))) ?_
  repeat (first | (refine OpsL.p (by subst_vars; decide) (by (first | (exact aop_move (by (first | (simp only [ASt.ev, tmPut, ↓reduceIte, reduceIte, Nat.reduceEqDiff, plain1, *]; rfl) | fail))) | (exact aop_fieldAddr (by (first | (simp only [ASt.ev, tmPut, ↓reduceIte, reduceIte, Nat.reduceEqDiff, plain1, *]; rfl) | fail)) (by exact rfl)) | (exact aop_load (by (first | (simp only [ASt.ev, tmPut, ↓reduceIte, reduceIte, Nat.reduceEqDiff, plain1, *]; rfl) | fail)) (by exact rfl) rfl (by assumption)) | fail)) ?_) | fail)
  by_cases hz : (bs s).length = 0
  · have hz' : bs s = [] := List.eq_nil_of_length_eq_zero hz
    refine OpsL.p (by subst_vars; decide) (aop_append0 (sz := 1) (bytes := 1) (k := txt.length) (cs := txt.map (.int .u8 ·)) (xs := []) (ob := ob) (u := .string s) (xd := .string) (v := bv) (el := 5) (z := [.int .u8 0]) (by (first | (simp only [ASt.ev, tmPut, ↓reduceIte, reduceIte, Nat.reduceEqDiff, plain1, *]; done) | fail)) (by (first | (simp only [ASt.ev, tmPut, ↓reduceIte, reduceIte, Nat.reduceEqDiff, plain1, *]; done) | fail))
      hrow (by rw [bytes_src, hz']; rfl) rfl (by exact rfl) (by exact rfl) rfl (by exact rfl) (by exact rfl) (by exact rfl) rfl) ?_
    refine OpsL.p (by subst_vars; decide) (aop_nilCheck (by (first | (simp only [ASt.ev, tmPut, ↓reduceIte, reduceIte, Nat.reduceEqDiff, plain1, *]; rfl) | fail))) ?_
    repeat (first | (refine OpsL.p (by subst_vars; decide) (by (first | (exact aop_fieldAddr (by (first | (simp only [ASt.ev, tmPut, ↓reduceIte, reduceIte, Nat.reduceEqDiff, plain1, *]; rfl) | fail)) (by exact rfl)) | fail)) ?_) | fail)
    refine OpsL.storeAt (j := 1) (cs := [av, bv]) (by (first | (simp only [ASt.ev, tmPut, ↓reduceIte, reduceIte, Nat.reduceEqDiff, plain1, *]; rfl) | fail)) (by (first | (simp only [ASt.ev, tmPut, ↓reduceIte, reduceIte, Nat.reduceEqDiff, plain1, *]; rfl) | fail)) (by exact rfl) ?_ ?_ hH rfl (by simp) rfl ?_
    · cases ob with
      | none => obtain ⟨rfl, _⟩ := hrow; rfl
      | some bt => obtain ⟨rfl, _⟩ := hrow; rfl
    · cases ob with
      | none => obtain ⟨rfl, _⟩ := hrow; rfl
      | some bt => obtain ⟨rfl, _⟩ := hrow; rfl
    repeat (first | (refine OpsL.p (by subst_vars; decide) (by (first | (exact aop_move (by (first | (simp only [ASt.ev, tmPut, ↓reduceIte, reduceIte, Nat.reduceEqDiff, plain1, *]; rfl) | fail))) | (exact aop_assign (by (first | (simp only [ASt.ev, tmPut, ↓reduceIte, reduceIte, Nat.reduceEqDiff, plain1, *]; rfl) | fail))) | (exact aop_lenB (by (first | (simp only [ASt.ev, tmPut, ↓reduceIte, reduceIte, Nat.reduceEqDiff, plain1, *]; rfl) | fail)) (by exact rfl)) | fail)) ?_) | (refine Trip.seq ?_) | (refine Trip.ops ?_) | (refine Trip.ret ?_; ((repeat (first | refine blockExit_eq ?_ | refine blockExit_ne (by decide) ?_ | refine blockExit_normal ?_ | refine blockExit_ret ?_ | refine blockExit_goto ?_)); first | (change Trip _ _ _ _ _) | dsimp only | skip)) | (refine OpsL.nil ?_; ((repeat (first | refine blockExit_eq ?_ | refine blockExit_ne (by decide) ?_ | refine blockExit_normal ?_ | refine blockExit_ret ?_ | refine blockExit_goto ?_)); first | (change Trip _ _ _ _ _) | dsimp only | skip)) | fail)
    refine ⟨.inr rfl, _, rfl, ?_⟩
    rw [hz', List.append_nil]
    exact ⟨hx.put hb0, hb0, hb1, htx, av, bv, ob, Heap.put_eq, hav, OwnRow.put_ne hrow (fun k t h => (hob k t h).2.2), hob, hnil⟩
  · obtain ⟨f1, f2, f3⟩ := blkOf_facts (nx := nx1) (ob := ob) hx.1 hb1 hob
    refine OpsL.append (sz := 1) (bytes := 1) (k := txt.length) (m := (bs s).length) (cs := txt.map (.int .u8 ·)) (xs := (bs s).map (.int .u8 ·)) (ob := ob) (u := .string s) (xd := .string) (v := bv) (el := 5) (z := [.int .u8 0]) (by subst_vars; decide) (by (first | (simp only [ASt.ev, tmPut, ↓reduceIte, reduceIte, Nat.reduceEqDiff, plain1, *]; done) | fail)) (by (first | (simp only [ASt.ev, tmPut, ↓reduceIte, reduceIte, Nat.reduceEqDiff, plain1, *]; done) | fail))
      hrow (bytes_src _ _) (bytes_one _) hz (by exact rfl) (by exact rfl) rfl (by exact rfl) (by exact rfl) (by exact rfl) rfl (by omega) (by omega) ?_
    have hgr := OwnRow.grown (nx := nx1) (m := (bs s).length) (xs := (bs s).map (.int .u8 ·)) hrow (by simp)
    refine OpsL.p (by subst_vars; decide) (aop_nilCheck (by (first | (simp only [ASt.ev, tmPut, ↓reduceIte, reduceIte, Nat.reduceEqDiff, plain1, *]; rfl) | fail))) ?_
    repeat (first | (refine OpsL.p (by subst_vars; decide) (by (first | (exact aop_fieldAddr (by (first | (simp only [ASt.ev, tmPut, ↓reduceIte, reduceIte, Nat.reduceEqDiff, plain1, *]; rfl) | fail)) (by exact rfl)) | fail)) ?_) | fail)
    refine OpsL.storeAt (j := 1) (cs := [av, bv]) (by (first | (simp only [ASt.ev, tmPut, ↓reduceIte, reduceIte, Nat.reduceEqDiff, plain1, *]; rfl) | fail)) (by (first | (simp only [ASt.ev, tmPut, ↓reduceIte, reduceIte, Nat.reduceEqDiff, plain1, *]; rfl) | fail)) (by exact rfl) rfl rfl (by rw [Heap.put_ne (Ne.symm f3)]; exact hH) rfl (by simp) rfl ?_
    repeat (first | (refine OpsL.p (by subst_vars; decide) (by (first | (exact aop_move (by (first | (simp only [ASt.ev, tmPut, ↓reduceIte, reduceIte, Nat.reduceEqDiff, plain1, *]; rfl) | fail))) | (exact aop_assign (by (first | (simp only [ASt.ev, tmPut, ↓reduceIte, reduceIte, Nat.reduceEqDiff, plain1, *]; rfl) | fail))) | (exact aop_lenB (by (first | (simp only [ASt.ev, tmPut, ↓reduceIte, reduceIte, Nat.reduceEqDiff, plain1, *]; rfl) | fail)) (by exact rfl)) | fail)) ?_) | (refine Trip.seq ?_) | (refine Trip.ops ?_) | (refine Trip.ret ?_; ((repeat (first | refine blockExit_eq ?_ | refine blockExit_ne (by decide) ?_ | refine blockExit_normal ?_ | refine blockExit_ret ?_ | refine blockExit_goto ?_)); first | (change Trip _ _ _ _ _) | dsimp only | skip)) | (refine OpsL.nil ?_; ((repeat (first | refine blockExit_eq ?_ | refine blockExit_ne (by decide) ?_ | refine blockExit_normal ?_ | refine blockExit_ret ?_ | refine blockExit_goto ?_)); first | (change Trip _ _ _ _ _) | dsimp only | skip)) | fail)
    refine ⟨.inr rfl, _, rfl, ?_⟩
    refine ⟨((hx.up (by omega : nx1 ≤ nx1 + 1)).put f1).put hb0, hb0, by omega, ?_, av, _, some (blkOf nx1 ob, nx1), Heap.put_eq, hav, ?_, ?_, ?_⟩
    · intro x hx2
      rw [List.mem_append] at hx2
      rcases hx2 with h | h
      · exact htx x h
      · exact bs_range s x h
    · refine OwnRow.put_ne ?_ (fun k t h => by cases h; exact f3)
      rw [List.map_append, List.length_append]
      exact hgr
    · intro k t h
      cases h
      exact ⟨f1, f2, f3⟩
    · intro h
      exfalso
      apply hz
      have := congrArg List.length h
      simp only [List.length_append, List.length_nil] at this
      omega

theorem u8_back (l : List Int) (h : ∀ x ∈ l, 0 ≤ x ∧ x < 256) : bs ⟨((l.map (Value.int .u8 ·)).map u8of).toArray⟩ = l := by
  unfold bs
  simp only [List.map_map]
  conv => rhs; rw [← List.map_id l]
  refine List.map_congr_left fun x hx => ?_
  have := h x hx
  simp only [Function.comp, u8of, id]
  have h2 : (UInt8.ofNat x.toNat).toNat = x.toNat := by rw [UInt8.toNat_ofNat']; omega
  rw [h2]; omega

theorem ustr_some {H : Heap} {ob t : Nat} {txt : List Int} {rest : List Value} (hH : H ob = some (.cells (txt.map (.int .u8 ·) ++ rest) 1 (some t) false (some 5))) (h0 : txt ≠ []) (hl : txt.length ≤ 1000000000) :
    aUnsafeString Try.prog H #[69, 3] (.pointer (some ⟨ob, 0, some t⟩)) (.int .i64 txt.length) = some (.string ⟨((txt.map (Value.int .u8 ·)).map u8of).toArray⟩, .upd ob (.cells (txt.map (.int .u8 ·) ++ rest) 1 (some t) true (some 5))) := by
  have h1 : Try.prog.underlying 69 = some (.pointer 5) := rfl
  have h2 : sameLayout Try.prog Try.prog.depth 5 5 = true := by kernel_rfl
  have h3 : Try.prog.cellsOf 5 = 1 := by kernel_rfl
  have h4 : getc H ⟨ob, 0, some t⟩ txt.length = some (txt.map (.int .u8 ·)) := by
    unfold getc
    simp [hH]
  have h5 : (txt.map (Value.int .u8 ·)).all u8cell = true := by simp [u8cell]
  have h6 : 0 < txt.length := List.length_pos_iff.2 h0
  have h7 : (#[69, 3] : Array TypeId)[0]? = some 69 := rfl
  have h8 : (0 : Int) < txt.length ∧ (txt.length : Int) ≤ 1099511627776 := by omega
  unfold aUnsafeString
  simp only [h7, hH, h1, h2, h3, h4, h5, Int.toNat_natCast, h8, and_self, if_true]

theorem sdata_some {H : Heap} {ob t k c : Nat} {cs : List Value} (hH : H ob = some (.cells cs 1 (some t) false (some 5))) (h0 : 0 < k) : aSliceData H (.slice (some ⟨ob, 0, some t⟩) k c) = some (.pointer (some ⟨ob, 0, some t⟩)) := by
  simp [aSliceData, hH, h0]

set_option maxRecDepth 20000 in
set_option maxHeartbeats 4000000 in
theorem bstringC (W0 : World) {nx0 nx b : Nat} {H0 H : Heap} {txt : List Int} (hb : BldAt nx0 H0 nx H b txt) (hl : txt.length ≤ 1000000000) :
    ACalls Try.prog W0 26 [.pointer (some ⟨b, 0, none⟩)] nx H fun v nx' H' => ∃ s : ByteArray, v = .string s ∧ bs s = txt ∧ Ext nx0 H0 nx' H' := by
  obtain ⟨hx, hb0, hb1, htx, av, bv, ob, hH, hav, hrow, hob, hnil⟩ := hb
  refine ACalls.by_trip (fn := Try.f26) (c := _) Try.func26 rfl (fun tm n hn0 htm => ?_)
  have e0 : tm 0 = .pointer (some ⟨b, 0, none⟩) := htm 0
  clear htm
  replace hn0 : n = 14 := hn0
  have c1 := BldAt.cell1 (nx0 := nx0) (nx := nx) (H0 := H0) hH
  repeat (first | (refine OpsL.p (by subst_vars; decide) (by (first | (exact aop_assign (by (first | (simp only [ASt.ev, tmPut, ↓reduceIte, reduceIte, Nat.reduceEqDiff, plain1, *]; rfl) | fail))) | fail)) ?_) | (refine Trip.seq ?_) | (refine Trip.ops ?_) | (refine OpsL.nil ?_; ((repeat (first | refine blockExit_eq ?_ | refine blockExit_ne (by decide) ?_ | refine blockExit_normal ?_ | refine blockExit_ret ?_ | refine blockExit_goto ?_)); first | (change Trip _ _ _ _ _) | dsimp only | skip)) | fail)
  refine Trip.mono (Q := fun e st => e = .normal ∧ ∃ (tm' : Nat → Value) (H' : Heap) (s : ByteArray), st = ⟨tm', n, H', nx⟩ ∧ tm' 2 = .string s ∧ bs s = txt ∧ Ext nx0 H0 nx H') ?_ ?_
  · refine OpsK.drawn (K := fun _ H1 => H1 b = H b) fit.mixed (by kernel_rfl) (by kernel_rfl) rfl ?_
    have hcK : ∀ H1 : Heap, H1 b = H b → cellAt H1 ⟨b, 0 + 1, none⟩ bv := fun H1 h1 => BldAt.cell1 (nx0 := nx0) (nx := nx) (H0 := H0) (h1.trans hH)
    refine OpsK.one rfl (by kernel_rfl) ?_
    repeat (first | (refine OpsL.p (by subst_vars; decide) (by (first | (exact aop_move (by (first | (simp only [ASt.ev, tmPut, ↓reduceIte, reduceIte, Nat.reduceEqDiff, plain1, *]; rfl) | fail))) | fail)) ?_) | (refine OpsL.nil ?_; ((repeat (first | refine blockExit_eq ?_ | refine blockExit_ne (by decide) ?_ | refine blockExit_normal ?_ | refine blockExit_ret ?_ | refine blockExit_goto ?_)); first | (change Trip _ _ _ _ _) | dsimp only | skip)) | fail)
    refine OpsK.one rfl (by kernel_rfl) ?_
    refine OpsL.p (by subst_vars; decide) (aop_nilCheck (by (first | (simp only [ASt.ev, tmPut, ↓reduceIte, reduceIte, Nat.reduceEqDiff, plain1, *]; rfl) | fail))) ?_
    repeat (first | (refine OpsL.nil ?_; ((repeat (first | refine blockExit_eq ?_ | refine blockExit_ne (by decide) ?_ | refine blockExit_normal ?_ | refine blockExit_ret ?_ | refine blockExit_goto ?_)); first | (change Trip _ _ _ _ _) | dsimp only | skip)) | fail)
    refine OpsK.one rfl (by kernel_rfl) ?_
    repeat (first | (refine OpsL.p (by subst_vars; decide) (by (first | (exact aop_fieldAddr (by (first | (simp only [ASt.ev, tmPut, ↓reduceIte, reduceIte, Nat.reduceEqDiff, plain1, *]; rfl) | fail)) (by exact rfl)) | fail)) ?_) | (refine OpsL.nil ?_; ((repeat (first | refine blockExit_eq ?_ | refine blockExit_ne (by decide) ?_ | refine blockExit_normal ?_ | refine blockExit_ret ?_ | refine blockExit_goto ?_)); first | (change Trip _ _ _ _ _) | dsimp only | skip)) | fail)
    refine OpsK.sp (by subst_vars; decide) rfl (fun H' nx' hk => aop_load (by (first | (simp only [ASt.ev, tmPut, ↓reduceIte, reduceIte, Nat.reduceEqDiff, plain1, *]; rfl) | fail)) (by exact rfl) rfl (hcK H' hk)) ?_
    by_cases hz : txt = []
    · subst hz
      obtain rfl := hnil rfl
      obtain ⟨rfl, _⟩ := hrow
      refine OpsK.eff (v := .pointer none) (e := .none) (by simp [dstOk, hn0]) rfl (by kernel_rfl) (aop_sliceData (by (first | (simp only [ASt.ev, tmPut, ↓reduceIte, reduceIte, Nat.reduceEqDiff, plain1, *]; rfl) | fail)) rfl) rfl ?_
      dsimp only [ASt.put, Eff.H, Eff.nx]
      refine OpsK.one rfl (by kernel_rfl) ?_
      repeat (first | (refine OpsL.p (by subst_vars; decide) (by (first | (exact aop_move (by (first | (simp only [ASt.ev, tmPut, ↓reduceIte, reduceIte, Nat.reduceEqDiff, plain1, *]; rfl) | fail))) | fail)) ?_) | (refine OpsL.nil ?_; ((repeat (first | refine blockExit_eq ?_ | refine blockExit_ne (by decide) ?_ | refine blockExit_normal ?_ | refine blockExit_ret ?_ | refine blockExit_goto ?_)); first | (change Trip _ _ _ _ _) | dsimp only | skip)) | fail)
      refine OpsK.one rfl (by kernel_rfl) ?_
      refine OpsL.p (by subst_vars; decide) (aop_nilCheck (by (first | (simp only [ASt.ev, tmPut, ↓reduceIte, reduceIte, Nat.reduceEqDiff, plain1, *]; rfl) | fail))) ?_
      repeat (first | (refine OpsL.nil ?_; ((repeat (first | refine blockExit_eq ?_ | refine blockExit_ne (by decide) ?_ | refine blockExit_normal ?_ | refine blockExit_ret ?_ | refine blockExit_goto ?_)); first | (change Trip _ _ _ _ _) | dsimp only | skip)) | fail)
      refine OpsK.one rfl (by kernel_rfl) ?_
      repeat (first | (refine OpsL.p (by subst_vars; decide) (by (first | (exact aop_fieldAddr (by (first | (simp only [ASt.ev, tmPut, ↓reduceIte, reduceIte, Nat.reduceEqDiff, plain1, *]; rfl) | fail)) (by exact rfl)) | fail)) ?_) | (refine OpsL.nil ?_; ((repeat (first | refine blockExit_eq ?_ | refine blockExit_ne (by decide) ?_ | refine blockExit_normal ?_ | refine blockExit_ret ?_ | refine blockExit_goto ?_)); first | (change Trip _ _ _ _ _) | dsimp only | skip)) | fail)
      refine OpsK.sp (by subst_vars; decide) rfl (fun H' nx' hk => aop_load (by (first | (simp only [ASt.ev, tmPut, ↓reduceIte, reduceIte, Nat.reduceEqDiff, plain1, *]; rfl) | fail)) (by exact rfl) rfl (hcK H' hk)) ?_
      refine OpsK.sp (by subst_vars; decide) rfl (fun H' nx' hk => aop_len (by (first | (simp only [ASt.ev, tmPut, ↓reduceIte, reduceIte, Nat.reduceEqDiff, plain1, *]; rfl) | fail)) (by exact rfl)) ?_
      refine OpsK.eff (v := .string ⟨#[]⟩) (e := .none) (by simp [dstOk, hn0]) rfl (by kernel_rfl) (aop_unsafeString (by (first | (simp only [ASt.ev, tmPut, ↓reduceIte, reduceIte, Nat.reduceEqDiff, plain1, *]; rfl) | fail)) (by (first | (simp only [ASt.ev, tmPut, ↓reduceIte, reduceIte, Nat.reduceEqDiff, plain1, *]; rfl) | fail)) rfl) rfl ?_
      dsimp only [ASt.put, Eff.H, Eff.nx]
      refine OpsK.one rfl (by kernel_rfl) ?_
      repeat (first | (refine OpsL.p (by subst_vars; decide) (by (first | (exact aop_assign (by (first | (simp only [ASt.ev, tmPut, ↓reduceIte, reduceIte, Nat.reduceEqDiff, plain1, *]; rfl) | fail))) | fail)) ?_) | (refine OpsL.nil ?_; ((repeat (first | refine blockExit_eq ?_ | refine blockExit_ne (by decide) ?_ | refine blockExit_normal ?_ | refine blockExit_ret ?_ | refine blockExit_goto ?_)); first | (change Trip _ _ _ _ _) | dsimp only | skip)) | fail)
      refine OpsK.nil ?_
      exact ⟨rfl, _, _, ⟨#[]⟩, rfl, by simp [tmPut], rfl, hx⟩
    · cases ob with
      | none =>
        obtain ⟨_, h2, _⟩ := hrow
        exact absurd (by simpa using h2) hz
      | some bt =>
        obtain ⟨ob, t⟩ := bt
        obtain ⟨rfl, hc, rest, hrowH⟩ := hrow
        have hpos : 0 < txt.length := List.length_pos_iff.2 hz
        have hk := hob ob t rfl
        refine OpsK.eff (v := .pointer (some ⟨ob, 0, some t⟩)) (e := .none) (by simp [dstOk, hn0]) rfl (by kernel_rfl) (aop_sliceData (by (first | (simp only [ASt.ev, tmPut, ↓reduceIte, reduceIte, Nat.reduceEqDiff, plain1, *]; rfl) | fail)) (sdata_some hrowH hpos)) rfl ?_
        dsimp only [ASt.put, Eff.H, Eff.nx]
        refine OpsK.one rfl (by kernel_rfl) ?_
        repeat (first | (refine OpsL.p (by subst_vars; decide) (by (first | (exact aop_move (by (first | (simp only [ASt.ev, tmPut, ↓reduceIte, reduceIte, Nat.reduceEqDiff, plain1, *]; rfl) | fail))) | fail)) ?_) | (refine OpsL.nil ?_; ((repeat (first | refine blockExit_eq ?_ | refine blockExit_ne (by decide) ?_ | refine blockExit_normal ?_ | refine blockExit_ret ?_ | refine blockExit_goto ?_)); first | (change Trip _ _ _ _ _) | dsimp only | skip)) | fail)
        refine OpsK.one rfl (by kernel_rfl) ?_
        refine OpsL.p (by subst_vars; decide) (aop_nilCheck (by (first | (simp only [ASt.ev, tmPut, ↓reduceIte, reduceIte, Nat.reduceEqDiff, plain1, *]; rfl) | fail))) ?_
        repeat (first | (refine OpsL.nil ?_; ((repeat (first | refine blockExit_eq ?_ | refine blockExit_ne (by decide) ?_ | refine blockExit_normal ?_ | refine blockExit_ret ?_ | refine blockExit_goto ?_)); first | (change Trip _ _ _ _ _) | dsimp only | skip)) | fail)
        refine OpsK.one rfl (by kernel_rfl) ?_
        repeat (first | (refine OpsL.p (by subst_vars; decide) (by (first | (exact aop_fieldAddr (by (first | (simp only [ASt.ev, tmPut, ↓reduceIte, reduceIte, Nat.reduceEqDiff, plain1, *]; rfl) | fail)) (by exact rfl)) | fail)) ?_) | (refine OpsL.nil ?_; ((repeat (first | refine blockExit_eq ?_ | refine blockExit_ne (by decide) ?_ | refine blockExit_normal ?_ | refine blockExit_ret ?_ | refine blockExit_goto ?_)); first | (change Trip _ _ _ _ _) | dsimp only | skip)) | fail)
        refine OpsK.sp (by subst_vars; decide) rfl (fun H' nx' hk => aop_load (by (first | (simp only [ASt.ev, tmPut, ↓reduceIte, reduceIte, Nat.reduceEqDiff, plain1, *]; rfl) | fail)) (by exact rfl) rfl (hcK H' hk)) ?_
        refine OpsK.sp (by subst_vars; decide) rfl (fun H' nx' hk => aop_len (by (first | (simp only [ASt.ev, tmPut, ↓reduceIte, reduceIte, Nat.reduceEqDiff, plain1, *]; rfl) | fail)) (by exact rfl)) ?_
        refine OpsK.eff (by simp [dstOk, hn0]) rfl (by kernel_rfl) (aop_unsafeString (by (first | (simp only [ASt.ev, tmPut, ↓reduceIte, reduceIte, Nat.reduceEqDiff, plain1, *]; done) | fail)) (by (first | (simp only [ASt.ev, tmPut, ↓reduceIte, reduceIte, Nat.reduceEqDiff, plain1, *]; done) | fail)) (ustr_some hrowH hz hl)) (Heap.put_ne (Ne.symm hk.2.2)) ?_
        dsimp only [ASt.put, Eff.H, Eff.nx]
        refine OpsK.one rfl (by kernel_rfl) ?_
        repeat (first | (refine OpsL.p (by subst_vars; decide) (by (first | (exact aop_assign (by (first | (simp only [ASt.ev, tmPut, ↓reduceIte, reduceIte, Nat.reduceEqDiff, plain1, *]; rfl) | fail))) | fail)) ?_) | (refine OpsL.nil ?_; ((repeat (first | refine blockExit_eq ?_ | refine blockExit_ne (by decide) ?_ | refine blockExit_normal ?_ | refine blockExit_ret ?_ | refine blockExit_goto ?_)); first | (change Trip _ _ _ _ _) | dsimp only | skip)) | fail)
        refine OpsK.nil ?_
        exact ⟨rfl, _, _, _, rfl, by simp [tmPut], u8_back txt htx, hx.put hk.1⟩
  · rintro e st ⟨rfl, tm', H', s, rfl, e2, hs, hx'⟩
    dsimp only
    repeat (first | (refine Trip.ret ?_; ((repeat (first | refine blockExit_eq ?_ | refine blockExit_ne (by decide) ?_ | refine blockExit_normal ?_ | refine blockExit_ret ?_ | refine blockExit_goto ?_)); first | (change Trip _ _ _ _ _) | dsimp only | skip)) | fail)
    exact ⟨.inr rfl, _, res_tmp, s, e2, hs, hx'⟩

end Go.Proofs.Ytngekapiemkgnaa
/-
  Chapter 1: word.write, word.Text: the text of a word, as the document says.
-/
namespace Go.Proofs.Ytngekapiemkgnaa
set_option linter.unusedSimpArgs false
set_option linter.unusedVariables false
open Go.Am Go.RowKit
attribute [local irreducible] aop OpsL Trip blockExit OpsD OpsK

theorem entersWrite : Enters Try.prog 24 := ⟨Try.f24, Try.func24, by kernel_rfl, by kernel_rfl⟩
theorem entersWText : Enters Try.prog 11 := ⟨Try.f11, Try.func11, by kernel_rfl, by kernel_rfl⟩
theorem entersSymAtT : Enters Try.prog 25 := ⟨Try.f25, Try.func25, by kernel_rfl, by kernel_rfl⟩

theorem BldAt.putF {nx0 nx b : Nat} {H0 H : Heap} {txt : List Int} {o : AObj} (h : BldAt nx0 H0 nx H b txt) : BldAt nx0 H0 (nx + 1) (H.put nx o) b txt := by
  obtain ⟨hx, hb0, hb1, htx, av, bv, ob, hH, hav, hrow, hob, hnil⟩ := h
  exact ⟨(hx.up (Nat.le_succ _)).put hx.1, hb0, by omega, htx, av, bv, ob, by rw [Heap.put_ne (by omega)]; exact hH, hav, OwnRow.put_ne hrow (fun k t h => by have := hob k t h; omega), fun k t h => by have := hob k t h; exact ⟨this.1, by omega, this.2.2⟩, hnil⟩

/-- What goes on besides leaves a builder as it is. -/
theorem BldAt.ext {nx0 nx nx' b : Nat} {H0 H H' : Heap} {txt : List Int} (h : BldAt nx0 H0 nx H b txt) (hx : Ext nx H nx' H') : BldAt nx0 H0 nx' H' b txt := by
  obtain ⟨hx0, hb0, hb1, htx, av, bv, ob, hH, hav, hrow, hob, hnil⟩ := h
  exact ⟨hx0.trans hx, hb0, by have := hx.1; omega, htx, av, bv, ob, by rw [hx.2 b hb1]; exact hH, hav, OwnRow.ext hx (fun k t h => (hob k t h).2.1) hrow, fun k t h => by have := hob k t h; have := hx.1; omega, hnil⟩

set_option maxRecDepth 20000 in
set_option maxHeartbeats 4000000 in
theorem writeC (W0 : World) {nx0 nx b : Nat} {H0 H : Heap} {txt : List Int} (hb : BldAt nx0 H0 nx H b txt) (hl : txt.length ≤ 900000000) (x : ByteArray × Int) (hx : (bs x.1).length ≤ 1000000) :
    ACalls Try.prog W0 24 [.pointer (some ⟨b, 0, none⟩), symV x] nx H fun v nx' H' => BldAt nx0 H0 nx' H' b (txt ++ textOf x.2 (bs x.1)) := by
  refine ACalls.by_trip (fn := Try.f24) (c := _) Try.func24 rfl (fun tm n hn0 htm => ?_)
  have e0 : tm 0 = .pointer (some ⟨b, 0, none⟩) := htm 0
  have e1 : tm 1 = symV x := htm 1
  clear htm
  replace hn0 : n = 26 := hn0
  refine Trip.seq (Trip.ops ?_)
  refine OpsL.new (o := boxO x) (by subst_vars; decide) (aop_box (v := symV x) (by (first | (simp only [ASt.ev, tmPut, ↓reduceIte, reduceIte, Nat.reduceEqDiff, plain1, *]; done) | fail))) ?_
  have hb' := hb.putF (o := boxO x)
  have c0 : cellAt (H.put nx (boxO x)) ⟨nx, 0 + 0, none⟩ (.string x.1) := getc_own (by show 0 + 1 ≤ 2; decide)
  have c1 : cellAt (H.put nx (boxO x)) ⟨nx, 0 + 1, none⟩ (.int .i64 x.2) := getc_own (by show 1 + 1 ≤ 2; decide)
  have hlen : x.1.data.toList.length ≤ 1000000 := by rw [bs_length] at hx; exact hx
  have hB1 : bs ⟨([60] ++ x.1.data.toList ++ [62]).toArray⟩ = 60 :: bs x.1 ++ [62] := by simp [bs]
  have hB2 : bs ⟨([60, 47] ++ x.1.data.toList ++ [62]).toArray⟩ = 60 :: 47 :: bs x.1 ++ [62] := by simp [bs]
  repeat' (first | (refine OpsL.p (by subst_vars; decide) (by (first | (exact aop_move (by (first | (simp only [ASt.ev, tmPut, ↓reduceIte, reduceIte, Nat.reduceEqDiff, plain1, *]; rfl) | fail))) | (exact aop_assign (by (first | (simp only [ASt.ev, tmPut, ↓reduceIte, reduceIte, Nat.reduceEqDiff, plain1, *]; rfl) | fail))) | (exact aop_eql (by (first | (simp only [ASt.ev, tmPut, ↓reduceIte, reduceIte, Nat.reduceEqDiff, plain1, *]; rfl) | fail)) (by (first | (simp only [ASt.ev, tmPut, ↓reduceIte, reduceIte, Nat.reduceEqDiff, plain1, *]; rfl) | fail))) | (exact aop_fieldAddr (by (first | (simp only [ASt.ev, tmPut, ↓reduceIte, reduceIte, Nat.reduceEqDiff, plain1, *]; rfl) | fail)) (by exact rfl)) | (exact aop_load (by (first | (simp only [ASt.ev, tmPut, ↓reduceIte, reduceIte, Nat.reduceEqDiff, plain1, *]; rfl) | fail)) (by exact rfl) rfl (by assumption)) | fail)) ?_) | (refine Trip.seq ?_) | (refine Trip.ops ?_) | (refine Trip.block ?_) | (refine Trip.ite (by (first | (simp only [ASt.ev, tmPut, ↓reduceIte, reduceIte, Nat.reduceEqDiff, plain1, *]; rfl) | fail)) (fun _ => ?_) (fun _ => ?_)) | (refine OpsL.nil ?_; ((repeat (first | refine blockExit_eq ?_ | refine blockExit_ne (by decide) ?_ | refine blockExit_normal ?_ | refine blockExit_ret ?_ | refine blockExit_goto ?_)); first | (change Trip _ _ _ _ _) | dsimp only | skip)) | fail)
  · rename_i hk
    refine OpsL.p (by subst_vars; decide) (aop_addS (by (first | (simp only [ASt.ev, tmPut, ↓reduceIte, reduceIte, Nat.reduceEqDiff, plain1, *]; rfl) | fail)) (by (first | (simp only [ASt.ev, tmPut, ↓reduceIte, reduceIte, Nat.reduceEqDiff, plain1, *]; rfl) | fail)) (by show 1 + _ ≤ _; omega)) ?_
    refine OpsL.p (by subst_vars; decide) (aop_addS (by (first | (simp only [ASt.ev, tmPut, ↓reduceIte, reduceIte, Nat.reduceEqDiff, plain1, *]; rfl) | fail)) (by (first | (simp only [ASt.ev, tmPut, ↓reduceIte, reduceIte, Nat.reduceEqDiff, plain1, *]; rfl) | fail)) (by simp only [List.length_append]; show 1 + _ + 1 ≤ _; omega)) ?_
    refine OpsL.call2 (by subst_vars; decide) (by (first | (simp only [ASt.ev, tmPut, ↓reduceIte, reduceIte, Nat.reduceEqDiff, plain1, *]; done) | fail)) (by (first | (simp only [ASt.ev, tmPut, ↓reduceIte, reduceIte, Nat.reduceEqDiff, plain1, *]; rfl) | fail)) entersWriteString (writeStringC W0 hb' (by omega) (by rw [hB1]; simp; omega)) ?_
    rintro v1 nx1 H1 hb1
    repeat' (first | (refine OpsL.nil ?_; ((repeat (first | refine blockExit_eq ?_ | refine blockExit_ne (by decide) ?_ | refine blockExit_normal ?_ | refine blockExit_ret ?_ | refine blockExit_goto ?_)); first | (change Trip _ _ _ _ _) | dsimp only | skip)) | fail)
    refine ⟨.inl rfl, _, rfl, ?_⟩
    have e : textOf x.2 (bs x.1) = 60 :: bs x.1 ++ [62] := by rw [hk]; rfl
    rw [e, ← hB1]
    exact hb1
  · rename_i hk1 hk
    refine OpsL.p (by subst_vars; decide) (aop_addS (by (first | (simp only [ASt.ev, tmPut, ↓reduceIte, reduceIte, Nat.reduceEqDiff, plain1, *]; rfl) | fail)) (by (first | (simp only [ASt.ev, tmPut, ↓reduceIte, reduceIte, Nat.reduceEqDiff, plain1, *]; rfl) | fail)) (by show 2 + _ ≤ _; omega)) ?_
    refine OpsL.p (by subst_vars; decide) (aop_addS (by (first | (simp only [ASt.ev, tmPut, ↓reduceIte, reduceIte, Nat.reduceEqDiff, plain1, *]; rfl) | fail)) (by (first | (simp only [ASt.ev, tmPut, ↓reduceIte, reduceIte, Nat.reduceEqDiff, plain1, *]; rfl) | fail)) (by simp only [List.length_append]; show 2 + _ + 1 ≤ _; omega)) ?_
    refine OpsL.call2 (by subst_vars; decide) (by (first | (simp only [ASt.ev, tmPut, ↓reduceIte, reduceIte, Nat.reduceEqDiff, plain1, *]; done) | fail)) (by (first | (simp only [ASt.ev, tmPut, ↓reduceIte, reduceIte, Nat.reduceEqDiff, plain1, *]; rfl) | fail)) entersWriteString (writeStringC W0 hb' (by omega) (by rw [hB2]; simp; omega)) ?_
    rintro v1 nx1 H1 hb1
    repeat' (first | (refine OpsL.nil ?_; ((repeat (first | refine blockExit_eq ?_ | refine blockExit_ne (by decide) ?_ | refine blockExit_normal ?_ | refine blockExit_ret ?_ | refine blockExit_goto ?_)); first | (change Trip _ _ _ _ _) | dsimp only | skip)) | fail)
    refine ⟨.inl rfl, _, rfl, ?_⟩
    have e : textOf x.2 (bs x.1) = 60 :: 47 :: bs x.1 ++ [62] := by rw [hk]; rfl
    rw [e, ← hB2]
    exact hb1
  · rename_i hk1 hk2
    refine OpsL.call2 (by subst_vars; decide) (by (first | (simp only [ASt.ev, tmPut, ↓reduceIte, reduceIte, Nat.reduceEqDiff, plain1, *]; done) | fail)) (by (first | (simp only [ASt.ev, tmPut, ↓reduceIte, reduceIte, Nat.reduceEqDiff, plain1, *]; rfl) | fail)) entersWriteString (writeStringC W0 hb' (by omega) (by omega)) ?_
    rintro v1 nx1 H1 hb1
    repeat' (first | (refine OpsL.nil ?_; ((repeat (first | refine blockExit_eq ?_ | refine blockExit_ne (by decide) ?_ | refine blockExit_normal ?_ | refine blockExit_ret ?_ | refine blockExit_goto ?_)); first | (change Trip _ _ _ _ _) | dsimp only | skip)) | fail)
    refine ⟨.inl rfl, _, rfl, ?_⟩
    unfold textOf
    rw [if_neg hk1, if_neg hk2]
    exact hb1

set_option maxRecDepth 20000 in
set_option maxHeartbeats 4000000 in
theorem symAtR (W0 : World) {nx : Nat} {H : Heap} {lv : Value} {ss : List (ByteArray × Int)} {x : Int} (hl : SymsR H lv ss) (h0 : 0 ≤ x) (h1 : x < ss.length) :
    ACalls Try.prog W0 25 [lv, .int .i64 x] nx H fun v nx' H' => v = symV (ss[x.toNat]'(by omega)) ∧ Ext nx H nx' H' := by
  obtain ⟨la, lc, rfl⟩ := hl.slice
  refine ACalls.by_trip (fn := Try.f25) (c := _) Try.func25 rfl (fun tm n hn0 htm => ?_)
  have e0 : tm 0 = .slice la ss.length lc := htm 0
  have e1 : tm 1 = .int .i64 x := htm 1
  clear htm
  replace hn0 : n = 18 := hn0
  refine Trip.ok fun hok => ?_
  replace hok : ∀ id o, H id = some o → id < nx := hok
  have hxn : ((x).toNat : Int) = x := by omega
  have hxs : x.toNat < ss.length := by omega
  obtain ⟨p, rfl, hg⟩ := hl.get hxs
  rw [hxn] at hg
  obtain ⟨o, ho⟩ := getc_some hg
  have hlt : p.block < nx := hok _ _ ho
  refine Trip.seq (Trip.ops ?_)
  refine OpsL.new (by subst_vars; decide) (aop_alloc (by exact rfl)) ?_
  repeat' (first | (refine OpsL.p (by subst_vars; decide) (by (first | (exact aop_move (by (first | (simp only [ASt.ev, tmPut, ↓reduceIte, reduceIte, Nat.reduceEqDiff, plain1, *]; rfl) | fail))) | (exact aop_lss (by (first | (simp only [ASt.ev, tmPut, ↓reduceIte, reduceIte, Nat.reduceEqDiff, plain1, *]; rfl) | fail)) (by (first | (simp only [ASt.ev, tmPut, ↓reduceIte, reduceIte, Nat.reduceEqDiff, plain1, *]; rfl) | fail))) | (exact aop_geq (by (first | (simp only [ASt.ev, tmPut, ↓reduceIte, reduceIte, Nat.reduceEqDiff, plain1, *]; rfl) | fail)) (by (first | (simp only [ASt.ev, tmPut, ↓reduceIte, reduceIte, Nat.reduceEqDiff, plain1, *]; rfl) | fail))) | (exact aop_len (by (first | (simp only [ASt.ev, tmPut, ↓reduceIte, reduceIte, Nat.reduceEqDiff, plain1, *]; rfl) | fail)) (by exact rfl)) | (exact aop_indexAddr (by (first | (simp only [ASt.ev, tmPut, ↓reduceIte, reduceIte, Nat.reduceEqDiff, plain1, *]; rfl) | fail)) (by (first | (simp only [ASt.ev, tmPut, ↓reduceIte, reduceIte, Nat.reduceEqDiff, plain1, *]; rfl) | fail)) (by exact rfl) (by exact rfl) (by omega) (by omega)) | (exact aop_pickT (by (first | (simp only [ASt.ev, tmPut, ↓reduceIte, reduceIte, Nat.reduceEqDiff, decide_true, decide_false, not_true_eq_false, not_false_eq_true, Bool.not_true, Bool.not_false, *]; done) | fail)) (by (first | (simp only [ASt.ev, tmPut, ↓reduceIte, reduceIte, Nat.reduceEqDiff, plain1, *]; rfl) | fail))) | (exact aop_pickF (by (first | (simp only [ASt.ev, tmPut, ↓reduceIte, reduceIte, Nat.reduceEqDiff, decide_true, decide_false, not_true_eq_false, not_false_eq_true, Bool.not_true, Bool.not_false, *]; done) | fail)) (by (first | (simp only [ASt.ev, tmPut, ↓reduceIte, reduceIte, Nat.reduceEqDiff, plain1, *]; rfl) | fail))) | fail)) ?_) | (refine Trip.seq ?_) | (refine Trip.ops ?_) | (refine Trip.ite (by (first | (simp only [ASt.ev, tmPut, ↓reduceIte, reduceIte, Nat.reduceEqDiff, plain1, *]; rfl) | fail)) (fun _ => ?_) (fun _ => ?_)) | (refine Trip.skip ?_; ((repeat (first | refine blockExit_eq ?_ | refine blockExit_ne (by decide) ?_ | refine blockExit_normal ?_ | refine blockExit_ret ?_ | refine blockExit_goto ?_)); first | (change Trip _ _ _ _ _) | dsimp only | skip)) | (refine OpsL.nil ?_; ((repeat (first | refine blockExit_eq ?_ | refine blockExit_ne (by decide) ?_ | refine blockExit_normal ?_ | refine blockExit_ret ?_ | refine blockExit_goto ?_)); first | (change Trip _ _ _ _ _) | dsimp only | skip)) | (refine OpsL.unguard (by exact rfl) (by (first | (simp only [ASt.ev, tmPut, ↓reduceIte, reduceIte, Nat.reduceEqDiff, decide_true, decide_false, not_true_eq_false, not_false_eq_true, Bool.not_true, Bool.not_false, *]; done) | fail)) ?_) | (refine OpsL.skipped (by exact rfl) (by (first | (simp only [ASt.ev, tmPut, ↓reduceIte, reduceIte, Nat.reduceEqDiff, decide_true, decide_false, not_true_eq_false, not_false_eq_true, Bool.not_true, Bool.not_false, *]; done) | fail)) (by subst_vars; decide) ?_) | (refine OpsL.guardF (by exact rfl) (by (first | (simp only [ASt.ev, tmPut, ↓reduceIte, reduceIte, Nat.reduceEqDiff, plain1, *]; rfl) | fail)) (by subst_vars; decide) (fun _ => ?_) (fun _ => ?_)) | fail)
  all_goals first | (exfalso; omega) | skip
  refine OpsL.p (by subst_vars; decide) (aop_loadAgg (by (first | (simp only [ASt.ev, tmPut, ↓reduceIte, reduceIte, Nat.reduceEqDiff, plain1, *]; rfl) | fail)) (by exact rfl) rfl (by exact rfl) (by rw [getc_put (by show p.block ≠ nx; omega)]; exact hg)) ?_
  refine OpsL.upd (aop_store (by (first | (simp only [ASt.ev, tmPut, ↓reduceIte, reduceIte, Nat.reduceEqDiff, plain1, *]; rfl) | fail)) (by (first | (simp only [ASt.ev, tmPut, ↓reduceIte, reduceIte, Nat.reduceEqDiff, plain1, *]; rfl) | fail)) (by exact rfl) rfl (by simp [setc, Heap.put_eq, Value.cells]; exact ⟨⟨rfl, rfl⟩, rfl⟩)) ?_
  repeat' (first | (refine Trip.ret ?_; ((repeat (first | refine blockExit_eq ?_ | refine blockExit_ne (by decide) ?_ | refine blockExit_normal ?_ | refine blockExit_ret ?_ | refine blockExit_goto ?_)); first | (change Trip _ _ _ _ _) | dsimp only | skip)) | (refine OpsL.nil ?_; ((repeat (first | refine blockExit_eq ?_ | refine blockExit_ne (by decide) ?_ | refine blockExit_normal ?_ | refine blockExit_ret ?_ | refine blockExit_goto ?_)); first | (change Trip _ _ _ _ _) | dsimp only | skip)) | fail)
  refine ⟨.inr rfl, _, res_cell (by (first | (simp only [ASt.ev, tmPut, ↓reduceIte, reduceIte, Nat.reduceEqDiff, plain1, *]; rfl) | fail)) (readAt_agg (k := 2) (by exact rfl) rfl (by exact rfl) (getc_own (by simp))), rfl, by simp, ?_⟩
  intro i hi
  rw [Heap.put_ne (by omega), Heap.put_ne (by omega)]

set_option maxRecDepth 20000 in
set_option maxHeartbeats 4000000 in
theorem wtextC (W0 : World) {nx : Nat} {H : Heap} {lv wv : Value} {ss : List (ByteArray × Int)} {w : List Int} (hl : SymsR H lv ss) (hw : IntsAt H wv w) (hwm : ∀ x ∈ w, 0 ≤ x ∧ x < ss.length) (hwl : w.length ≤ 1000) (hb : ∀ s ∈ ss, (bs s.1).length ≤ 1000) :
    ACalls Try.prog W0 11 [lv, wv] nx H fun v nx' H' => ∃ t : ByteArray, v = .string t ∧ bs t = wtextF ss w ∧ (bs t).length ≤ 2000 * w.length ∧ Ext nx H nx' H' := by
  obtain ⟨la, lc, rfl⟩ := hl.slice
  obtain ⟨wa, wc, rfl⟩ := hw.slice
  refine ACalls.by_trip (fn := Try.f11) (c := _) Try.func11 rfl (fun tm n hn0 htm => ?_)
  have e0 : tm 0 = .slice la ss.length lc := htm 0
  have e1 : tm 1 = .slice wa w.length wc := htm 1
  clear htm
  replace hn0 : n = 24 := hn0
  refine Trip.ok fun hok => ?_
  replace hok : ∀ id o, H id = some o → id < nx := hok
  repeat (first | (refine OpsL.p (by subst_vars; decide) (by (first | (exact aop_assign (by (first | (simp only [ASt.ev, tmPut, ↓reduceIte, reduceIte, Nat.reduceEqDiff, plain1, *]; rfl) | fail))) | fail)) ?_) | (refine Trip.seq ?_) | (refine Trip.ops ?_) | (refine OpsL.nil ?_; ((repeat (first | refine blockExit_eq ?_ | refine blockExit_ne (by decide) ?_ | refine blockExit_normal ?_ | refine blockExit_ret ?_ | refine blockExit_goto ?_)); first | (change Trip _ _ _ _ _) | dsimp only | skip)) | fail)
  refine OpsL.new (by subst_vars; decide) (aop_alloc (by exact rfl)) ?_
  repeat (first | (refine OpsL.p (by subst_vars; decide) (by (first | (exact aop_move (by (first | (simp only [ASt.ev, tmPut, ↓reduceIte, reduceIte, Nat.reduceEqDiff, plain1, *]; rfl) | fail))) | (exact aop_len (by (first | (simp only [ASt.ev, tmPut, ↓reduceIte, reduceIte, Nat.reduceEqDiff, plain1, *]; rfl) | fail)) (by exact rfl)) | fail)) ?_) | (refine Trip.seq ?_) | (refine Trip.ops ?_) | (refine Trip.block ?_) | (refine OpsL.nil ?_; ((repeat (first | refine blockExit_eq ?_ | refine blockExit_ne (by decide) ?_ | refine blockExit_normal ?_ | refine blockExit_ret ?_ | refine blockExit_goto ?_)); first | (change Trip _ _ _ _ _) | dsimp only | skip)) | fail)
  refine Trip.inv (fun (i : Nat) st => ∃ (tm : Nat → Value) (nx' : Nat) (H' : Heap), st = ⟨tm, n, H', nx'⟩ ∧ BldAt nx H nx' H' nx (wtextF ss (w.take i)) ∧ tm 0 = .slice la ss.length lc ∧ tm 8 = .slice wa w.length wc ∧ tm 9 = .int .i64 w.length ∧ tm 5 = .pointer (some ⟨nx, 0, none⟩) ∧ tm 10 = .int .i64 i ∧ i ≤ w.length ∧ (wtextF ss (w.take i)).length ≤ 2000 * i) (fun i => w.length - i) 0 ?_ ?_
  · refine ⟨_, _, _, rfl, ⟨(Ext.refl.up (Nat.le_succ _)).put (Nat.le_refl _), Nat.le_refl _, Nat.lt_succ_self _, (fun x hx => by cases hx), .pointer none, .slice none 0 0, none, Heap.put_eq, .inl rfl, ⟨rfl, rfl, rfl⟩, (fun _ _ h => by cases h), fun _ => rfl⟩, by simp [tmPut, *], by simp [tmPut, *], by simp [tmPut], by simp [tmPut], by simp [tmPut], by omega, by simp [wtextF]⟩
  · clear e0 e1
    rintro i st ⟨tm, nx', H', rfl, hbl, e0, e8, e9, e5, e10, hi, htl⟩
    have hext := hbl.1
    refine Trip.ok fun hok' => ?_
    replace hok' : ∀ id o, H' id = some o → id < nx' := hok'
    by_cases hiw : i < w.length
    · obtain ⟨hx0, hx1'⟩ := hwm _ (List.getElem_mem hiw)
      have hxn : ((w[i]).toNat : Int) = w[i] := by omega
      have hxs : (w[i]).toNat < ss.length := by omega
      obtain ⟨wp, rfl, hwc⟩ := (hw.ext hext hok).get hiw
      replace hwc : cellAt H' ⟨wp.block, wp.off + (i : Int).toNat * 1, wp.spot⟩ (.int .i64 w[i]) := by simpa using hwc
      repeat' (first | (refine OpsL.p (by subst_vars; decide) (by (first | (exact aop_move (by (first | (simp only [ASt.ev, tmPut, ↓reduceIte, reduceIte, Nat.reduceEqDiff, plain1, *]; rfl) | fail))) | (exact aop_assign (by (first | (simp only [ASt.ev, tmPut, ↓reduceIte, reduceIte, Nat.reduceEqDiff, plain1, *]; rfl) | fail))) | (exact aop_lss (by (first | (simp only [ASt.ev, tmPut, ↓reduceIte, reduceIte, Nat.reduceEqDiff, plain1, *]; rfl) | fail)) (by (first | (simp only [ASt.ev, tmPut, ↓reduceIte, reduceIte, Nat.reduceEqDiff, plain1, *]; rfl) | fail))) | (exact aop_gtr (by (first | (simp only [ASt.ev, tmPut, ↓reduceIte, reduceIte, Nat.reduceEqDiff, plain1, *]; rfl) | fail)) (by (first | (simp only [ASt.ev, tmPut, ↓reduceIte, reduceIte, Nat.reduceEqDiff, plain1, *]; rfl) | fail))) | (exact aop_indexAddr (by (first | (simp only [ASt.ev, tmPut, ↓reduceIte, reduceIte, Nat.reduceEqDiff, plain1, *]; rfl) | fail)) (by (first | (simp only [ASt.ev, tmPut, ↓reduceIte, reduceIte, Nat.reduceEqDiff, plain1, *]; rfl) | fail)) (by exact rfl) (by exact rfl) (by omega) (by omega)) | (exact aop_load (by (first | (simp only [ASt.ev, tmPut, ↓reduceIte, reduceIte, Nat.reduceEqDiff, plain1, *]; rfl) | fail)) (by exact rfl) rfl (by assumption)) | fail)) ?_) | (refine Trip.seq ?_) | (refine Trip.ops ?_) | (refine Trip.block ?_) | (refine Trip.ite (by (first | (simp only [ASt.ev, tmPut, ↓reduceIte, reduceIte, Nat.reduceEqDiff, plain1, *]; rfl) | fail)) (fun _ => ?_) (fun _ => ?_)) | (refine Trip.skip ?_; ((repeat (first | refine blockExit_eq ?_ | refine blockExit_ne (by decide) ?_ | refine blockExit_normal ?_ | refine blockExit_ret ?_ | refine blockExit_goto ?_)); first | (change Trip _ _ _ _ _) | dsimp only | skip)) | (refine Trip.exit ?_; ((repeat (first | refine blockExit_eq ?_ | refine blockExit_ne (by decide) ?_ | refine blockExit_normal ?_ | refine blockExit_ret ?_ | refine blockExit_goto ?_)); first | (change Trip _ _ _ _ _) | dsimp only | skip)) | (refine OpsL.nil ?_; ((repeat (first | refine blockExit_eq ?_ | refine blockExit_ne (by decide) ?_ | refine blockExit_normal ?_ | refine blockExit_ret ?_ | refine blockExit_goto ?_)); first | (change Trip _ _ _ _ _) | dsimp only | skip)) | fail)
      · rename_i hz
        refine OpsL.call2 (by subst_vars; decide) (by (first | (simp only [ASt.ev, tmPut, ↓reduceIte, reduceIte, Nat.reduceEqDiff, plain1, *]; done) | fail)) (by (first | (simp only [ASt.ev, tmPut, ↓reduceIte, reduceIte, Nat.reduceEqDiff, plain1, *]; rfl) | fail)) entersWriteByte (writeByteC W0 hbl (by omega) (by omega)) ?_
        rintro v1 nx1 H1 hbl1
        repeat (first | (refine OpsL.p (by subst_vars; decide) (by (first | (exact aop_move (by (first | (simp only [ASt.ev, tmPut, ↓reduceIte, reduceIte, Nat.reduceEqDiff, plain1, *]; rfl) | fail))) | fail)) ?_) | (refine Trip.ops ?_) | (refine OpsL.nil ?_; ((repeat (first | refine blockExit_eq ?_ | refine blockExit_ne (by decide) ?_ | refine blockExit_normal ?_ | refine blockExit_ret ?_ | refine blockExit_goto ?_)); first | (change Trip _ _ _ _ _) | dsimp only | skip)) | fail)
        refine OpsL.call2 (by subst_vars; decide) (by (first | (simp only [ASt.ev, tmPut, ↓reduceIte, reduceIte, Nat.reduceEqDiff, plain1, *]; done) | fail)) (by (first | (simp only [ASt.ev, tmPut, ↓reduceIte, reduceIte, Nat.reduceEqDiff, plain1, *]; done) | fail)) entersSymAtT (symAtR W0 (hl.ext hbl1.1 hok) hx0 hx1') ?_
        rintro v2 nx2 H2 ⟨rfl, hx2⟩
        have hbl2 := hbl1.ext hx2
        refine OpsL.call2 (by subst_vars; decide) (by (first | (simp only [ASt.ev, tmPut, ↓reduceIte, reduceIte, Nat.reduceEqDiff, plain1, *]; done) | fail)) (by (first | (simp only [ASt.ev, tmPut, ↓reduceIte, reduceIte, Nat.reduceEqDiff, plain1, *]; rfl) | fail)) entersWrite (writeC W0 hbl2 (by rw [List.length_append]; simp; omega) _ (by have := hb _ (List.getElem_mem hxs); omega)) ?_
        rintro v3 nx3 H3 hbl3
        repeat (first | (refine OpsL.p (by subst_vars; decide) (by (first | (exact aop_move (by (first | (simp only [ASt.ev, tmPut, ↓reduceIte, reduceIte, Nat.reduceEqDiff, plain1, *]; rfl) | fail))) | (exact aop_add (by (first | (simp only [ASt.ev, tmPut, ↓reduceIte, reduceIte, Nat.reduceEqDiff, plain1, *]; rfl) | fail)) (by (first | (simp only [ASt.ev, tmPut, ↓reduceIte, reduceIte, Nat.reduceEqDiff, plain1, *]; rfl) | fail)) (by omega)) | fail)) ?_) | (refine Trip.ops ?_) | (refine OpsL.nil ?_; ((repeat (first | refine blockExit_eq ?_ | refine blockExit_ne (by decide) ?_ | refine blockExit_normal ?_ | refine blockExit_ret ?_ | refine blockExit_goto ?_)); first | (change Trip _ _ _ _ _) | dsimp only | skip)) | fail)
        have hstep : wtextF ss (w.take (i + 1)) = wtextF ss (w.take i) ++ [32] ++ textOf (ss[(w[i]).toNat]).2 (bs (ss[(w[i]).toNat]).1) := by
          rw [List.take_add_one, List.getElem?_eq_getElem hiw, Option.toList_some, wtextF_append, symT_at hx0 hxs, if_neg (by rw [List.length_take]; omega)]
        refine ⟨i + 1, ⟨_, _, _, rfl, by rw [hstep]; exact hbl3, by simp [tmPut, *], by simp [tmPut, *], by simp [tmPut, *], by simp [tmPut, *], by simp [tmPut], by omega, ?_⟩, by omega⟩
        have hT := textOf_len (ss[(w[i]).toNat]).2 (bs (ss[(w[i]).toNat]).1)
        have hN := hb _ (List.getElem_mem hxs)
        rw [hstep, List.length_append, List.length_append]; simp; omega
      · rename_i hz
        refine OpsL.call2 (by subst_vars; decide) (by (first | (simp only [ASt.ev, tmPut, ↓reduceIte, reduceIte, Nat.reduceEqDiff, plain1, *]; done) | fail)) (by (first | (simp only [ASt.ev, tmPut, ↓reduceIte, reduceIte, Nat.reduceEqDiff, plain1, *]; done) | fail)) entersSymAtT (symAtR W0 (hl.ext hext hok) hx0 hx1') ?_
        rintro v2 nx2 H2 ⟨rfl, hx2⟩
        have hbl2 := hbl.ext hx2
        refine OpsL.call2 (by subst_vars; decide) (by (first | (simp only [ASt.ev, tmPut, ↓reduceIte, reduceIte, Nat.reduceEqDiff, plain1, *]; done) | fail)) (by (first | (simp only [ASt.ev, tmPut, ↓reduceIte, reduceIte, Nat.reduceEqDiff, plain1, *]; rfl) | fail)) entersWrite (writeC W0 hbl2 (by omega) _ (by have := hb _ (List.getElem_mem hxs); omega)) ?_
        rintro v3 nx3 H3 hbl3
        repeat (first | (refine OpsL.p (by subst_vars; decide) (by (first | (exact aop_move (by (first | (simp only [ASt.ev, tmPut, ↓reduceIte, reduceIte, Nat.reduceEqDiff, plain1, *]; rfl) | fail))) | (exact aop_add (by (first | (simp only [ASt.ev, tmPut, ↓reduceIte, reduceIte, Nat.reduceEqDiff, plain1, *]; rfl) | fail)) (by (first | (simp only [ASt.ev, tmPut, ↓reduceIte, reduceIte, Nat.reduceEqDiff, plain1, *]; rfl) | fail)) (by omega)) | fail)) ?_) | (refine Trip.ops ?_) | (refine OpsL.nil ?_; ((repeat (first | refine blockExit_eq ?_ | refine blockExit_ne (by decide) ?_ | refine blockExit_normal ?_ | refine blockExit_ret ?_ | refine blockExit_goto ?_)); first | (change Trip _ _ _ _ _) | dsimp only | skip)) | fail)
        have hstep : wtextF ss (w.take (i + 1)) = wtextF ss (w.take i) ++ textOf (ss[(w[i]).toNat]).2 (bs (ss[(w[i]).toNat]).1) := by
          rw [List.take_add_one, List.getElem?_eq_getElem hiw, Option.toList_some, wtextF_append, symT_at hx0 hxs, if_pos (by rw [List.length_take]; omega), List.append_nil]
        refine ⟨i + 1, ⟨_, _, _, rfl, by rw [hstep]; exact hbl3, by simp [tmPut, *], by simp [tmPut, *], by simp [tmPut, *], by simp [tmPut, *], by simp [tmPut], by omega, ?_⟩, by omega⟩
        have hT := textOf_len (ss[(w[i]).toNat]).2 (bs (ss[(w[i]).toNat]).1)
        have hN := hb _ (List.getElem_mem hxs)
        rw [hstep, List.length_append]; omega
      · exfalso; omega
    · have hin : i = w.length := by omega
      subst hin
      rw [List.take_length] at *
      repeat' (first | (refine OpsL.p (by subst_vars; decide) (by (first | (exact aop_move (by (first | (simp only [ASt.ev, tmPut, ↓reduceIte, reduceIte, Nat.reduceEqDiff, plain1, *]; rfl) | fail))) | (exact aop_lss (by (first | (simp only [ASt.ev, tmPut, ↓reduceIte, reduceIte, Nat.reduceEqDiff, plain1, *]; rfl) | fail)) (by (first | (simp only [ASt.ev, tmPut, ↓reduceIte, reduceIte, Nat.reduceEqDiff, plain1, *]; rfl) | fail))) | fail)) ?_) | (refine Trip.seq ?_) | (refine Trip.ops ?_) | (refine Trip.block ?_) | (refine Trip.ite (by (first | (simp only [ASt.ev, tmPut, ↓reduceIte, reduceIte, Nat.reduceEqDiff, plain1, *]; rfl) | fail)) (fun _ => ?_) (fun _ => ?_)) | (refine Trip.skip ?_; ((repeat (first | refine blockExit_eq ?_ | refine blockExit_ne (by decide) ?_ | refine blockExit_normal ?_ | refine blockExit_ret ?_ | refine blockExit_goto ?_)); first | (change Trip _ _ _ _ _) | dsimp only | skip)) | (refine Trip.exit ?_; ((repeat (first | refine blockExit_eq ?_ | refine blockExit_ne (by decide) ?_ | refine blockExit_normal ?_ | refine blockExit_ret ?_ | refine blockExit_goto ?_)); first | (change Trip _ _ _ _ _) | dsimp only | skip)) | (refine OpsL.nil ?_; ((repeat (first | refine blockExit_eq ?_ | refine blockExit_ne (by decide) ?_ | refine blockExit_normal ?_ | refine blockExit_ret ?_ | refine blockExit_goto ?_)); first | (change Trip _ _ _ _ _) | dsimp only | skip)) | fail)
      all_goals first | (exfalso; omega) | skip
      refine OpsL.call1 (by subst_vars; decide) (by (first | (simp only [ASt.ev, tmPut, ↓reduceIte, reduceIte, Nat.reduceEqDiff, plain1, *]; done) | fail)) entersBString (bstringC W0 hbl (by omega)) ?_
      rintro v1 nx1 H1 ⟨t, rfl, ht, hx1⟩
      repeat (first | (refine OpsL.p (by subst_vars; decide) (by (first | (exact aop_assign (by (first | (simp only [ASt.ev, tmPut, ↓reduceIte, reduceIte, Nat.reduceEqDiff, plain1, *]; rfl) | fail))) | fail)) ?_) | (refine Trip.ret ?_; ((repeat (first | refine blockExit_eq ?_ | refine blockExit_ne (by decide) ?_ | refine blockExit_normal ?_ | refine blockExit_ret ?_ | refine blockExit_goto ?_)); first | (change Trip _ _ _ _ _) | dsimp only | skip)) | (refine OpsL.nil ?_; ((repeat (first | refine blockExit_eq ?_ | refine blockExit_ne (by decide) ?_ | refine blockExit_normal ?_ | refine blockExit_ret ?_ | refine blockExit_goto ?_)); first | (change Trip _ _ _ _ _) | dsimp only | skip)) | fail)
      exact ⟨.inr rfl, _, res_tmp, t, by simp [tmPut], ht, by rw [ht]; omega, hx1⟩

end Go.Proofs.Ytngekapiemkgnaa
/-
  Chapter 1: what a word's text is read as: the word, however many blanks stand between.
-/
namespace Go.Proofs.Ytngekapiemkgnaa
set_option linter.unusedSimpArgs false
set_option linter.unusedVariables false
open Go.Am Go.RowKit

/-- A text of blanks and symbols' texts, and the word that it is. -/
inductive Reads (ss : List (ByteArray × Int)) : List Int → List Int → Prop
  | nil : Reads ss [] []
  | blank {l w : List Int} : Reads ss l w → Reads ss (32 :: l) w
  | sym {l w : List Int} (j : Nat) : j < ss.length → (l = [] ∨ ∃ t, l = 32 :: t) → Reads ss l w → Reads ss (symT ss j ++ l) ((j : Int) :: w)

/-- Symbols as they should be: names, kinds, no two alike. -/
structure Good (ss : List (ByteArray × Int)) : Prop where
  ok : ∀ s ∈ ss, okName (bs s.1) ∧ (s.2 = 1 ∨ s.2 = 2 ∨ s.2 = 3)
  nodup : (kss ss).Nodup

theorem findGo_at : ∀ (l : List (List Int × Int)) (i j : Nat) (h : j < l.length), l.Nodup → findGo l[j] l i = some (i + j) := by
  intro l
  induction l with
  | nil => intro i j h; simp at h
  | cons y l ih =>
    intro i j h hn
    rw [List.nodup_cons] at hn
    cases j with
    | zero => simp [findGo]
    | succ j =>
      simp only [List.getElem_cons_succ, findGo]
      have hj : j < l.length := by simpa using h
      rw [if_neg (fun e => hn.1 (by rw [e]; exact List.getElem_mem hj)), ih (i + 1) j hj hn.2]
      congr 1; omega

theorem symT_nat {ss : List (ByteArray × Int)} {j : Nat} (h : j < ss.length) : symT ss j = textOf ss[j].2 (bs ss[j].1) := by
  have := symT_at (ss := ss) (i := j) (by omega) (by simpa using h)
  simpa using this

theorem Good.sym {ss : List (ByteArray × Int)} (hg : Good ss) {j : Nat} (h : j < ss.length) : (∃ b t, symT ss j = b :: t ∧ b ≠ 32) ∧ (∀ b ∈ symT ss j, b ≠ 32) ∧ readF (symT ss j) = some ((bs ss[j].1, ss[j].2)) ∧ findGo (bs ss[j].1, ss[j].2) (kss ss) 0 = some j := by
  have ho := hg.ok _ (List.getElem_mem h)
  rw [symT_nat h]
  have h2 : ∀ b ∈ textOf ss[j].2 (bs ss[j].1), b ≠ 32 := textOf_no ho.1.1
  refine ⟨?_, h2, readF_textOf ho.2 ho.1, ?_⟩
  · cases hc : textOf ss[j].2 (bs ss[j].1) with
    | nil =>
      exfalso
      have hl := ho.1.2.1
      have := congrArg List.length hc
      unfold textOf at this
      split at this
      · simp at this
      · split at this
        · simp at this
        · simp at this; rw [this] at hl; simp at hl
    | cons b t => exact ⟨b, t, rfl, h2 b (by rw [hc]; exact List.mem_cons_self)⟩
  · have hj : j < (kss ss).length := by simpa [kss] using h
    have := findGo_at (kss ss) 0 j hj hg.nodup
    simpa [kss] using this

theorem reads_at {ss : List (ByteArray × Int)} (hg : Good ss) {l w : List Int} (h : Reads ss l w) : ∀ (p acc : List Int), parseAt (kss ss) (p ++ l) p.length acc = (acc ++ w, 0, 0) := by
  induction h with
  | nil => intro p acc; rw [parseAt_end (by simp)]; simp
  | @blank l w _ ih =>
    intro p acc
    rw [parseAt_blank (by simp)]
    have := ih (p ++ [32]) acc
    simpa using this
  | @sym l w j hj hl _ ih =>
    intro p acc
    obtain ⟨⟨b, t, he, hb⟩, hno, hr, hf⟩ := hg.sym hj
    have hpiece : pieceF (p ++ (symT ss j ++ l)) p.length = symT ss j := by
      unfold pieceF
      rw [List.drop_left]
      exact takeWhile_of hno hl
    rw [parseAt_piece (b := b) (by rw [he]; simp) hb, hpiece, hr]
    simp only [hf]
    have := ih (p ++ symT ss j) (acc ++ [(j : Int)])
    rw [List.append_assoc, List.length_append] at this
    rw [this]
    simp

theorem reads_parse {ss : List (ByteArray × Int)} (hg : Good ss) {l w : List Int} (h : Reads ss l w) (hl : l.length ≤ 2000) : parseF (kss ss) l = (w, 0, 0) := by
  unfold parseF
  rw [if_neg (by omega)]
  have := reads_at hg h [] []
  simpa [parseAt] using this

theorem reads_wtext {ss : List (ByteArray × Int)} : ∀ (w : List Int), (∀ x ∈ w, 0 ≤ x ∧ x < ss.length) → Reads ss (wtextF ss w) w := by
  intro w
  induction w with
  | nil => intro _; exact .nil
  | cons x w ih =>
    intro h
    obtain ⟨h0, h1⟩ := h x List.mem_cons_self
    obtain ⟨j, rfl⟩ : ∃ j : Nat, x = j := ⟨x.toNat, by omega⟩
    have hr := ih (fun y hy => h y (List.mem_cons_of_mem _ hy))
    cases w with
    | nil =>
      have := Reads.sym (ss := ss) j (by omega) (.inl rfl) .nil
      simpa [wtextF, symT] using this
    | cons y w =>
      exact Reads.sym (ss := ss) j (by omega) (.inr ⟨_, rfl⟩) (.blank hr)

theorem reads_snoc {ss : List (ByteArray × Int)} {l w : List Int} (h : Reads ss l w) : Reads ss (l ++ [32]) w := by
  induction h with
  | nil => exact .blank .nil
  | blank _ ih => exact .blank ih
  | @sym l w j hj hl _ ih =>
    rw [List.append_assoc]
    refine .sym j hj ?_ ih
    rcases hl with rfl | ⟨t, rfl⟩
    · exact .inr ⟨[], rfl⟩
    · exact .inr ⟨t ++ [32], rfl⟩

/-- Blanks laid in behind blanks. -/
def spread (c : Nat → Bool) : Nat → List Int → List Int
  | _, [] => []
  | k, b :: l => (b :: if b = 32 ∧ c k = true then [32, 32] else []) ++ spread c (k + 1) l

theorem spread_snoc (c : Nat → Bool) (b : Int) : ∀ (l : List Int) (k : Nat), spread c k (l ++ [b]) = spread c k l ++ (b :: if b = 32 ∧ c (k + l.length) = true then [32, 32] else []) := by
  intro l
  induction l with
  | nil => intro k; simp [spread]
  | cons x l ih =>
    intro k
    simp only [List.cons_append, spread, ih, List.length_cons, List.append_assoc]
    rw [show k + 1 + l.length = k + (l.length + 1) by omega]

theorem spread_len (c : Nat → Bool) : ∀ (l : List Int) (k : Nat), (spread c k l).length ≤ 3 * l.length := by
  intro l
  induction l with
  | nil => intro k; simp [spread]
  | cons x l ih =>
    intro k
    have := ih (k + 1)
    simp only [spread, List.length_append, List.length_cons]
    split <;> simp <;> omega

theorem spread_no (c : Nat → Bool) : ∀ (p l : List Int) (k : Nat), (∀ b ∈ p, b ≠ 32) → spread c k (p ++ l) = p ++ spread c (k + p.length) l := by
  intro p
  induction p with
  | nil => intro l k _; simp
  | cons b p ih =>
    intro l k h
    simp only [List.cons_append, spread, ih l (k + 1) (fun x hx => h x (List.mem_cons_of_mem _ hx)), List.length_cons]
    rw [if_neg (fun hc => h b List.mem_cons_self hc.1), show k + 1 + p.length = k + (p.length + 1) by omega]
    rfl

theorem spread_reads {ss : List (ByteArray × Int)} (hg : Good ss) (c : Nat → Bool) {l w : List Int} (h : Reads ss l w) : ∀ k, Reads ss (spread c k l) w := by
  induction h with
  | nil => intro k; exact .nil
  | @blank l w _ ih =>
    intro k
    simp only [spread]
    split
    · exact .blank (.blank (.blank (ih (k + 1))))
    · exact .blank (ih (k + 1))
  | @sym l w j hj hl _ ih =>
    intro k
    rw [spread_no c _ _ _ (hg.sym hj).2.1]
    refine .sym j hj ?_ (ih _)
    rcases hl with rfl | ⟨t, rfl⟩
    · exact .inl rfl
    · exact .inr ⟨_, rfl⟩

theorem baseF_good : (∀ s ∈ baseF, okName (bs s.1) ∧ (s.2 = 1 ∨ s.2 = 2 ∨ s.2 = 3)) ∧ (kss baseF).Nodup := by
  constructor
  · decide
  · decide

theorem symsF_ok (n : Int) (ns : List Int) : Good (symsF n ns) ∧ ∀ s ∈ symsF n ns, (bs s.1).length = 1 := by
  have h1 : ∀ s ∈ baseF, (bs s.1).length = 1 := by decide
  have htake : ∀ m, Good (baseF.take m) ∧ ∀ s ∈ baseF.take m, (bs s.1).length = 1 := fun m =>
    ⟨⟨fun s hs => baseF_good.1 s (List.mem_of_mem_take hs), by unfold kss; rw [List.map_take]; exact List.Sublist.nodup (List.take_sublist _ _) baseF_good.2⟩, fun s hs => h1 s (List.mem_of_mem_take hs)⟩
  unfold symsF
  split
  · exact ⟨⟨by decide, by decide⟩, by decide⟩
  · split
    · split
      · refine ⟨⟨fun s hs => baseF_good.1 s (List.mem_of_mem_drop (List.mem_of_mem_take hs)), ?_⟩, fun s hs => h1 s (List.mem_of_mem_drop (List.mem_of_mem_take hs))⟩
        unfold kss
        rw [List.map_take, List.map_drop]
        exact List.Sublist.nodup ((List.take_sublist _ _).trans (List.drop_sublist _ _)) baseF_good.2
      · exact htake _
    · exact htake _

theorem wtextF_len {ss : List (ByteArray × Int)} (h1 : ∀ s ∈ ss, (bs s.1).length = 1) : ∀ (w : List Int), (∀ x ∈ w, 0 ≤ x ∧ x < ss.length) → (wtextF ss w).length ≤ 5 * w.length := by
  intro w
  induction w with
  | nil => intro _; simp [wtextF]
  | cons x w ih =>
    intro h
    obtain ⟨h0, h2⟩ := h x List.mem_cons_self
    obtain ⟨j, rfl⟩ : ∃ j : Nat, x = j := ⟨x.toNat, by omega⟩
    have hr := ih (fun y hy => h y (List.mem_cons_of_mem _ hy))
    have hs : (symT ss j).length ≤ 4 := by
      rw [symT_nat (by omega : j < ss.length)]
      have := textOf_len ss[j].2 (bs ss[j].1)
      have := h1 _ (List.getElem_mem (by omega : j < ss.length))
      omega
    cases w with
    | nil =>
      have e : wtextF ss [(j : Int)] = symT ss j := rfl
      rw [e]; simp; omega
    | cons y w =>
      have e : wtextF ss ((j : Int) :: y :: w) = symT ss j ++ 32 :: wtextF ss (y :: w) := rfl
      rw [e, List.length_append, List.length_cons, List.length_cons]
      omega

end Go.Proofs.Ytngekapiemkgnaa
