/-
  Chapter 1: a text with a byte turned.
-/
import Derived.Test.YtngekapiemkgnaaRText1
namespace Go.Proofs.Ytngekapiemkgnaa
set_option linter.unusedSimpArgs false
set_option linter.unusedVariables false
open Go.Am Go.RowKit
attribute [local irreducible] aop OpsL Trip blockExit OpsD OpsK

theorem entersTurned : Enters Try.prog 16 := ⟨Try.f16, Try.func16, by kernel_rfl, by kernel_rfl⟩

section
variable {P : Program} {H : Heap} {nx : Nat} {ev : Operand → Option Value} {dst : Option Tmp} {type : TypeId} {pos : String} {after : Array Edge} {guard : Option (Nat × Bool)}
theorem aop_eqlStr {t u : TypeId} {x y : Operand} {a b : ByteArray} (hx : ev x = some (.string a)) (hy : ev y = some (.string b)) :
    aop P H nx ev ⟨dst, .binOp .eql t x y u, type, pos, after, guard⟩ = some (.bool (decide (bs a = bs b)), .none) := by
  have : aString .eql a b = some (.bool (decide (bs a = bs b))) := by
    have h2 := sEq_bs a b
    by_cases h : bs a = bs b <;> simp [aString, h2, h]
  simp [aop, hx, hy, aBin, this]
theorem aop_convSB {s t e : TypeId} {d : TypeDesc} {x : Operand} {a : ByteArray} (hx : ev x = some (.string a)) (hs : P.underlying s = some d) (ht : P.underlying t = some (.slice e)) (hu : isU8 P e = true) :
    aop P H nx ev ⟨dst, .convert s t x, type, pos, after, guard⟩ = some (.slice (some ⟨nx, 0, some nx⟩) a.data.toList.length a.data.toList.length, .new (.cells (a.data.toList.map bcell) 1 (some nx) false (some e))) := by
  simp [aop, hx, aConvert, hs, ht, hu]
theorem aop_addU8 {t u : TypeId} {x y : Operand} {a b : Int} (hx : ev x = some (.int .u8 a)) (hy : ev y = some (.int .u8 b)) :
    aop P H nx ev ⟨dst, .binOp .add t x y u, type, pos, after, guard⟩ = some (.int .u8 (IntKind.u8.wrap (a + b)), .none) := by simp [aop, hx, hy, aBin, intArith]
end

set_option maxRecDepth 20000 in
set_option maxHeartbeats 4000000 in
theorem turnedC (W0 : World) {nx : Nat} {H : Heap} {s : ByteArray} {k y : Int} (hs : (bs s).length ≤ 1000000) :
    ∃ (t : ByteArray) (nx' : Nat) (H' : Heap), (bs t).length = (bs s).length ∧ Ext nx H nx' H' ∧ ACalls Try.prog W0 16 [.string s, .int .i64 k, .int .u8 y] nx H fun v n1 H1 => v = .string t ∧ n1 = nx' ∧ H1 = H' := by
  have hsl : s.data.toList.length ≤ 1000000 := by rw [bs_length] at hs; exact hs
  by_cases hz : bs s = bs ⟨#[]⟩
  · refine ⟨s, nx, H, rfl, Ext.refl, ?_⟩
    refine ACalls.by_trip (fn := Try.f16) (c := _) Try.func16 rfl (fun tm n hn0 htm => ?_)
    have e0 : tm 0 = .string s := htm 0
    clear htm
    replace hn0 : n = 25 := hn0
    repeat (first | (refine OpsL.p (by subst_vars; decide) (by (first | (exact aop_move (by (first | (simp only [ASt.ev, tmPut, ↓reduceIte, reduceIte, Nat.reduceEqDiff, plain1, *]; rfl) | fail))) | (exact aop_assign (by (first | (simp only [ASt.ev, tmPut, ↓reduceIte, reduceIte, Nat.reduceEqDiff, plain1, *]; rfl) | fail))) | fail)) ?_) | (refine Trip.seq ?_) | (refine Trip.ops ?_) | (refine OpsL.nil ?_; ((repeat (first | refine blockExit_eq ?_ | refine blockExit_ne (by decide) ?_ | refine blockExit_normal ?_ | refine blockExit_ret ?_ | refine blockExit_goto ?_)); first | (change Trip _ _ _ _ _) | dsimp only | skip)) | fail)
    refine OpsL.p (by subst_vars; decide) (aop_eqlStr (by (first | (simp only [ASt.ev, tmPut, ↓reduceIte, reduceIte, Nat.reduceEqDiff, plain1, *]; rfl) | fail)) (by (first | (simp only [ASt.ev, tmPut, ↓reduceIte, reduceIte, Nat.reduceEqDiff, plain1, *]; rfl) | fail))) ?_
    repeat' (first | (refine OpsL.p (by subst_vars; decide) (by (first | (exact aop_move (by (first | (simp only [ASt.ev, tmPut, ↓reduceIte, reduceIte, Nat.reduceEqDiff, plain1, *]; rfl) | fail))) | (exact aop_assign (by (first | (simp only [ASt.ev, tmPut, ↓reduceIte, reduceIte, Nat.reduceEqDiff, plain1, *]; rfl) | fail))) | fail)) ?_) | (refine Trip.seq ?_) | (refine Trip.ops ?_) | (refine Trip.ite (by (first | (simp only [ASt.ev, tmPut, ↓reduceIte, reduceIte, Nat.reduceEqDiff, plain1, *]; rfl) | fail)) (fun _ => ?_) (fun _ => ?_)) | (refine Trip.skip ?_; ((repeat (first | refine blockExit_eq ?_ | refine blockExit_ne (by decide) ?_ | refine blockExit_normal ?_ | refine blockExit_ret ?_ | refine blockExit_goto ?_)); first | (change Trip _ _ _ _ _) | dsimp only | skip)) | (refine Trip.ret ?_; ((repeat (first | refine blockExit_eq ?_ | refine blockExit_ne (by decide) ?_ | refine blockExit_normal ?_ | refine blockExit_ret ?_ | refine blockExit_goto ?_)); first | (change Trip _ _ _ _ _) | dsimp only | skip)) | (refine OpsL.nil ?_; ((repeat (first | refine blockExit_eq ?_ | refine blockExit_ne (by decide) ?_ | refine blockExit_normal ?_ | refine blockExit_ret ?_ | refine blockExit_goto ?_)); first | (change Trip _ _ _ _ _) | dsimp only | skip)) | fail)
    · exact ⟨.inr rfl, _, res_tmp, by simp [tmPut, *], rfl, rfl⟩
    · rename_i h
      exact absurd trivial h
  · have hpos : 0 < (bs s).length := by
      cases hb : bs s with
      | nil => exact absurd hb hz
      | cons c r => simp
    have hsz : s.data.toList.length = (bs s).length := (bs_length s).symm
    have k0 := Int.emod_nonneg k (show ((bs s).length : Int) ≠ 0 by omega)
    have k1 := Int.emod_lt_of_pos k (show (0 : Int) < (bs s).length by omega)
    generalize hq : k % ((bs s).length : Int) = q at *
    have hql : q.toNat < (s.data.toList.map bcell).length := by rw [List.length_map]; omega
    have hcell : (s.data.toList.map bcell)[q.toNat] = .int .u8 (s.data.toList[q.toNat]'(by rw [List.length_map] at hql; exact hql)).toNat := by simp [bcell]
    generalize hb0 : (((s.data.toList[q.toNat]'(by rw [List.length_map] at hql; exact hql)).toNat : Nat) : Int) = b0 at hcell
    have hall : ((s.data.toList.map bcell).set q.toNat (.int .u8 (IntKind.u8.wrap (b0 + y)))).all u8cell = true := by
      rw [List.all_eq_true]
      intro x hx
      rcases List.mem_or_eq_of_mem_set hx with h | rfl
      · rw [List.mem_map] at h
        obtain ⟨b, _, rfl⟩ := h
        rfl
      · rfl
    have hlen : ((s.data.toList.map bcell).set q.toNat (.int .u8 (IntKind.u8.wrap (b0 + y)))).length = s.data.toList.length := by simp
    refine ⟨⟨(((s.data.toList.map bcell).set q.toNat (.int .u8 (IntKind.u8.wrap (b0 + y)))).map u8of).toArray⟩, nx + 1, (H.put nx (.cells (s.data.toList.map bcell) 1 (some nx) false (some 5))).put nx (.cells ((s.data.toList.map bcell).set q.toNat (.int .u8 (IntKind.u8.wrap (b0 + y)))) 1 (some nx) false (some 5)), ?_, ?_, ?_⟩
    · simp [bs]
    · exact (ext_put).put (by omega)
    generalize hcs : (s.data.toList.map bcell).set q.toNat (.int .u8 (IntKind.u8.wrap (b0 + y))) = cs' at *
    refine ACalls.by_trip (fn := Try.f16) (c := _) Try.func16 rfl (fun tm n hn0 htm => ?_)
    have e0 : tm 0 = .string s := htm 0
    have e1 : tm 1 = .int .i64 k := htm 1
    have e2 : tm 2 = .int .u8 y := htm 2
    clear htm
    replace hn0 : n = 25 := hn0
    repeat (first | (refine OpsL.p (by subst_vars; decide) (by (first | (exact aop_move (by (first | (simp only [ASt.ev, tmPut, ↓reduceIte, reduceIte, Nat.reduceEqDiff, plain1, *]; rfl) | fail))) | (exact aop_assign (by (first | (simp only [ASt.ev, tmPut, ↓reduceIte, reduceIte, Nat.reduceEqDiff, plain1, *]; rfl) | fail))) | fail)) ?_) | (refine Trip.seq ?_) | (refine Trip.ops ?_) | (refine OpsL.nil ?_; ((repeat (first | refine blockExit_eq ?_ | refine blockExit_ne (by decide) ?_ | refine blockExit_normal ?_ | refine blockExit_ret ?_ | refine blockExit_goto ?_)); first | (change Trip _ _ _ _ _) | dsimp only | skip)) | fail)
    refine OpsL.p (by subst_vars; decide) (aop_eqlStr (by (first | (simp only [ASt.ev, tmPut, ↓reduceIte, reduceIte, Nat.reduceEqDiff, plain1, *]; rfl) | fail)) (by (first | (simp only [ASt.ev, tmPut, ↓reduceIte, reduceIte, Nat.reduceEqDiff, plain1, *]; rfl) | fail))) ?_
    repeat' (first | (refine OpsL.p (by subst_vars; decide) (by (first | (exact aop_move (by (first | (simp only [ASt.ev, tmPut, ↓reduceIte, reduceIte, Nat.reduceEqDiff, plain1, *]; rfl) | fail))) | (exact aop_assign (by (first | (simp only [ASt.ev, tmPut, ↓reduceIte, reduceIte, Nat.reduceEqDiff, plain1, *]; rfl) | fail))) | fail)) ?_) | (refine Trip.seq ?_) | (refine Trip.ops ?_) | (refine Trip.ite (by (first | (simp only [ASt.ev, tmPut, ↓reduceIte, reduceIte, Nat.reduceEqDiff, plain1, *]; rfl) | fail)) (fun _ => ?_) (fun _ => ?_)) | (refine Trip.skip ?_; ((repeat (first | refine blockExit_eq ?_ | refine blockExit_ne (by decide) ?_ | refine blockExit_normal ?_ | refine blockExit_ret ?_ | refine blockExit_goto ?_)); first | (change Trip _ _ _ _ _) | dsimp only | skip)) | (refine Trip.ret ?_; ((repeat (first | refine blockExit_eq ?_ | refine blockExit_ne (by decide) ?_ | refine blockExit_normal ?_ | refine blockExit_ret ?_ | refine blockExit_goto ?_)); first | (change Trip _ _ _ _ _) | dsimp only | skip)) | (refine OpsL.nil ?_; ((repeat (first | refine blockExit_eq ?_ | refine blockExit_ne (by decide) ?_ | refine blockExit_normal ?_ | refine blockExit_ret ?_ | refine blockExit_goto ?_)); first | (change Trip _ _ _ _ _) | dsimp only | skip)) | fail)
    · rename_i h
      exact absurd h (by simp)
    rename_i hno
    refine OpsL.new (by subst_vars; decide) (aop_convSB (a := s) (e := 5) (by (first | (simp only [ASt.ev, tmPut, ↓reduceIte, reduceIte, Nat.reduceEqDiff, plain1, *]; done) | fail)) (by exact rfl) (by exact rfl) (by kernel_rfl)) ?_
    repeat (first | (refine OpsL.p (by subst_vars; decide) (by (first | (exact aop_move (by (first | (simp only [ASt.ev, tmPut, ↓reduceIte, reduceIte, Nat.reduceEqDiff, plain1, *]; rfl) | fail))) | (exact aop_assign (by (first | (simp only [ASt.ev, tmPut, ↓reduceIte, reduceIte, Nat.reduceEqDiff, plain1, *]; rfl) | fail))) | (exact aop_len (by (first | (simp only [ASt.ev, tmPut, ↓reduceIte, reduceIte, Nat.reduceEqDiff, plain1, *]; rfl) | fail)) (by exact rfl)) | fail)) ?_) | (refine Trip.seq ?_) | (refine Trip.ops ?_) | (refine OpsL.nil ?_; ((repeat (first | refine blockExit_eq ?_ | refine blockExit_ne (by decide) ?_ | refine blockExit_normal ?_ | refine blockExit_ret ?_ | refine blockExit_goto ?_)); first | (change Trip _ _ _ _ _) | dsimp only | skip)) | fail)
    refine OpsL.call2 (by subst_vars; decide) (by (first | (simp only [ASt.ev, tmPut, ↓reduceIte, reduceIte, Nat.reduceEqDiff, plain1, *]; rfl) | fail)) (by (first | (simp only [ASt.ev, tmPut, ↓reduceIte, reduceIte, Nat.reduceEqDiff, plain1, *]; rfl) | fail)) entersWithin (withinC W0 _ _ (by omega) (by omega)) ?_
    rintro v nx7 H7 ⟨rfl, h7, h8⟩
    subst h7; subst h8
    rw [hq]
    have hck : cellAt (H.put nx (.cells (s.data.toList.map bcell) 1 (some nx) false (some 5))) ⟨nx, 0 + q.toNat * 1, some nx⟩ (.int .u8 b0) := by
      have := cellAt_own (off := q.toNat) (H := H.put nx (.cells (s.data.toList.map bcell) 1 (some nx) false (some 5))) Heap.put_eq hql
      rw [hcell] at this
      simpa using this
    repeat (first | (refine OpsL.p (by subst_vars; decide) (by (first | (exact aop_move (by (first | (simp only [ASt.ev, tmPut, ↓reduceIte, reduceIte, Nat.reduceEqDiff, plain1, *]; rfl) | fail))) | (exact aop_indexAddr (by (first | (simp only [ASt.ev, tmPut, ↓reduceIte, reduceIte, Nat.reduceEqDiff, plain1, *]; rfl) | fail)) (by (first | (simp only [ASt.ev, tmPut, ↓reduceIte, reduceIte, Nat.reduceEqDiff, plain1, *]; rfl) | fail)) (by exact rfl) (by exact rfl) (by omega) (by omega)) | (exact aop_load (by (first | (simp only [ASt.ev, tmPut, ↓reduceIte, reduceIte, Nat.reduceEqDiff, plain1, *]; rfl) | fail)) (by exact rfl) rfl (by assumption)) | fail)) ?_) | fail)
    refine OpsL.p (by subst_vars; decide) (aop_addU8 (by (first | (simp only [ASt.ev, tmPut, ↓reduceIte, reduceIte, Nat.reduceEqDiff, plain1, *]; rfl) | fail)) (by (first | (simp only [ASt.ev, tmPut, ↓reduceIte, reduceIte, Nat.reduceEqDiff, plain1, *]; rfl) | fail))) ?_
    repeat (first | (refine OpsL.p (by subst_vars; decide) (by (first | (exact aop_indexAddr (by (first | (simp only [ASt.ev, tmPut, ↓reduceIte, reduceIte, Nat.reduceEqDiff, plain1, *]; rfl) | fail)) (by (first | (simp only [ASt.ev, tmPut, ↓reduceIte, reduceIte, Nat.reduceEqDiff, plain1, *]; rfl) | fail)) (by exact rfl) (by exact rfl) (by omega) (by omega)) | fail)) ?_) | fail)
    refine OpsL.storeAt q.toNat (by (first | (simp only [ASt.ev, tmPut, ↓reduceIte, reduceIte, Nat.reduceEqDiff, plain1, *]; rfl) | fail)) (by (first | (simp only [ASt.ev, tmPut, ↓reduceIte, reduceIte, Nat.reduceEqDiff, plain1, *]; done) | fail)) (by exact rfl) rfl rfl Heap.put_eq (by show 0 + _ * 1 = _; omega) hql hcs ?_
    repeat (first | (refine OpsL.p (by subst_vars; decide) (by (first | (exact aop_move (by (first | (simp only [ASt.ev, tmPut, ↓reduceIte, reduceIte, Nat.reduceEqDiff, plain1, *]; rfl) | fail))) | fail)) ?_) | (refine Trip.seq ?_) | (refine Trip.ops ?_) | (refine OpsL.nil ?_; ((repeat (first | refine blockExit_eq ?_ | refine blockExit_ne (by decide) ?_ | refine blockExit_normal ?_ | refine blockExit_ret ?_ | refine blockExit_goto ?_)); first | (change Trip _ _ _ _ _) | dsimp only | skip)) | fail)
    have hg : getc ((H.put nx (.cells (s.data.toList.map bcell) 1 (some nx) false (some 5))).put nx (.cells cs' 1 (some nx) false (some 5))) ⟨nx, 0, some nx⟩ (bs s).length = some cs' := by
      have := getc_own (k := nx) (H := H.put nx (.cells (s.data.toList.map bcell) 1 (some nx) false (some 5))) (c := cs') (e := 1) (tg := some nx) (ro := false) (q := some 5) (off := 0) (m := (bs s).length) (by omega)
      rw [this, List.drop_zero, List.take_of_length_le (by omega)]
    refine OpsL.p (by subst_vars; decide) (aop_convBS (cs := cs') (by (first | (simp only [ASt.ev, tmPut, ↓reduceIte, reduceIte, Nat.reduceEqDiff, plain1, *]; rfl) | fail)) (by exact rfl) (by exact rfl) (by kernel_rfl) hg hall) ?_
    repeat (first | (refine OpsL.p (by subst_vars; decide) (by (first | (exact aop_assign (by (first | (simp only [ASt.ev, tmPut, ↓reduceIte, reduceIte, Nat.reduceEqDiff, plain1, *]; rfl) | fail))) | fail)) ?_) | (refine Trip.ret ?_; ((repeat (first | refine blockExit_eq ?_ | refine blockExit_ne (by decide) ?_ | refine blockExit_normal ?_ | refine blockExit_ret ?_ | refine blockExit_goto ?_)); first | (change Trip _ _ _ _ _) | dsimp only | skip)) | (refine OpsL.nil ?_; ((repeat (first | refine blockExit_eq ?_ | refine blockExit_ne (by decide) ?_ | refine blockExit_normal ?_ | refine blockExit_ret ?_ | refine blockExit_goto ?_)); first | (change Trip _ _ _ _ _) | dsimp only | skip)) | fail)
    exact ⟨.inr rfl, _, res_tmp, by simp [tmPut], rfl, rfl⟩

end Go.Proofs.Ytngekapiemkgnaa
