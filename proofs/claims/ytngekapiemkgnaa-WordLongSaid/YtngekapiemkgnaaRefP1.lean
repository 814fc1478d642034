/-
  Chapter 1: the document's Find, Read, Parse are the plain ones.
-/
import Derived.Test.YtngekapiemkgnaaPars1
namespace Go.Proofs.Ytngekapiemkgnaa
set_option linter.unusedSimpArgs false
set_option linter.unusedVariables false
open Go.Am Go.RowKit
attribute [local irreducible] aop OpsL Trip blockExit OpsD

theorem entersRFind : Enters Try.prog 32 := ⟨Try.f32, Try.func32, by kernel_rfl, by kernel_rfl⟩

set_option maxRecDepth 20000 in
set_option maxHeartbeats 4000000 in
theorem refFindC (W0 : World) {nx : Nat} {H : Heap} {lv : Value} {ss : List (ByteArray × Int)} (x : ByteArray × Int) (hl : SymsR H lv ss) (hn : ss.length ≤ 1000000) (hok : ∀ id o, H id = some o → id < nx) :
    ACalls Try.prog W0 32 [lv, symV x] nx H fun v nx' H' => v = .int .i64 (findI (bs x.1, x.2) ss) ∧ nx' = nx + 1 ∧ H' = H.put nx (boxO x) := by
  obtain ⟨la, lc, rfl⟩ := hl.slice
  refine ACalls.by_trip (fn := Try.f32) (c := _) Try.func32 rfl (fun tm n hn0 htm => ?_)
  have e0 : tm 0 = .slice la ss.length lc := htm 0
  have e1 : tm 1 = symV x := htm 1
  clear htm
  replace hn0 : n = 19 := hn0
  have hk : (kss ss).length = ss.length := by simp [kss]
  have hkg : ∀ j (h : j < ss.length), (kss ss)[j]'(by omega) = (bs ss[j].1, ss[j].2) := fun j h => by simp [kss]
  refine Trip.seq (Trip.ops ?_)
  refine OpsL.new (o := boxO x) (by subst_vars; decide) (aop_box (v := symV x) (by (first | (simp only [ASt.ev, tmPut, ↓reduceIte, reduceIte, Nat.reduceEqDiff, plain1, *]; done) | fail))) ?_
  repeat (first | (refine OpsL.p (by subst_vars; decide) (by (first | (exact aop_assign (by (first | (simp only [ASt.ev, tmPut, ↓reduceIte, reduceIte, Nat.reduceEqDiff, plain1, *]; rfl) | fail))) | fail)) ?_) | (refine Trip.seq ?_) | (refine Trip.ops ?_) | (refine Trip.block ?_) | (refine OpsL.nil ?_; ((repeat (first | refine blockExit_eq ?_ | refine blockExit_ne (by decide) ?_ | refine blockExit_normal ?_ | refine blockExit_ret ?_ | refine blockExit_goto ?_)); first | (change Trip _ _ _ _ _) | dsimp only | skip)) | fail)
  refine Trip.inv (fun (i : Nat) st => ∃ tm : Nat → Value, st = ⟨tm, n, H.put nx (boxO x), nx + 1⟩ ∧ tm 3 = .pointer (some ⟨nx, 0, none⟩) ∧ tm 0 = .slice la ss.length lc ∧ i ≤ ss.length ∧ tm 5 = .int .i64 i ∧ ∀ j (h : j < (kss ss).length), j < i → (kss ss)[j] ≠ (bs x.1, x.2)) (fun i => ss.length - i) 0 ?_ ?_
  · exact ⟨_, rfl, rfl, e0, by omega, rfl, fun j _ hj => by omega⟩
  · rintro i st ⟨tm, rfl, e3, e0, hi, e5, hnone⟩
    repeat' (first | (refine OpsL.p (by subst_vars; decide) (by (first | (exact aop_move (by (first | (simp only [ASt.ev, tmPut, ↓reduceIte, reduceIte, Nat.reduceEqDiff, plain1, *]; rfl) | fail))) | (exact aop_assign (by (first | (simp only [ASt.ev, tmPut, ↓reduceIte, reduceIte, Nat.reduceEqDiff, plain1, *]; rfl) | fail))) | (exact aop_lss (by (first | (simp only [ASt.ev, tmPut, ↓reduceIte, reduceIte, Nat.reduceEqDiff, plain1, *]; rfl) | fail)) (by (first | (simp only [ASt.ev, tmPut, ↓reduceIte, reduceIte, Nat.reduceEqDiff, plain1, *]; rfl) | fail))) | (exact aop_len (by (first | (simp only [ASt.ev, tmPut, ↓reduceIte, reduceIte, Nat.reduceEqDiff, plain1, *]; rfl) | fail)) (by exact rfl)) | fail)) ?_) | (refine Trip.seq ?_) | (refine Trip.ops ?_) | (refine Trip.block ?_) | (refine Trip.ite (by (first | (simp only [ASt.ev, tmPut, ↓reduceIte, reduceIte, Nat.reduceEqDiff, plain1, *]; rfl) | fail)) (fun _ => ?_) (fun _ => ?_)) | (refine Trip.skip ?_; ((repeat (first | refine blockExit_eq ?_ | refine blockExit_ne (by decide) ?_ | refine blockExit_normal ?_ | refine blockExit_ret ?_ | refine blockExit_goto ?_)); first | (change Trip _ _ _ _ _) | dsimp only | skip)) | (refine Trip.exit ?_; ((repeat (first | refine blockExit_eq ?_ | refine blockExit_ne (by decide) ?_ | refine blockExit_normal ?_ | refine blockExit_ret ?_ | refine blockExit_goto ?_)); first | (change Trip _ _ _ _ _) | dsimp only | skip)) | (refine Trip.ret ?_; ((repeat (first | refine blockExit_eq ?_ | refine blockExit_ne (by decide) ?_ | refine blockExit_normal ?_ | refine blockExit_ret ?_ | refine blockExit_goto ?_)); first | (change Trip _ _ _ _ _) | dsimp only | skip)) | (refine OpsL.nil ?_; ((repeat (first | refine blockExit_eq ?_ | refine blockExit_ne (by decide) ?_ | refine blockExit_normal ?_ | refine blockExit_ret ?_ | refine blockExit_goto ?_)); first | (change Trip _ _ _ _ _) | dsimp only | skip)) | fail)
    · rename_i hltI
      have hlt : i < ss.length := by omega
      obtain ⟨p, rfl, hg⟩ := hl.get hlt
      have hpn : p.block ≠ nx := by
        obtain ⟨o, ho⟩ := getc_some hg
        have := hok _ _ ho
        simp only at this; omega
      have hgp : getc (H.put nx (boxO x)) ⟨p.block, p.off + (i : Int).toNat * 2, p.spot⟩ 2 = some [.string ss[i].1, .int .i64 ss[i].2] := by rw [getc_put (by exact hpn)]; exact hg
      refine OpsL.drawn fit.mixed (by kernel_rfl) (by kernel_rfl) ?_
      repeat (first | (refine OpsL.p (by subst_vars; decide) (by (first | (exact aop_move (by (first | (simp only [ASt.ev, tmPut, ↓reduceIte, reduceIte, Nat.reduceEqDiff, plain1, *]; rfl) | fail))) | (exact aop_indexAddr (by (first | (simp only [ASt.ev, tmPut, ↓reduceIte, reduceIte, Nat.reduceEqDiff, plain1, *]; rfl) | fail)) (by (first | (simp only [ASt.ev, tmPut, ↓reduceIte, reduceIte, Nat.reduceEqDiff, plain1, *]; rfl) | fail)) (by exact rfl) (by exact rfl) (by omega) (by omega)) | fail)) ?_) | fail)
      refine OpsL.p (by subst_vars; decide) (aop_loadAgg (k := 2) (by (first | (simp only [ASt.ev, tmPut, ↓reduceIte, reduceIte, Nat.reduceEqDiff, plain1, *]; rfl) | fail)) (by exact rfl) rfl (by exact rfl) hgp) ?_
      refine OpsL.p (by subst_vars; decide) (aop_loadAgg (k := 2) (vs := [.string x.1, .int .i64 x.2]) (by (first | (simp only [ASt.ev, tmPut, ↓reduceIte, reduceIte, Nat.reduceEqDiff, plain1, *]; rfl) | fail)) (by exact rfl) rfl (by exact rfl) (by exact getc_own (by show 0 + 2 ≤ 2; decide))) ?_
      refine OpsL.p (by subst_vars; decide) (aop_eqlA (by (first | (simp only [ASt.ev, tmPut, ↓reduceIte, reduceIte, Nat.reduceEqDiff, plain1, *]; rfl) | fail)) (by (first | (simp only [ASt.ev, tmPut, ↓reduceIte, reduceIte, Nat.reduceEqDiff, plain1, *]; rfl) | fail)) (by kernel_rfl) (symEq _ _ _ _ _)) ?_
      repeat' (first | (refine OpsL.p (by subst_vars; decide) (by (first | (exact aop_move (by (first | (simp only [ASt.ev, tmPut, ↓reduceIte, reduceIte, Nat.reduceEqDiff, plain1, *]; rfl) | fail))) | (exact aop_assign (by (first | (simp only [ASt.ev, tmPut, ↓reduceIte, reduceIte, Nat.reduceEqDiff, plain1, *]; rfl) | fail))) | (exact aop_add (by (first | (simp only [ASt.ev, tmPut, ↓reduceIte, reduceIte, Nat.reduceEqDiff, plain1, *]; rfl) | fail)) (by (first | (simp only [ASt.ev, tmPut, ↓reduceIte, reduceIte, Nat.reduceEqDiff, plain1, *]; rfl) | fail)) (by omega)) | fail)) ?_) | (refine Trip.seq ?_) | (refine Trip.ops ?_) | (refine Trip.ite (by (first | (simp only [ASt.ev, tmPut, ↓reduceIte, reduceIte, Nat.reduceEqDiff, plain1, *]; rfl) | fail)) (fun _ => ?_) (fun _ => ?_)) | (refine Trip.skip ?_; ((repeat (first | refine blockExit_eq ?_ | refine blockExit_ne (by decide) ?_ | refine blockExit_normal ?_ | refine blockExit_ret ?_ | refine blockExit_goto ?_)); first | (change Trip _ _ _ _ _) | dsimp only | skip)) | (refine Trip.ret ?_; ((repeat (first | refine blockExit_eq ?_ | refine blockExit_ne (by decide) ?_ | refine blockExit_normal ?_ | refine blockExit_ret ?_ | refine blockExit_goto ?_)); first | (change Trip _ _ _ _ _) | dsimp only | skip)) | (refine OpsL.nil ?_; ((repeat (first | refine blockExit_eq ?_ | refine blockExit_ne (by decide) ?_ | refine blockExit_normal ?_ | refine blockExit_ret ?_ | refine blockExit_goto ?_)); first | (change Trip _ _ _ _ _) | dsimp only | skip)) | fail)
      · rename_i he
        refine ⟨.inr rfl, _, res_tmp, ?_, rfl, rfl⟩
        rw [findI_hit hlt hnone (by rw [hkg i hlt]; exact he)]
        simp [tmPut]
      · rename_i he
        refine ⟨i + 1, ⟨_, rfl, e3, e0, by omega, by simp [tmPut], fun j h hj => ?_⟩, by omega⟩
        rcases Nat.lt_succ_iff_lt_or_eq.1 hj with h2 | rfl
        · exact hnone j h h2
        · rw [hkg j hlt]; exact fun h => he h
    · refine ⟨.inr rfl, _, res_tmp, ?_, rfl, rfl⟩
      rw [findI_none (fun j hj => hnone j hj (by omega))]
      simp [tmPut]

end Go.Proofs.Ytngekapiemkgnaa
