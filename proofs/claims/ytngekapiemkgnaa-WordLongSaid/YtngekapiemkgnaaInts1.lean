/-
  Chapter 1: Ints of two rows that are the same.
-/
import Derived.Test.YtngekapiemkgnaaTurn1
namespace Go.Proofs.Ytngekapiemkgnaa
set_option linter.unusedSimpArgs false
set_option linter.unusedVariables false
open Go.Am Go.RowKit
attribute [local irreducible] aop OpsL Trip blockExit OpsD OpsK

theorem entersIntsC : Enters Try.prog 15 := ⟨Try.f15, Try.func15, by kernel_rfl, by kernel_rfl⟩
theorem entersParse : Enters Try.prog 12 := ⟨Try.f12, Try.func12, by kernel_rfl, by kernel_rfl⟩

theorem symsF_names (n : Int) (ns : List Int) : ∀ s ∈ symsF n ns, (bs s.1).length ≤ 1000 := by
  have hb : ∀ s ∈ baseF, (bs s.1).length ≤ 1000 := by decide
  have h3 : ∀ s ∈ ([(⟨#[98]⟩, 3), (⟨#[97]⟩, 2), (⟨#[97]⟩, 1)] : List (ByteArray × Int)), (bs s.1).length ≤ 1000 := by decide
  intro s hs
  unfold symsF at hs
  split at hs
  · exact h3 s hs
  · split at hs
    · split at hs
      · exact hb s (List.mem_of_mem_drop (List.mem_of_mem_take hs))
      · exact hb s (List.mem_of_mem_take hs)
    · exact hb s (List.mem_of_mem_take hs)

set_option maxRecDepth 20000 in
set_option maxHeartbeats 4000000 in
theorem intsEqC (W0 : World) {nx : Nat} {H : Heap} {av bv : Value} {xs : List Int} (ha : IntsAt H av xs) (hb : IntsAt H bv xs) (hn : xs.length < 1000000000) :
    ACalls Try.prog W0 15 [av, bv] nx H fun v nx' H' => v = .bool true ∧ nx' = nx ∧ H' = H := by
  obtain ⟨aa, ac, rfl⟩ := ha.slice
  obtain ⟨ba, bc, rfl⟩ := hb.slice
  refine ACalls.by_trip (fn := Try.f15) (c := _) Try.func15 rfl (fun tm n hn0 htm => ?_)
  have e0 : tm 0 = .slice aa xs.length ac := htm 0
  have e1 : tm 1 = .slice ba xs.length bc := htm 1
  clear htm
  replace hn0 : n = 26 := hn0
  repeat (first | (refine OpsL.p (by subst_vars; decide) (by (first | (exact aop_move (by (first | (simp only [ASt.ev, tmPut, ↓reduceIte, reduceIte, Nat.reduceEqDiff, plain1, *]; rfl) | fail))) | (exact aop_assign (by (first | (simp only [ASt.ev, tmPut, ↓reduceIte, reduceIte, Nat.reduceEqDiff, plain1, *]; rfl) | fail))) | (exact aop_neq (by (first | (simp only [ASt.ev, tmPut, ↓reduceIte, reduceIte, Nat.reduceEqDiff, plain1, *]; rfl) | fail)) (by (first | (simp only [ASt.ev, tmPut, ↓reduceIte, reduceIte, Nat.reduceEqDiff, plain1, *]; rfl) | fail))) | (exact aop_len (by (first | (simp only [ASt.ev, tmPut, ↓reduceIte, reduceIte, Nat.reduceEqDiff, plain1, *]; rfl) | fail)) (by exact rfl)) | fail)) ?_) | (refine Trip.seq ?_) | (refine Trip.ops ?_) | (refine Trip.ite (by (first | (simp only [ASt.ev, tmPut, ↓reduceIte, reduceIte, Nat.reduceEqDiff, plain1, *]; rfl) | fail)) (fun _ => ?_) (fun _ => ?_)) | (refine Trip.ret ?_; ((repeat (first | refine blockExit_eq ?_ | refine blockExit_ne (by decide) ?_ | refine blockExit_normal ?_ | refine blockExit_ret ?_ | refine blockExit_goto ?_)); first | (change Trip _ _ _ _ _) | dsimp only | skip)) | (refine OpsL.nil ?_; ((repeat (first | refine blockExit_eq ?_ | refine blockExit_ne (by decide) ?_ | refine blockExit_normal ?_ | refine blockExit_ret ?_ | refine blockExit_goto ?_)); first | (change Trip _ _ _ _ _) | dsimp only | skip)) | fail)
  · rename_i h; exact absurd rfl h
  · repeat (first | (refine OpsL.p (by subst_vars; decide) (by (first | (exact aop_assign (by (first | (simp only [ASt.ev, tmPut, ↓reduceIte, reduceIte, Nat.reduceEqDiff, plain1, *]; rfl) | fail))) | fail)) ?_) | (refine Trip.seq ?_) | (refine Trip.ops ?_) | (refine Trip.block ?_) | (refine Trip.skip ?_; ((repeat (first | refine blockExit_eq ?_ | refine blockExit_ne (by decide) ?_ | refine blockExit_normal ?_ | refine blockExit_ret ?_ | refine blockExit_goto ?_)); first | (change Trip _ _ _ _ _) | dsimp only | skip)) | (refine OpsL.nil ?_; ((repeat (first | refine blockExit_eq ?_ | refine blockExit_ne (by decide) ?_ | refine blockExit_normal ?_ | refine blockExit_ret ?_ | refine blockExit_goto ?_)); first | (change Trip _ _ _ _ _) | dsimp only | skip)) | fail)
    refine Trip.inv (fun (i : Nat) s => ∃ tm : Nat → Value, s = ⟨tm, n, H, nx⟩ ∧ tm 0 = .slice aa xs.length ac ∧ tm 1 = .slice ba xs.length bc ∧ i ≤ xs.length ∧ tm 5 = .int .i64 i) (fun i => xs.length - i) 0 ?_ ?_
    · exact ⟨_, rfl, e0, e1, by omega, rfl⟩
    · rintro i s ⟨tm, rfl, e0, e1, hi, e5⟩
      repeat (first | (refine OpsL.p (by subst_vars; decide) (by (first | (exact aop_move (by (first | (simp only [ASt.ev, tmPut, ↓reduceIte, reduceIte, Nat.reduceEqDiff, plain1, *]; rfl) | fail))) | (exact aop_lss (by (first | (simp only [ASt.ev, tmPut, ↓reduceIte, reduceIte, Nat.reduceEqDiff, plain1, *]; rfl) | fail)) (by (first | (simp only [ASt.ev, tmPut, ↓reduceIte, reduceIte, Nat.reduceEqDiff, plain1, *]; rfl) | fail))) | (exact aop_len (by (first | (simp only [ASt.ev, tmPut, ↓reduceIte, reduceIte, Nat.reduceEqDiff, plain1, *]; rfl) | fail)) (by exact rfl)) | fail)) ?_) | (refine Trip.seq ?_) | (refine Trip.ops ?_) | (refine Trip.block ?_) | (refine Trip.ite (by (first | (simp only [ASt.ev, tmPut, ↓reduceIte, reduceIte, Nat.reduceEqDiff, plain1, *]; rfl) | fail)) (fun _ => ?_) (fun _ => ?_)) | (refine Trip.skip ?_; ((repeat (first | refine blockExit_eq ?_ | refine blockExit_ne (by decide) ?_ | refine blockExit_normal ?_ | refine blockExit_ret ?_ | refine blockExit_goto ?_)); first | (change Trip _ _ _ _ _) | dsimp only | skip)) | (refine OpsL.nil ?_; ((repeat (first | refine blockExit_eq ?_ | refine blockExit_ne (by decide) ?_ | refine blockExit_normal ?_ | refine blockExit_ret ?_ | refine blockExit_goto ?_)); first | (change Trip _ _ _ _ _) | dsimp only | skip)) | fail)
      · have hlt : i < xs.length := by omega
        obtain ⟨p, rfl, hc⟩ := ha.get hlt
        obtain ⟨q, rfl, hd⟩ := hb.get hlt
        replace hc : cellAt H ⟨p.block, p.off + (i : Int).toNat * 1, p.spot⟩ (.int .i64 xs[i]) := by simpa using hc
        replace hd : cellAt H ⟨q.block, q.off + (i : Int).toNat * 1, q.spot⟩ (.int .i64 xs[i]) := by simpa using hd
        refine OpsL.drawn fit.mixed (by kernel_rfl) (by kernel_rfl) ?_
        repeat (first | (refine OpsL.p (by subst_vars; decide) (by (first | (exact aop_move (by (first | (simp only [ASt.ev, tmPut, ↓reduceIte, reduceIte, Nat.reduceEqDiff, plain1, *]; rfl) | fail))) | (exact aop_assign (by (first | (simp only [ASt.ev, tmPut, ↓reduceIte, reduceIte, Nat.reduceEqDiff, plain1, *]; rfl) | fail))) | (exact aop_neq (by (first | (simp only [ASt.ev, tmPut, ↓reduceIte, reduceIte, Nat.reduceEqDiff, plain1, *]; rfl) | fail)) (by (first | (simp only [ASt.ev, tmPut, ↓reduceIte, reduceIte, Nat.reduceEqDiff, plain1, *]; rfl) | fail))) | (exact aop_indexAddr (by (first | (simp only [ASt.ev, tmPut, ↓reduceIte, reduceIte, Nat.reduceEqDiff, plain1, *]; rfl) | fail)) (by (first | (simp only [ASt.ev, tmPut, ↓reduceIte, reduceIte, Nat.reduceEqDiff, plain1, *]; rfl) | fail)) (by exact rfl) (by exact rfl) (by omega) (by omega)) | (exact aop_load (by (first | (simp only [ASt.ev, tmPut, ↓reduceIte, reduceIte, Nat.reduceEqDiff, plain1, *]; rfl) | fail)) (by exact rfl) rfl (by assumption)) | fail)) ?_) | (refine Trip.seq ?_) | (refine Trip.ops ?_) | (refine Trip.ite (by (first | (simp only [ASt.ev, tmPut, ↓reduceIte, reduceIte, Nat.reduceEqDiff, plain1, *]; rfl) | fail)) (fun _ => ?_) (fun _ => ?_)) | (refine Trip.ret ?_; ((repeat (first | refine blockExit_eq ?_ | refine blockExit_ne (by decide) ?_ | refine blockExit_normal ?_ | refine blockExit_ret ?_ | refine blockExit_goto ?_)); first | (change Trip _ _ _ _ _) | dsimp only | skip)) | (refine OpsL.nil ?_; ((repeat (first | refine blockExit_eq ?_ | refine blockExit_ne (by decide) ?_ | refine blockExit_normal ?_ | refine blockExit_ret ?_ | refine blockExit_goto ?_)); first | (change Trip _ _ _ _ _) | dsimp only | skip)) | fail)
        · rename_i h; exact absurd rfl h
        · repeat (first | (refine OpsL.p (by subst_vars; decide) (by (first | (exact aop_move (by (first | (simp only [ASt.ev, tmPut, ↓reduceIte, reduceIte, Nat.reduceEqDiff, plain1, *]; rfl) | fail))) | (exact aop_assign (by (first | (simp only [ASt.ev, tmPut, ↓reduceIte, reduceIte, Nat.reduceEqDiff, plain1, *]; rfl) | fail))) | (exact aop_add (by (first | (simp only [ASt.ev, tmPut, ↓reduceIte, reduceIte, Nat.reduceEqDiff, plain1, *]; rfl) | fail)) (by (first | (simp only [ASt.ev, tmPut, ↓reduceIte, reduceIte, Nat.reduceEqDiff, plain1, *]; rfl) | fail)) (by omega)) | fail)) ?_) | (refine Trip.ops ?_) | (refine Trip.skip ?_; ((repeat (first | refine blockExit_eq ?_ | refine blockExit_ne (by decide) ?_ | refine blockExit_normal ?_ | refine blockExit_ret ?_ | refine blockExit_goto ?_)); first | (change Trip _ _ _ _ _) | dsimp only | skip)) | (refine OpsL.nil ?_; ((repeat (first | refine blockExit_eq ?_ | refine blockExit_ne (by decide) ?_ | refine blockExit_normal ?_ | refine blockExit_ret ?_ | refine blockExit_goto ?_)); first | (change Trip _ _ _ _ _) | dsimp only | skip)) | fail)
          exact ⟨i + 1, ⟨_, rfl, e0, e1, by omega, by simp [tmPut]⟩, by omega⟩
      · repeat (first | (refine OpsL.p (by subst_vars; decide) (by (first | (exact aop_assign (by (first | (simp only [ASt.ev, tmPut, ↓reduceIte, reduceIte, Nat.reduceEqDiff, plain1, *]; rfl) | fail))) | fail)) ?_) | (refine Trip.seq ?_) | (refine Trip.ops ?_) | (refine Trip.exit ?_; ((repeat (first | refine blockExit_eq ?_ | refine blockExit_ne (by decide) ?_ | refine blockExit_normal ?_ | refine blockExit_ret ?_ | refine blockExit_goto ?_)); first | (change Trip _ _ _ _ _) | dsimp only | skip)) | (refine Trip.ret ?_; ((repeat (first | refine blockExit_eq ?_ | refine blockExit_ne (by decide) ?_ | refine blockExit_normal ?_ | refine blockExit_ret ?_ | refine blockExit_goto ?_)); first | (change Trip _ _ _ _ _) | dsimp only | skip)) | (refine OpsL.nil ?_; ((repeat (first | refine blockExit_eq ?_ | refine blockExit_ne (by decide) ?_ | refine blockExit_normal ?_ | refine blockExit_ret ?_ | refine blockExit_goto ?_)); first | (change Trip _ _ _ _ _) | dsimp only | skip)) | fail)
        exact ⟨.inr rfl, _, res_tmp, by simp [tmPut], rfl, rfl⟩


end Go.Proofs.Ytngekapiemkgnaa
