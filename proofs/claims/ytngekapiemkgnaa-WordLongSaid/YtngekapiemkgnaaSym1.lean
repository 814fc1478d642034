/-
  Chapter 1, what its laws are made of: symbols of numbers, words of numbers, by plain functions.
-/
import Derived.Test.YtngekapiemkgnaaBase1F
import Derived.Test.YtngekapiemkgnaaAmW
import Derived.Test.YtngekapiemkgnaaAmY
namespace Go.Proofs.Ytngekapiemkgnaa
set_option linter.unusedSimpArgs false
set_option linter.unusedVariables false
open Go.Am Go.RowKit
attribute [local irreducible] aop OpsL Trip blockExit OpsD

theorem withinC (W0 : World) {nx : Nat} {H : Heap} (a m : Int) (h0 : 0 < m) (h1 : m ≤ 4611686018427387904) : ACalls Try.prog W0 13 [.int .i64 a, .int .i64 m] nx H fun v nx' H' => v = .int .i64 (a % m) ∧ nx' = nx ∧ H' = H :=
  (within_told W0 a m _ h0 h1 rfl).2 nx H

/-- A row of symbols, as it may be read. -/
def SymsAt (H : Heap) (v : Value) (ss : List (ByteArray × Int)) : Prop :=
  ∃ a c, v = .slice (some a) ss.length c ∧ ∀ (i : Nat) (h : i < ss.length), getc H ⟨a.block, a.off + i * 2, a.spot⟩ 2 = some [.string ss[i].1, .int .i64 ss[i].2]

theorem SymsAt.ext {nx nx' : Nat} {H H' : Heap} {v : Value} {ss : List (ByteArray × Int)} (h : Ext nx H nx' H') (hok : ∀ id o, H id = some o → id < nx) (hs : SymsAt H v ss) : SymsAt H' v ss := by
  obtain ⟨a, c, rfl, hs⟩ := hs
  exact ⟨a, c, rfl, fun i q => getc_ext h hok (hs i q)⟩

def wordF (k : Nat) (ns : List Int) (most : Nat) : List Int := (ns.take most).map fun x => x % (k : Int)

set_option maxRecDepth 20000 in
set_option maxHeartbeats 4000000 in
theorem wordC (W0 : World) {nx : Nat} {H : Heap} {lv nv : Value} {ss : List (ByteArray × Int)} {ns : List Int} {most : Nat} (hl : SymsAt H lv ss) (hs : 0 < ss.length) (hs2 : ss.length ≤ 1000) (hn : IntsAt H nv ns) (hm : most ≤ 1000000) :
    ACalls Try.prog W0 10 [lv, nv, .int .i64 most] nx H fun v nx' H' => (∃ ob, OwnInts H' ob 3 v (wordF ss.length ns most) ∧ ∀ b t, ob = some (b, t) → nx ≤ b ∧ b < nx') ∧ Ext nx H nx' H' := by
  obtain ⟨la, lc, rfl, hl⟩ := hl
  obtain ⟨na, nc, rfl⟩ := hn.slice
  refine ACalls.by_trip (fn := Try.f10) (c := _) Try.func10 rfl (fun tm n hn0 htm => ?_)
  have e0 : tm 0 = .slice (some la) ss.length lc := htm 0
  have e1 : tm 1 = .slice na ns.length nc := htm 1
  have e2 : tm 2 = .int .i64 most := htm 2
  clear htm
  replace hn0 : n = 31 := hn0
  refine Trip.ok fun hok => ?_
  replace hok : ∀ id o, H id = some o → id < nx := hok
  repeat (first | (refine OpsL.p (by subst_vars; decide) (by (first | (exact aop_assign (by (first | (simp only [ASt.ev, tmPut, ↓reduceIte, reduceIte, Nat.reduceEqDiff, plain1, *]; rfl) | fail))) | fail)) ?_) | (refine Trip.seq ?_) | (refine Trip.ops ?_) | (refine Trip.block ?_) | (refine OpsL.nil ?_; ((repeat (first | refine blockExit_eq ?_ | refine blockExit_ne (by decide) ?_ | refine blockExit_normal ?_ | refine blockExit_ret ?_ | refine blockExit_goto ?_)); first | (change Trip _ _ _ _ _) | dsimp only | skip)) | fail)
  refine Trip.inv (fun (i : Nat) s => ∃ (tm : Nat → Value) (nx' : Nat) (H' : Heap) (ob : Option (Nat × Nat)) (v : Value), s = ⟨tm, n, H', nx'⟩ ∧ Ext nx H nx' H' ∧ OwnInts H' ob 3 v (wordF ss.length ns i) ∧ (∀ b t, ob = some (b, t) → nx ≤ b ∧ b < nx') ∧
      tm 0 = .slice (some la) ss.length lc ∧ tm 1 = .slice na ns.length nc ∧ tm 2 = .int .i64 most ∧ tm 7 = v ∧ tm 8 = .int .i64 i ∧ i ≤ ns.length ∧ i ≤ most) (fun i => ns.length - i) 0 ?_ ?_
  · exact ⟨_, _, _, none, _, rfl, Ext.refl, ⟨rfl, rfl, rfl⟩, fun _ _ h => (by cases h), e0, e1, e2, rfl, rfl, by omega, by omega⟩
  · rintro i s ⟨tm, nx', H', ob, v, rfl, hext, hown, hob, e0, e1, e2, e7, e8, hi, him⟩
    refine Trip.ok fun hok' => ?_
    replace hok' : ∀ id o, H' id = some o → id < nx' := hok'
    repeat (first | (refine OpsL.p (by subst_vars; decide) (by (first | (exact aop_move (by (first | (simp only [ASt.ev, tmPut, ↓reduceIte, reduceIte, Nat.reduceEqDiff, plain1, *]; rfl) | fail))) | (exact aop_lss (by (first | (simp only [ASt.ev, tmPut, ↓reduceIte, reduceIte, Nat.reduceEqDiff, plain1, *]; rfl) | fail)) (by (first | (simp only [ASt.ev, tmPut, ↓reduceIte, reduceIte, Nat.reduceEqDiff, plain1, *]; rfl) | fail))) | (exact aop_len (by (first | (simp only [ASt.ev, tmPut, ↓reduceIte, reduceIte, Nat.reduceEqDiff, plain1, *]; rfl) | fail)) (by exact rfl)) | (exact aop_pickT (by (first | (simp only [ASt.ev, tmPut, ↓reduceIte, reduceIte, Nat.reduceEqDiff, decide_true, decide_false, not_true_eq_false, not_false_eq_true, Bool.not_true, Bool.not_false, *]; done) | fail)) (by (first | (simp only [ASt.ev, tmPut, ↓reduceIte, reduceIte, Nat.reduceEqDiff, plain1, *]; rfl) | fail))) | fail)) ?_) | (refine Trip.seq ?_) | (refine Trip.ops ?_) | (refine Trip.block ?_) | (refine Trip.ite (by (first | (simp only [ASt.ev, tmPut, ↓reduceIte, reduceIte, Nat.reduceEqDiff, plain1, *]; rfl) | fail)) (fun _ => ?_) (fun _ => ?_)) | (refine Trip.skip ?_; ((repeat (first | refine blockExit_eq ?_ | refine blockExit_ne (by decide) ?_ | refine blockExit_normal ?_ | refine blockExit_ret ?_ | refine blockExit_goto ?_)); first | (change Trip _ _ _ _ _) | dsimp only | skip)) | (refine OpsL.nil ?_; ((repeat (first | refine blockExit_eq ?_ | refine blockExit_ne (by decide) ?_ | refine blockExit_normal ?_ | refine blockExit_ret ?_ | refine blockExit_goto ?_)); first | (change Trip _ _ _ _ _) | dsimp only | skip)) | (refine OpsL.unguard (by exact rfl) (by (first | (simp only [ASt.ev, tmPut, ↓reduceIte, reduceIte, Nat.reduceEqDiff, decide_true, decide_false, not_true_eq_false, not_false_eq_true, Bool.not_true, Bool.not_false, *]; done) | fail)) ?_) | (refine OpsL.guardT (by exact rfl) (by (first | (simp only [ASt.ev, tmPut, ↓reduceIte, reduceIte, Nat.reduceEqDiff, plain1, *]; rfl) | fail)) (by subst_vars; decide) (fun _ => ?_) (fun _ => ?_)) | fail)
    · have hlt : i < ns.length := by omega
      obtain ⟨p, rfl, hc⟩ := hn.get hlt
      replace hc : cellAt H' ⟨p.block, p.off + (i : Int).toNat * 1, p.spot⟩ (.int .i64 ns[i]) := by
        have := getc_ext hext hok hc
        simpa [cellAt] using this
      repeat (first | (refine OpsL.p (by subst_vars; decide) (by (first | (exact aop_move (by (first | (simp only [ASt.ev, tmPut, ↓reduceIte, reduceIte, Nat.reduceEqDiff, plain1, *]; rfl) | fail))) | (exact aop_len (by (first | (simp only [ASt.ev, tmPut, ↓reduceIte, reduceIte, Nat.reduceEqDiff, plain1, *]; rfl) | fail)) (by exact rfl)) | (exact aop_indexAddr (by (first | (simp only [ASt.ev, tmPut, ↓reduceIte, reduceIte, Nat.reduceEqDiff, plain1, *]; rfl) | fail)) (by (first | (simp only [ASt.ev, tmPut, ↓reduceIte, reduceIte, Nat.reduceEqDiff, plain1, *]; rfl) | fail)) (by exact rfl) (by exact rfl) (by omega) (by omega)) | (exact aop_load (by (first | (simp only [ASt.ev, tmPut, ↓reduceIte, reduceIte, Nat.reduceEqDiff, plain1, *]; rfl) | fail)) (by exact rfl) rfl (by assumption)) | fail)) ?_) | fail)
      refine OpsL.call2 (by subst_vars; decide) (by (first | (simp only [ASt.ev, tmPut, ↓reduceIte, reduceIte, Nat.reduceEqDiff, plain1, *]; rfl) | fail)) (by (first | (simp only [ASt.ev, tmPut, ↓reduceIte, reduceIte, Nat.reduceEqDiff, plain1, *]; rfl) | fail)) entersWithin (withinC W0 _ _ (by omega) (by omega)) ?_
      rintro v2 nx2 H2 ⟨rfl, rfl, rfl⟩
      refine OpsL.appendI (by subst_vars; decide) (by subst_vars; decide) (by (first | (simp only [ASt.ev, tmPut, ↓reduceIte, reduceIte, Nat.reduceEqDiff, plain1, *]; rfl) | fail)) (by decide) (by (simp only [tmPut, ↓reduceIte, reduceIte, Option.some.injEq, Nat.reduceEqDiff, *])) hown (fun b t hb => (hob b t hb).2) (by exact rfl) (by exact rfl) (by exact rfl) (by exact rfl) (by simp [wordF]; omega) ?_
      rintro v' ob' H'' hown' ⟨b, rfl, hb⟩ hsame
      repeat (first | (refine OpsL.p (by subst_vars; decide) (by (first | (exact aop_move (by (first | (simp only [ASt.ev, tmPut, ↓reduceIte, reduceIte, Nat.reduceEqDiff, plain1, *]; rfl) | fail))) | (exact aop_assign (by (first | (simp only [ASt.ev, tmPut, ↓reduceIte, reduceIte, Nat.reduceEqDiff, plain1, *]; rfl) | fail))) | (exact aop_add (by (first | (simp only [ASt.ev, tmPut, ↓reduceIte, reduceIte, Nat.reduceEqDiff, plain1, *]; rfl) | fail)) (by (first | (simp only [ASt.ev, tmPut, ↓reduceIte, reduceIte, Nat.reduceEqDiff, plain1, *]; rfl) | fail)) (by omega)) | fail)) ?_) | (refine Trip.ops ?_) | (refine OpsL.nil ?_; ((repeat (first | refine blockExit_eq ?_ | refine blockExit_ne (by decide) ?_ | refine blockExit_normal ?_ | refine blockExit_ret ?_ | refine blockExit_goto ?_)); first | (change Trip _ _ _ _ _) | dsimp only | skip)) | fail)
      refine ⟨i + 1, ⟨_, _, _, some (b, nx2 + 1), v', rfl, ?_, ?_, ?_, ?_, ?_, ?_, ?_, ?_, by omega, by omega⟩, by omega⟩
      · exact ⟨by have := hext.1; omega, fun k hk => by rw [hsame k (by have := hext.1; omega) (fun b t hb => by have := (hob b t hb).1; omega), hext.2 k hk]⟩
      · have : wordF ss.length ns (i + 1) = wordF ss.length ns i ++ [ns[i] % (ss.length : Int)] := by
          unfold wordF
          rw [List.take_succ_eq_append_getElem hlt, List.map_append]
          rfl
        rw [this]
        exact hown'
      · intro b' t' hb'
        cases hb'
        rcases hb with rfl | ⟨t, hb⟩
        · exact ⟨by have := hext.1; omega, by omega⟩
        · have := hob b t hb; exact ⟨by omega, by omega⟩
      · simp [tmPut, *]
      · simp [tmPut, *]
      · simp [tmPut, *]
      · simp [tmPut, *]
      · simp [tmPut, *]
    · repeat (first | (refine OpsL.p (by subst_vars; decide) (by (first | (exact aop_move (by (first | (simp only [ASt.ev, tmPut, ↓reduceIte, reduceIte, Nat.reduceEqDiff, plain1, *]; rfl) | fail))) | (exact aop_assign (by (first | (simp only [ASt.ev, tmPut, ↓reduceIte, reduceIte, Nat.reduceEqDiff, plain1, *]; rfl) | fail))) | fail)) ?_) | (refine Trip.seq ?_) | (refine Trip.ops ?_) | (refine Trip.exit ?_; ((repeat (first | refine blockExit_eq ?_ | refine blockExit_ne (by decide) ?_ | refine blockExit_normal ?_ | refine blockExit_ret ?_ | refine blockExit_goto ?_)); first | (change Trip _ _ _ _ _) | dsimp only | skip)) | (refine Trip.ret ?_; ((repeat (first | refine blockExit_eq ?_ | refine blockExit_ne (by decide) ?_ | refine blockExit_normal ?_ | refine blockExit_ret ?_ | refine blockExit_goto ?_)); first | (change Trip _ _ _ _ _) | dsimp only | skip)) | (refine OpsL.nil ?_; ((repeat (first | refine blockExit_eq ?_ | refine blockExit_ne (by decide) ?_ | refine blockExit_normal ?_ | refine blockExit_ret ?_ | refine blockExit_goto ?_)); first | (change Trip _ _ _ _ _) | dsimp only | skip)) | fail)
      have hi2 : i = most := by omega
      subst hi2
      exact ⟨.inr rfl, _, res_tmp, ⟨ob, by simpa [tmPut, e7] using hown, hob⟩, hext⟩
    · repeat (first | (refine OpsL.p (by subst_vars; decide) (by (first | (exact aop_pickF (by (first | (simp only [ASt.ev, tmPut, ↓reduceIte, reduceIte, Nat.reduceEqDiff, decide_true, decide_false, not_true_eq_false, not_false_eq_true, Bool.not_true, Bool.not_false, *]; done) | fail)) (by (first | (simp only [ASt.ev, tmPut, ↓reduceIte, reduceIte, Nat.reduceEqDiff, plain1, *]; rfl) | fail))) | fail)) ?_) | (refine OpsL.nil ?_; ((repeat (first | refine blockExit_eq ?_ | refine blockExit_ne (by decide) ?_ | refine blockExit_normal ?_ | refine blockExit_ret ?_ | refine blockExit_goto ?_)); first | (change Trip _ _ _ _ _) | dsimp only | skip)) | (refine OpsL.skipped (by exact rfl) (by (first | (simp only [ASt.ev, tmPut, ↓reduceIte, reduceIte, Nat.reduceEqDiff, decide_true, decide_false, not_true_eq_false, not_false_eq_true, Bool.not_true, Bool.not_false, *]; done) | fail)) (by subst_vars; decide) ?_) | fail)
      refine Trip.iteB (b := false) (by (first | (simp only [ASt.ev, tmPut, ↓reduceIte, reduceIte, Nat.reduceEqDiff, decide_true, decide_false, not_true_eq_false, not_false_eq_true, Bool.not_true, Bool.not_false, *]; done) | fail)) (fun h => absurd h (by decide)) (fun _ => ?_)
      repeat (first | (refine OpsL.p (by subst_vars; decide) (by (first | (exact aop_move (by (first | (simp only [ASt.ev, tmPut, ↓reduceIte, reduceIte, Nat.reduceEqDiff, plain1, *]; rfl) | fail))) | (exact aop_assign (by (first | (simp only [ASt.ev, tmPut, ↓reduceIte, reduceIte, Nat.reduceEqDiff, plain1, *]; rfl) | fail))) | fail)) ?_) | (refine Trip.seq ?_) | (refine Trip.ops ?_) | (refine Trip.exit ?_; ((repeat (first | refine blockExit_eq ?_ | refine blockExit_ne (by decide) ?_ | refine blockExit_normal ?_ | refine blockExit_ret ?_ | refine blockExit_goto ?_)); first | (change Trip _ _ _ _ _) | dsimp only | skip)) | (refine Trip.ret ?_; ((repeat (first | refine blockExit_eq ?_ | refine blockExit_ne (by decide) ?_ | refine blockExit_normal ?_ | refine blockExit_ret ?_ | refine blockExit_goto ?_)); first | (change Trip _ _ _ _ _) | dsimp only | skip)) | (refine OpsL.nil ?_; ((repeat (first | refine blockExit_eq ?_ | refine blockExit_ne (by decide) ?_ | refine blockExit_normal ?_ | refine blockExit_ret ?_ | refine blockExit_goto ?_)); first | (change Trip _ _ _ _ _) | dsimp only | skip)) | fail)
      have hi2 : wordF ss.length ns most = wordF ss.length ns i := by
        unfold wordF
        rw [List.take_of_length_le (by omega), List.take_of_length_le (by omega)]
      refine ⟨.inr rfl, _, res_tmp, ⟨ob, ?_, hob⟩, hext⟩
      rw [hi2]
      simpa [tmPut, e7] using hown

def baseF : List (ByteArray × Int) := [(⟨#[97]⟩, 1), (⟨#[97]⟩, 2), (⟨#[98]⟩, 3), (⟨#[99]⟩, 1), (⟨#[99]⟩, 2), (⟨#[100]⟩, 3), (⟨#[120]⟩, 2)]
def symsF (n : Int) (ns : List Int) : List (ByteArray × Int) :=
  if n % 7 = 1 then [(⟨#[98]⟩, 3), (⟨#[97]⟩, 2), (⟨#[97]⟩, 1)]
  else match ns with
    | x :: _ => if n % 11 = 2 then (baseF.drop (x % 7).toNat).take 1 else baseF.take (3 + n % 5).toNat
    | [] => baseF.take (3 + n % 5).toNat

theorem baseF_kind : ∀ s ∈ baseF, s.2 = 1 ∨ s.2 = 2 ∨ s.2 = 3 := by decide
theorem symsF_good (n : Int) (ns : List Int) : 0 < (symsF n ns).length ∧ (symsF n ns).length ≤ 7 ∧ ∀ s ∈ symsF n ns, s.2 = 1 ∨ s.2 = 2 ∨ s.2 = 3 := by
  have m5 := Int.emod_nonneg n (by omega : (5 : Int) ≠ 0)
  have m5' := Int.emod_lt_of_pos n (by omega : (0 : Int) < 5)
  have hb : baseF.length = 7 := rfl
  have htake : 0 < (baseF.take (3 + n % 5).toNat).length ∧ (baseF.take (3 + n % 5).toNat).length ≤ 7 ∧ ∀ s ∈ baseF.take (3 + n % 5).toNat, s.2 = 1 ∨ s.2 = 2 ∨ s.2 = 3 :=
    ⟨by rw [List.length_take]; omega, by rw [List.length_take]; omega, fun s hs => baseF_kind s (List.mem_of_mem_take hs)⟩
  unfold symsF
  split
  · exact ⟨by simp, by simp, by simp⟩
  · split
    · rename_i x l
      have x7 := Int.emod_nonneg x (by omega : (7 : Int) ≠ 0)
      have x7' := Int.emod_lt_of_pos x (by omega : (0 : Int) < 7)
      split
      · refine ⟨?_, ?_, fun s hs => baseF_kind s (List.mem_of_mem_drop (List.mem_of_mem_take hs))⟩ <;> (rw [List.length_take, List.length_drop]; omega)
      · exact htake
    · exact htake

theorem wordF_mem {k : Nat} {ns : List Int} {most : Nat} (hk : 0 < k) : ∀ x ∈ wordF k ns most, 0 ≤ x ∧ x < k := by
  intro x hx
  unfold wordF at hx
  rw [List.mem_map] at hx
  obtain ⟨y, _, rfl⟩ := hx
  exact ⟨Int.emod_nonneg _ (by omega), Int.emod_lt_of_pos _ (by omega)⟩
theorem wordF_length {k : Nat} {ns : List Int} {most : Nat} : (wordF k ns most).length ≤ most := by
  unfold wordF
  rw [List.length_map, List.length_take]
  omega

theorem entersKnown : Enters Try.prog 8 := ⟨Try.f8, Try.func8, by kernel_rfl, by kernel_rfl⟩
theorem entersSyms : Enters Try.prog 9 := ⟨Try.f9, Try.func9, by kernel_rfl, by kernel_rfl⟩
theorem entersWord : Enters Try.prog 10 := ⟨Try.f10, Try.func10, by kernel_rfl, by kernel_rfl⟩

def symCells : List Value := [.string ⟨#[97]⟩, .int .i64 1, .string ⟨#[97]⟩, .int .i64 2, .string ⟨#[98]⟩, .int .i64 3, .string ⟨#[99]⟩, .int .i64 1, .string ⟨#[99]⟩, .int .i64 2, .string ⟨#[100]⟩, .int .i64 3, .string ⟨#[120]⟩, .int .i64 2]

set_option maxRecDepth 20000 in
set_option maxHeartbeats 4000000 in
theorem symsC (W0 : World) {nx : Nat} {H : Heap} {nv : Value} {m : Int} {ns : List Int} (hn : IntsAt H nv ns) :
    ACalls Try.prog W0 9 [.int .i64 m, nv] nx H fun v nx' H' => SymsAt H' v (symsF m ns) ∧ Ext nx H nx' H' := by
  obtain ⟨na, nc, rfl⟩ := hn.slice
  refine ACalls.by_trip (fn := Try.f9) (c := _) Try.func9 rfl (fun tm n hn0 htm => ?_)
  have e0 : tm 0 = .int .i64 m := htm 0
  have e1 : tm 1 = .slice na ns.length nc := htm 1
  clear htm
  replace hn0 : n = 50 := hn0
  refine Trip.ok fun hok => ?_
  replace hok : ∀ id o, H id = some o → id < nx := hok
  repeat (first | (refine OpsL.p (by subst_vars; decide) (by (first | (exact aop_assign (by (first | (simp only [ASt.ev, tmPut, ↓reduceIte, reduceIte, Nat.reduceEqDiff, plain1, *]; rfl) | fail))) | fail)) ?_) | (refine Trip.seq ?_) | (refine Trip.ops ?_) | (refine OpsL.nil ?_; ((repeat (first | refine blockExit_eq ?_ | refine blockExit_ne (by decide) ?_ | refine blockExit_normal ?_ | refine blockExit_ret ?_ | refine blockExit_goto ?_)); first | (change Trip _ _ _ _ _) | dsimp only | skip)) | fail)
  refine OpsL.p (by subst_vars; decide) (aop_build (v := .agg #[.string ⟨#[97]⟩, .int .i64 1]) (by exact rfl) (by exact rfl)) ?_
  refine OpsL.p (by subst_vars; decide) (aop_build (v := .agg #[.string ⟨#[97]⟩, .int .i64 2]) (by exact rfl) (by exact rfl)) ?_
  refine OpsL.p (by subst_vars; decide) (aop_build (v := .agg #[.string ⟨#[98]⟩, .int .i64 3]) (by exact rfl) (by exact rfl)) ?_
  refine OpsL.p (by subst_vars; decide) (aop_build (v := .agg #[.string ⟨#[99]⟩, .int .i64 1]) (by exact rfl) (by exact rfl)) ?_
  refine OpsL.p (by subst_vars; decide) (aop_build (v := .agg #[.string ⟨#[99]⟩, .int .i64 2]) (by exact rfl) (by exact rfl)) ?_
  refine OpsL.p (by subst_vars; decide) (aop_build (v := .agg #[.string ⟨#[100]⟩, .int .i64 3]) (by exact rfl) (by exact rfl)) ?_
  refine OpsL.p (by subst_vars; decide) (aop_build (v := .agg #[.string ⟨#[120]⟩, .int .i64 2]) (by exact rfl) (by exact rfl)) ?_
  refine OpsL.new (o := .cells symCells 2 none false (some 45)) (by subst_vars; decide) (aop_buildSlice (l := [(0, .agg #[.string ⟨#[97]⟩, .int .i64 1]), (1, .agg #[.string ⟨#[97]⟩, .int .i64 2]), (2, .agg #[.string ⟨#[98]⟩, .int .i64 3]), (3, .agg #[.string ⟨#[99]⟩, .int .i64 1]), (4, .agg #[.string ⟨#[99]⟩, .int .i64 2]), (5, .agg #[.string ⟨#[100]⟩, .int .i64 3]), (6, .agg #[.string ⟨#[120]⟩, .int .i64 2])]) (by simp only [evParts, ASt.ev, tmPut, ↓reduceIte, reduceIte, Option.some.injEq, Nat.reduceEqDiff]) (by exact rfl)) ?_
  repeat (first | (refine OpsL.p (by subst_vars; decide) (by (first | (exact aop_move (by (first | (simp only [ASt.ev, tmPut, ↓reduceIte, reduceIte, Nat.reduceEqDiff, plain1, *]; rfl) | fail))) | (exact aop_assign (by (first | (simp only [ASt.ev, tmPut, ↓reduceIte, reduceIte, Nat.reduceEqDiff, plain1, *]; rfl) | fail))) | fail)) ?_) | (refine Trip.seq ?_) | (refine Trip.ops ?_) | (refine OpsL.nil ?_; ((repeat (first | refine blockExit_eq ?_ | refine blockExit_ne (by decide) ?_ | refine blockExit_normal ?_ | refine blockExit_ret ?_ | refine blockExit_goto ?_)); first | (change Trip _ _ _ _ _) | dsimp only | skip)) | fail)
  refine OpsL.call2 (by subst_vars; decide) (by (first | (simp only [ASt.ev, tmPut, ↓reduceIte, reduceIte, Nat.reduceEqDiff, plain1, *]; rfl) | fail)) (by (first | (simp only [ASt.ev, tmPut, ↓reduceIte, reduceIte, Nat.reduceEqDiff, plain1, *]; rfl) | fail)) entersWithin (withinC W0 _ _ (by omega) (by omega)) ?_
  rintro v nx1 H1 ⟨rfl, rfl, rfl⟩
  have m5 := Int.emod_nonneg m (by omega : (5 : Int) ≠ 0)
  have m5' := Int.emod_lt_of_pos m (by omega : (0 : Int) < 5)
  repeat (first | (refine OpsL.p (by subst_vars; decide) (by (first | (exact aop_move (by (first | (simp only [ASt.ev, tmPut, ↓reduceIte, reduceIte, Nat.reduceEqDiff, plain1, *]; rfl) | fail))) | (exact aop_assign (by (first | (simp only [ASt.ev, tmPut, ↓reduceIte, reduceIte, Nat.reduceEqDiff, plain1, *]; rfl) | fail))) | (exact aop_add (by (first | (simp only [ASt.ev, tmPut, ↓reduceIte, reduceIte, Nat.reduceEqDiff, plain1, *]; rfl) | fail)) (by (first | (simp only [ASt.ev, tmPut, ↓reduceIte, reduceIte, Nat.reduceEqDiff, plain1, *]; rfl) | fail)) (by omega)) | fail)) ?_) | (refine Trip.seq ?_) | (refine Trip.ops ?_) | (refine OpsL.nil ?_; ((repeat (first | refine blockExit_eq ?_ | refine blockExit_ne (by decide) ?_ | refine blockExit_normal ?_ | refine blockExit_ret ?_ | refine blockExit_goto ?_)); first | (change Trip _ _ _ _ _) | dsimp only | skip)) | fail)
  refine OpsL.call2 (by subst_vars; decide) (by (first | (simp only [ASt.ev, tmPut, ↓reduceIte, reduceIte, Nat.reduceEqDiff, plain1, *]; rfl) | fail)) (by (first | (simp only [ASt.ev, tmPut, ↓reduceIte, reduceIte, Nat.reduceEqDiff, plain1, *]; rfl) | fail)) entersWithin (withinC W0 _ _ (by omega) (by omega)) ?_
  rintro v nx1 H1 ⟨rfl, rfl, rfl⟩
  have hall : ∀ (i : Nat) (h : i < baseF.length) (k : Nat), k = i * 2 → getc (H.put nx (.cells symCells 2 none false (some 45))) ⟨nx, k, none⟩ 2 = some [.string baseF[i].1, .int .i64 baseF[i].2] := by
    intro i h k hk
    subst hk
    have : i = 0 ∨ i = 1 ∨ i = 2 ∨ i = 3 ∨ i = 4 ∨ i = 5 ∨ i = 6 := by simp [baseF] at h; omega
    rcases this with rfl | rfl | rfl | rfl | rfl | rfl | rfl <;> (rw [getc_own (by decide)]; rfl)
  repeat (first | (refine OpsL.p (by subst_vars; decide) (by (first | (exact aop_eql (by (first | (simp only [ASt.ev, tmPut, ↓reduceIte, reduceIte, Nat.reduceEqDiff, plain1, *]; rfl) | fail)) (by (first | (simp only [ASt.ev, tmPut, ↓reduceIte, reduceIte, Nat.reduceEqDiff, plain1, *]; rfl) | fail))) | fail)) ?_) | (refine Trip.seq ?_) | (refine Trip.ite (by (first | (simp only [ASt.ev, tmPut, ↓reduceIte, reduceIte, Nat.reduceEqDiff, plain1, *]; rfl) | fail)) (fun _ => ?_) (fun _ => ?_)) | (refine OpsL.nil ?_; ((repeat (first | refine blockExit_eq ?_ | refine blockExit_ne (by decide) ?_ | refine blockExit_normal ?_ | refine blockExit_ret ?_ | refine blockExit_goto ?_)); first | (change Trip _ _ _ _ _) | dsimp only | skip)) | fail)
  · rename_i h7
    refine OpsL.drawn fit.mixed (by kernel_rfl) (by kernel_rfl) ?_
    repeat (first | (refine OpsL.p (by subst_vars; decide) (by (first | (exact aop_move (by (first | (simp only [ASt.ev, tmPut, ↓reduceIte, reduceIte, Nat.reduceEqDiff, plain1, *]; rfl) | fail))) | (exact aop_indexAddr (by (first | (simp only [ASt.ev, tmPut, ↓reduceIte, reduceIte, Nat.reduceEqDiff, plain1, *]; rfl) | fail)) (by (first | (simp only [ASt.ev, tmPut, ↓reduceIte, reduceIte, Nat.reduceEqDiff, plain1, *]; rfl) | fail)) (by exact rfl) (by exact rfl) (by omega) (by omega)) | fail)) ?_) | fail)
    refine OpsL.p (by subst_vars; decide) (aop_loadAgg (k := 2) (by (first | (simp only [ASt.ev, tmPut, ↓reduceIte, reduceIte, Nat.reduceEqDiff, plain1, *]; rfl) | fail)) (by exact rfl) rfl (by exact rfl) (hall 2 (by decide) _ (by exact rfl))) ?_
    repeat (first | (refine OpsL.p (by subst_vars; decide) (by (first | (exact aop_move (by (first | (simp only [ASt.ev, tmPut, ↓reduceIte, reduceIte, Nat.reduceEqDiff, plain1, *]; rfl) | fail))) | (exact aop_indexAddr (by (first | (simp only [ASt.ev, tmPut, ↓reduceIte, reduceIte, Nat.reduceEqDiff, plain1, *]; rfl) | fail)) (by (first | (simp only [ASt.ev, tmPut, ↓reduceIte, reduceIte, Nat.reduceEqDiff, plain1, *]; rfl) | fail)) (by exact rfl) (by exact rfl) (by omega) (by omega)) | fail)) ?_) | fail)
    refine OpsL.p (by subst_vars; decide) (aop_loadAgg (k := 2) (by (first | (simp only [ASt.ev, tmPut, ↓reduceIte, reduceIte, Nat.reduceEqDiff, plain1, *]; rfl) | fail)) (by exact rfl) rfl (by exact rfl) (hall 1 (by decide) _ (by exact rfl))) ?_
    repeat (first | (refine OpsL.p (by subst_vars; decide) (by (first | (exact aop_move (by (first | (simp only [ASt.ev, tmPut, ↓reduceIte, reduceIte, Nat.reduceEqDiff, plain1, *]; rfl) | fail))) | (exact aop_indexAddr (by (first | (simp only [ASt.ev, tmPut, ↓reduceIte, reduceIte, Nat.reduceEqDiff, plain1, *]; rfl) | fail)) (by (first | (simp only [ASt.ev, tmPut, ↓reduceIte, reduceIte, Nat.reduceEqDiff, plain1, *]; rfl) | fail)) (by exact rfl) (by exact rfl) (by omega) (by omega)) | fail)) ?_) | fail)
    refine OpsL.p (by subst_vars; decide) (aop_loadAgg (k := 2) (by (first | (simp only [ASt.ev, tmPut, ↓reduceIte, reduceIte, Nat.reduceEqDiff, plain1, *]; rfl) | fail)) (by exact rfl) rfl (by exact rfl) (hall 0 (by decide) _ (by exact rfl))) ?_
    refine OpsL.new (o := .cells [.string ⟨#[98]⟩, .int .i64 3, .string ⟨#[97]⟩, .int .i64 2, .string ⟨#[97]⟩, .int .i64 1] 2 none false (some 45)) (by subst_vars; decide)
      (aop_buildSlice (l := [(0, .agg #[.string ⟨#[98]⟩, .int .i64 3]), (1, .agg #[.string ⟨#[97]⟩, .int .i64 2]), (2, .agg #[.string ⟨#[97]⟩, .int .i64 1])]) (by simp only [evParts, ASt.ev, tmPut, ↓reduceIte, reduceIte, Option.some.injEq, Nat.reduceEqDiff]; rfl) (by exact rfl)) ?_
    repeat (first | (refine OpsL.p (by subst_vars; decide) (by (first | (exact aop_assign (by (first | (simp only [ASt.ev, tmPut, ↓reduceIte, reduceIte, Nat.reduceEqDiff, plain1, *]; rfl) | fail))) | fail)) ?_) | (refine Trip.ret ?_; ((repeat (first | refine blockExit_eq ?_ | refine blockExit_ne (by decide) ?_ | refine blockExit_normal ?_ | refine blockExit_ret ?_ | refine blockExit_goto ?_)); first | (change Trip _ _ _ _ _) | dsimp only | skip)) | (refine OpsL.nil ?_; ((repeat (first | refine blockExit_eq ?_ | refine blockExit_ne (by decide) ?_ | refine blockExit_normal ?_ | refine blockExit_ret ?_ | refine blockExit_goto ?_)); first | (change Trip _ _ _ _ _) | dsimp only | skip)) | fail)
    refine ⟨.inr rfl, _, res_tmp, ?_, ⟨by show nx ≤ nx + 1 + 1; omega, fun i hi => by rw [Heap.put_ne (by omega), Heap.put_ne (by omega)]⟩⟩
    have hsy : symsF m ns = [(⟨#[98]⟩, 3), (⟨#[97]⟩, 2), (⟨#[97]⟩, 1)] := by unfold symsF; rw [if_pos h7]
    rw [hsy]
    refine ⟨⟨nx + 1, 0, none⟩, 3, by simp [tmPut], fun i hi => ?_⟩
    have : i = 0 ∨ i = 1 ∨ i = 2 := by simp at hi; omega
    rcases this with rfl | rfl | rfl <;> (rw [getc_own (by show 0 + _ * 2 + 2 ≤ 6; decide)]; rfl)
  · rename_i h7
    repeat (first | (refine OpsL.p (by subst_vars; decide) (by (first | (exact aop_move (by (first | (simp only [ASt.ev, tmPut, ↓reduceIte, reduceIte, Nat.reduceEqDiff, plain1, *]; rfl) | fail))) | fail)) ?_) | (refine Trip.seq ?_) | (refine Trip.ops ?_) | (refine Trip.skip ?_; ((repeat (first | refine blockExit_eq ?_ | refine blockExit_ne (by decide) ?_ | refine blockExit_normal ?_ | refine blockExit_ret ?_ | refine blockExit_goto ?_)); first | (change Trip _ _ _ _ _) | dsimp only | skip)) | fail)
    refine OpsL.call2 (by subst_vars; decide) (by (first | (simp only [ASt.ev, tmPut, ↓reduceIte, reduceIte, Nat.reduceEqDiff, plain1, *]; rfl) | fail)) (by (first | (simp only [ASt.ev, tmPut, ↓reduceIte, reduceIte, Nat.reduceEqDiff, plain1, *]; rfl) | fail)) entersWithin (withinC W0 _ _ (by omega) (by omega)) ?_
    rintro v nx1 H1 ⟨rfl, rfl, rfl⟩
    repeat' (first | (refine OpsL.p (by subst_vars; decide) (by (first | (exact aop_move (by (first | (simp only [ASt.ev, tmPut, ↓reduceIte, reduceIte, Nat.reduceEqDiff, plain1, *]; rfl) | fail))) | (exact aop_gtr (by (first | (simp only [ASt.ev, tmPut, ↓reduceIte, reduceIte, Nat.reduceEqDiff, plain1, *]; rfl) | fail)) (by (first | (simp only [ASt.ev, tmPut, ↓reduceIte, reduceIte, Nat.reduceEqDiff, plain1, *]; rfl) | fail))) | (exact aop_eql (by (first | (simp only [ASt.ev, tmPut, ↓reduceIte, reduceIte, Nat.reduceEqDiff, plain1, *]; rfl) | fail)) (by (first | (simp only [ASt.ev, tmPut, ↓reduceIte, reduceIte, Nat.reduceEqDiff, plain1, *]; rfl) | fail))) | (exact aop_len (by (first | (simp only [ASt.ev, tmPut, ↓reduceIte, reduceIte, Nat.reduceEqDiff, plain1, *]; rfl) | fail)) (by exact rfl)) | (exact aop_pickT (by (first | (simp only [ASt.ev, tmPut, ↓reduceIte, reduceIte, Nat.reduceEqDiff, decide_true, decide_false, not_true_eq_false, not_false_eq_true, Bool.not_true, Bool.not_false, *]; done) | fail)) (by (first | (simp only [ASt.ev, tmPut, ↓reduceIte, reduceIte, Nat.reduceEqDiff, plain1, *]; rfl) | fail))) | (exact aop_pickF (by (first | (simp only [ASt.ev, tmPut, ↓reduceIte, reduceIte, Nat.reduceEqDiff, decide_true, decide_false, not_true_eq_false, not_false_eq_true, Bool.not_true, Bool.not_false, *]; done) | fail)) (by (first | (simp only [ASt.ev, tmPut, ↓reduceIte, reduceIte, Nat.reduceEqDiff, plain1, *]; rfl) | fail))) | fail)) ?_) | (refine Trip.seq ?_) | (refine Trip.ops ?_) | (refine Trip.ite (by (first | (simp only [ASt.ev, tmPut, ↓reduceIte, reduceIte, Nat.reduceEqDiff, plain1, *]; rfl) | fail)) (fun _ => ?_) (fun _ => ?_)) | (refine Trip.skip ?_; ((repeat (first | refine blockExit_eq ?_ | refine blockExit_ne (by decide) ?_ | refine blockExit_normal ?_ | refine blockExit_ret ?_ | refine blockExit_goto ?_)); first | (change Trip _ _ _ _ _) | dsimp only | skip)) | (refine OpsL.nil ?_; ((repeat (first | refine blockExit_eq ?_ | refine blockExit_ne (by decide) ?_ | refine blockExit_normal ?_ | refine blockExit_ret ?_ | refine blockExit_goto ?_)); first | (change Trip _ _ _ _ _) | dsimp only | skip)) | (refine OpsL.unguard (by exact rfl) (by (first | (simp only [ASt.ev, tmPut, ↓reduceIte, reduceIte, Nat.reduceEqDiff, decide_true, decide_false, not_true_eq_false, not_false_eq_true, Bool.not_true, Bool.not_false, *]; done) | fail)) ?_) | (refine OpsL.skipped (by exact rfl) (by (first | (simp only [ASt.ev, tmPut, ↓reduceIte, reduceIte, Nat.reduceEqDiff, decide_true, decide_false, not_true_eq_false, not_false_eq_true, Bool.not_true, Bool.not_false, *]; done) | fail)) (by subst_vars; decide) ?_) | (refine OpsL.guardT (by exact rfl) (by (first | (simp only [ASt.ev, tmPut, ↓reduceIte, reduceIte, Nat.reduceEqDiff, plain1, *]; rfl) | fail)) (by subst_vars; decide) (fun _ => ?_) (fun _ => ?_)) | fail)
    · rename_i h11 hlen
      obtain ⟨x, ns, rfl⟩ : ∃ x l, ns = x :: l := by cases ns with | nil => simp at hlen | cons x l => exact ⟨x, l, rfl⟩
      obtain ⟨p, rfl, hc⟩ := hn.get (i := 0) (by simp)
      replace hc : cellAt (H.put nx (.cells symCells 2 none false (some 45))) ⟨p.block, p.off + (0 : Int).toNat * 1, p.spot⟩ (.int .i64 x) := by
        obtain ⟨o, ho⟩ := getc_some hc
        have := hok _ _ ho
        unfold cellAt at *
        rw [getc_put (by simp only at this ⊢; omega)]
        exact hc
      have x7 := Int.emod_nonneg x (by omega : (7 : Int) ≠ 0)
      have x7' := Int.emod_lt_of_pos x (by omega : (0 : Int) < 7)
      repeat (first | (refine OpsL.p (by subst_vars; decide) (by (first | (exact aop_indexAddr (by (first | (simp only [ASt.ev, tmPut, ↓reduceIte, reduceIte, Nat.reduceEqDiff, plain1, *]; rfl) | fail)) (by (first | (simp only [ASt.ev, tmPut, ↓reduceIte, reduceIte, Nat.reduceEqDiff, plain1, *]; rfl) | fail)) (by exact rfl) (by exact rfl) (by omega) (by omega)) | (exact aop_load (by (first | (simp only [ASt.ev, tmPut, ↓reduceIte, reduceIte, Nat.reduceEqDiff, plain1, *]; rfl) | fail)) (by exact rfl) rfl (by assumption)) | fail)) ?_) | fail)
      refine OpsL.call2 (by subst_vars; decide) (by (first | (simp only [ASt.ev, tmPut, ↓reduceIte, reduceIte, Nat.reduceEqDiff, plain1, *]; rfl) | fail)) (by (first | (simp only [ASt.ev, tmPut, ↓reduceIte, reduceIte, Nat.reduceEqDiff, plain1, *]; rfl) | fail)) entersWithin (withinC W0 _ _ (by omega) (by omega)) ?_
      rintro v nx1 H1 ⟨rfl, rfl, rfl⟩
      repeat (first | (refine OpsL.p (by subst_vars; decide) (by (first | (exact aop_indexAddr (by (first | (simp only [ASt.ev, tmPut, ↓reduceIte, reduceIte, Nat.reduceEqDiff, plain1, *]; rfl) | fail)) (by (first | (simp only [ASt.ev, tmPut, ↓reduceIte, reduceIte, Nat.reduceEqDiff, plain1, *]; rfl) | fail)) (by exact rfl) (by exact rfl) (by omega) (by omega)) | fail)) ?_) | fail)
      have h7l : (x % 7).toNat < baseF.length := by show _ < 7; omega
      refine OpsL.p (by subst_vars; decide) (aop_loadAgg (k := 2) (by (first | (simp only [ASt.ev, tmPut, ↓reduceIte, reduceIte, Nat.reduceEqDiff, plain1, *]; rfl) | fail)) (by exact rfl) rfl (by exact rfl) (hall (x % 7).toNat h7l _ (by show 0 + _ * 2 = _; omega))) ?_
      refine OpsL.new (o := .cells [.string baseF[(x % 7).toNat].1, .int .i64 baseF[(x % 7).toNat].2] 2 none false (some 45)) (by subst_vars; decide)
        (aop_buildSlice (l := [(0, .agg [.string baseF[(x % 7).toNat].1, .int .i64 baseF[(x % 7).toNat].2].toArray)]) (by simp only [evParts, ASt.ev, tmPut, ↓reduceIte, reduceIte, Option.some.injEq, Nat.reduceEqDiff]) (by exact rfl)) ?_
      repeat (first | (refine OpsL.p (by subst_vars; decide) (by (first | (exact aop_assign (by (first | (simp only [ASt.ev, tmPut, ↓reduceIte, reduceIte, Nat.reduceEqDiff, plain1, *]; rfl) | fail))) | fail)) ?_) | (refine Trip.ret ?_; ((repeat (first | refine blockExit_eq ?_ | refine blockExit_ne (by decide) ?_ | refine blockExit_normal ?_ | refine blockExit_ret ?_ | refine blockExit_goto ?_)); first | (change Trip _ _ _ _ _) | dsimp only | skip)) | (refine OpsL.nil ?_; ((repeat (first | refine blockExit_eq ?_ | refine blockExit_ne (by decide) ?_ | refine blockExit_normal ?_ | refine blockExit_ret ?_ | refine blockExit_goto ?_)); first | (change Trip _ _ _ _ _) | dsimp only | skip)) | fail)
      refine ⟨.inr rfl, _, res_tmp, ?_, ⟨by show nx ≤ nx + 1 + 1; omega, fun i hi => by rw [Heap.put_ne (by omega), Heap.put_ne (by omega)]⟩⟩
      have hsy : symsF m (x :: ns) = [baseF[(x % 7).toNat]] := by
        unfold symsF
        rw [if_neg h7]
        simp only [h11, if_true]
        rw [List.take_one, List.head?_drop, List.getElem?_eq_getElem h7l]
        rfl
      rw [hsy]
      refine ⟨⟨nx + 1, 0, none⟩, 1, by simp [tmPut], fun i hi => ?_⟩
      have : i = 0 := by simp at hi; omega
      subst this
      rw [getc_own (by show 0 + 0 * 2 + 2 ≤ 2; omega)]
      rfl
    all_goals
      try refine Trip.iteB (b := false) (by (first | (simp only [ASt.ev, tmPut, ↓reduceIte, reduceIte, Nat.reduceEqDiff, decide_true, decide_false, not_true_eq_false, not_false_eq_true, Bool.not_true, Bool.not_false, *]; done) | fail)) (fun h => absurd h (by decide)) (fun _ => ?_)
      repeat (first | (refine OpsL.p (by subst_vars; decide) (by (first | (exact aop_move (by (first | (simp only [ASt.ev, tmPut, ↓reduceIte, reduceIte, Nat.reduceEqDiff, plain1, *]; rfl) | fail))) | fail)) ?_) | (refine Trip.seq ?_) | (refine Trip.ops ?_) | (refine Trip.skip ?_; ((repeat (first | refine blockExit_eq ?_ | refine blockExit_ne (by decide) ?_ | refine blockExit_normal ?_ | refine blockExit_ret ?_ | refine blockExit_goto ?_)); first | (change Trip _ _ _ _ _) | dsimp only | skip)) | fail)
      refine OpsL.p (by subst_vars; decide) (aop_slice (a := none) (b := some (.int .i64 (3 + m % 5))) (c := none) (by (first | (simp only [ASt.ev, tmPut, ↓reduceIte, reduceIte, Nat.reduceEqDiff, plain1, *]; rfl) | fail)) rfl (by simp only [evOpt, ASt.ev, tmPut, ↓reduceIte, reduceIte, Option.some.injEq, Nat.reduceEqDiff, Option.map_some]) rfl
        (aSlice_plain (l := 0) (h := (3 + m % 5).toNat) (sz := 2) (by exact rfl) (by exact rfl) Heap.put_eq rfl rfl (.inl ⟨rfl, rfl⟩) (.inr ⟨.i64, by congr 2; omega⟩) (by omega) (by omega))) ?_
      repeat (first | (refine OpsL.p (by subst_vars; decide) (by (first | (exact aop_assign (by (first | (simp only [ASt.ev, tmPut, ↓reduceIte, reduceIte, Nat.reduceEqDiff, plain1, *]; rfl) | fail))) | fail)) ?_) | (refine Trip.ret ?_; ((repeat (first | refine blockExit_eq ?_ | refine blockExit_ne (by decide) ?_ | refine blockExit_normal ?_ | refine blockExit_ret ?_ | refine blockExit_goto ?_)); first | (change Trip _ _ _ _ _) | dsimp only | skip)) | (refine OpsL.nil ?_; ((repeat (first | refine blockExit_eq ?_ | refine blockExit_ne (by decide) ?_ | refine blockExit_normal ?_ | refine blockExit_ret ?_ | refine blockExit_goto ?_)); first | (change Trip _ _ _ _ _) | dsimp only | skip)) | fail)
      refine ⟨.inr rfl, _, res_tmp, ?_, ⟨by show nx ≤ nx + 1; omega, fun i hi => by rw [Heap.put_ne (by omega)]⟩⟩
      have hsy : symsF m ns = baseF.take (3 + m % 5).toNat := by
        unfold symsF
        rw [if_neg h7]
        cases ns with
        | nil => rfl
        | cons x l => simp_all
      have hlen : (baseF.take (3 + m % 5).toNat).length = (3 + m % 5).toNat := by
        rw [List.length_take]; show min _ 7 = _; omega
      rw [hsy]
      refine ⟨⟨nx, 0, none⟩, 7, by rw [hlen]; simp [tmPut], fun i hi => ?_⟩
      rw [hlen] at hi
      rw [List.getElem_take]
      exact hall i (by show i < 7; omega) _ (by show 0 + i * 2 = _; omega)
end Go.Proofs.Ytngekapiemkgnaa
