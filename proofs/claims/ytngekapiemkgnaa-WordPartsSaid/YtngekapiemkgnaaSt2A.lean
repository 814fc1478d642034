/-
  Texts laid together: Sym1, Str1, Find1, Parse1, Scan1, Pars1.
-/
import Derived.Test.YtngekapiemkgnaaBase1S
import Derived.Test.YtngekapiemkgnaaAmW
import Derived.Test.YtngekapiemkgnaaAmY
import Derived.Test.YtngekapiemkgnaaAmZ
/-
  Chapter 1, what its laws are made of: symbols of numbers, words of numbers, by plain functions.
-/
namespace Go.Proofs.Ytngekapiemkgnaa
set_option linter.unusedSimpArgs false
set_option linter.unusedVariables false
open Go.Am Go.RowKit
attribute [local irreducible] aop OpsL Trip blockExit OpsD

theorem withinC (W0 : World) {nx : Nat} {H : Heap} (a m : Int) (h0 : 0 < m) (h1 : m ≤ 4611686018427387904) : ACalls Try.prog W0 13 [.int .i64 a, .int .i64 m] nx H fun v nx' H' => v = .int .i64 (a % m) ∧ nx' = nx ∧ H' = H :=
  (within_told W0 a m _ h0 h1 rfl).2 nx H

/-- A row of symbols, as it may be read. -/
def SymsAt (H : Heap) (v : Value) (ss : List (ByteArray × Int)) : Prop :=
  ∃ a c, v = .slice (some a) ss.length c ∧ ∀ (i : Nat) (h : i < ss.length), getc H ⟨a.block, a.off + i * 2, a.spot⟩ 2 = some [.string ss[i].1, .int .i64 ss[i].2]

theorem SymsAt.ext {nx nx' : Nat} {H H' : Heap} {v : Value} {ss : List (ByteArray × Int)} (h : Ext nx H nx' H') (hok : ∀ id o, H id = some o → id < nx) (hs : SymsAt H v ss) : SymsAt H' v ss := by
  obtain ⟨a, c, rfl, hs⟩ := hs
  exact ⟨a, c, rfl, fun i q => getc_ext h hok (hs i q)⟩

def wordF (k : Nat) (ns : List Int) (most : Nat) : List Int := (ns.take most).map fun x => x % (k : Int)

set_option maxRecDepth 20000 in
set_option maxHeartbeats 4000000 in
theorem wordC (W0 : World) {nx : Nat} {H : Heap} {lv nv : Value} {ss : List (ByteArray × Int)} {ns : List Int} {most : Nat} (hl : SymsAt H lv ss) (hs : 0 < ss.length) (hs2 : ss.length ≤ 1000) (hn : IntsAt H nv ns) (hm : most ≤ 1000000) :
    ACalls Try.prog W0 10 [lv, nv, .int .i64 most] nx H fun v nx' H' => (∃ ob, OwnInts H' ob 3 v (wordF ss.length ns most) ∧ ∀ b t, ob = some (b, t) → nx ≤ b ∧ b < nx') ∧ Ext nx H nx' H' := by
  obtain ⟨la, lc, rfl, hl⟩ := hl
  obtain ⟨na, nc, rfl⟩ := hn.slice
  refine ACalls.by_trip (fn := Try.f10) (c := _) Try.func10 rfl (fun tm n hn0 htm => ?_)
  have e0 : tm 0 = .slice (some la) ss.length lc := htm 0
  have e1 : tm 1 = .slice na ns.length nc := htm 1
  have e2 : tm 2 = .int .i64 most := htm 2
  clear htm
  replace hn0 : n = 31 := hn0
  refine Trip.ok fun hok => ?_
  replace hok : ∀ id o, H id = some o → id < nx := hok
  repeat (first | (refine OpsL.p (by subst_vars; decide) (by (first | (exact aop_assign (by (first | (simp only [ASt.ev, tmPut, ↓reduceIte, reduceIte, Nat.reduceEqDiff, plain1, *]; rfl) | fail))) | fail)) ?_) | (refine Trip.seq ?_) | (refine Trip.ops ?_) | (refine Trip.block ?_) | (refine OpsL.nil ?_; ((repeat (first | refine blockExit_eq ?_ | refine blockExit_ne (by decide) ?_ | refine blockExit_normal ?_ | refine blockExit_ret ?_ | refine blockExit_goto ?_)); first | (change Trip _ _ _ _ _) | dsimp only | skip)) | fail)
  refine Trip.inv (fun (i : Nat) s => ∃ (tm : Nat → Value) (nx' : Nat) (H' : Heap) (ob : Option (Nat × Nat)) (v : Value), s = ⟨tm, n, H', nx'⟩ ∧ Ext nx H nx' H' ∧ OwnInts H' ob 3 v (wordF ss.length ns i) ∧ (∀ b t, ob = some (b, t) → nx ≤ b ∧ b < nx') ∧
      tm 0 = .slice (some la) ss.length lc ∧ tm 1 = .slice na ns.length nc ∧ tm 2 = .int .i64 most ∧ tm 7 = v ∧ tm 8 = .int .i64 i ∧ i ≤ ns.length ∧ i ≤ most) (fun i => ns.length - i) 0 ?_ ?_
  · exact ⟨_, _, _, none, _, rfl, Ext.refl, ⟨rfl, rfl, rfl⟩, fun _ _ h => (by cases h), e0, e1, e2, rfl, rfl, by omega, by omega⟩
  · rintro i s ⟨tm, nx', H', ob, v, rfl, hext, hown, hob, e0, e1, e2, e7, e8, hi, him⟩
    refine Trip.ok fun hok' => ?_
    replace hok' : ∀ id o, H' id = some o → id < nx' := hok'
    repeat (first | (refine OpsL.p (by subst_vars; decide) (by (first | (exact aop_move (by (first | (simp only [ASt.ev, tmPut, ↓reduceIte, reduceIte, Nat.reduceEqDiff, plain1, *]; rfl) | fail))) | (exact aop_lss (by (first | (simp only [ASt.ev, tmPut, ↓reduceIte, reduceIte, Nat.reduceEqDiff, plain1, *]; rfl) | fail)) (by (first | (simp only [ASt.ev, tmPut, ↓reduceIte, reduceIte, Nat.reduceEqDiff, plain1, *]; rfl) | fail))) | (exact aop_len (by (first | (simp only [ASt.ev, tmPut, ↓reduceIte, reduceIte, Nat.reduceEqDiff, plain1, *]; rfl) | fail)) (by exact rfl)) | (exact aop_pickT (by (first | (simp only [ASt.ev, tmPut, ↓reduceIte, reduceIte, Nat.reduceEqDiff, decide_true, decide_false, not_true_eq_false, not_false_eq_true, Bool.not_true, Bool.not_false, *]; done) | fail)) (by (first | (simp only [ASt.ev, tmPut, ↓reduceIte, reduceIte, Nat.reduceEqDiff, plain1, *]; rfl) | fail))) | fail)) ?_) | (refine Trip.seq ?_) | (refine Trip.ops ?_) | (refine Trip.block ?_) | (refine Trip.ite (by (first | (simp only [ASt.ev, tmPut, ↓reduceIte, reduceIte, Nat.reduceEqDiff, plain1, *]; rfl) | fail)) (fun _ => ?_) (fun _ => ?_)) | (refine Trip.skip ?_; ((repeat (first | refine blockExit_eq ?_ | refine blockExit_ne (by decide) ?_ | refine blockExit_normal ?_ | refine blockExit_ret ?_ | refine blockExit_goto ?_)); first | (change Trip _ _ _ _ _) | dsimp only | skip)) | (refine OpsL.nil ?_; ((repeat (first | refine blockExit_eq ?_ | refine blockExit_ne (by decide) ?_ | refine blockExit_normal ?_ | refine blockExit_ret ?_ | refine blockExit_goto ?_)); first | (change Trip _ _ _ _ _) | dsimp only | skip)) | (refine OpsL.unguard (by exact rfl) (by (first | (simp only [ASt.ev, tmPut, ↓reduceIte, reduceIte, Nat.reduceEqDiff, decide_true, decide_false, not_true_eq_false, not_false_eq_true, Bool.not_true, Bool.not_false, *]; done) | fail)) ?_) | (refine OpsL.guardT (by exact rfl) (by (first | (simp only [ASt.ev, tmPut, ↓reduceIte, reduceIte, Nat.reduceEqDiff, plain1, *]; rfl) | fail)) (by subst_vars; decide) (fun _ => ?_) (fun _ => ?_)) | fail)
    · have hlt : i < ns.length := by omega
      obtain ⟨p, rfl, hc⟩ := hn.get hlt
      replace hc : cellAt H' ⟨p.block, p.off + (i : Int).toNat * 1, p.spot⟩ (.int .i64 ns[i]) := by
        have := getc_ext hext hok hc
        simpa [cellAt] using this
      repeat (first | (refine OpsL.p (by subst_vars; decide) (by (first | (exact aop_move (by (first | (simp only [ASt.ev, tmPut, ↓reduceIte, reduceIte, Nat.reduceEqDiff, plain1, *]; rfl) | fail))) | (exact aop_len (by (first | (simp only [ASt.ev, tmPut, ↓reduceIte, reduceIte, Nat.reduceEqDiff, plain1, *]; rfl) | fail)) (by exact rfl)) | (exact aop_indexAddr (by (first | (simp only [ASt.ev, tmPut, ↓reduceIte, reduceIte, Nat.reduceEqDiff, plain1, *]; rfl) | fail)) (by (first | (simp only [ASt.ev, tmPut, ↓reduceIte, reduceIte, Nat.reduceEqDiff, plain1, *]; rfl) | fail)) (by exact rfl) (by exact rfl) (by omega) (by omega)) | (exact aop_load (by (first | (simp only [ASt.ev, tmPut, ↓reduceIte, reduceIte, Nat.reduceEqDiff, plain1, *]; rfl) | fail)) (by exact rfl) rfl (by assumption)) | fail)) ?_) | fail)
      refine OpsL.call2 (by subst_vars; decide) (by (first | (simp only [ASt.ev, tmPut, ↓reduceIte, reduceIte, Nat.reduceEqDiff, plain1, *]; rfl) | fail)) (by (first | (simp only [ASt.ev, tmPut, ↓reduceIte, reduceIte, Nat.reduceEqDiff, plain1, *]; rfl) | fail)) entersWithin (withinC W0 _ _ (by omega) (by omega)) ?_
      rintro v2 nx2 H2 ⟨rfl, rfl, rfl⟩
      refine OpsL.appendI (by subst_vars; decide) (by subst_vars; decide) (by (first | (simp only [ASt.ev, tmPut, ↓reduceIte, reduceIte, Nat.reduceEqDiff, plain1, *]; rfl) | fail)) (by decide) (by (simp only [tmPut, ↓reduceIte, reduceIte, Option.some.injEq, Nat.reduceEqDiff, *])) hown (fun b t hb => (hob b t hb).2) (by exact rfl) (by exact rfl) (by exact rfl) (by exact rfl) (by simp [wordF]; omega) ?_
      rintro v' ob' H'' hown' ⟨b, rfl, hb⟩ hsame
      repeat (first | (refine OpsL.p (by subst_vars; decide) (by (first | (exact aop_move (by (first | (simp only [ASt.ev, tmPut, ↓reduceIte, reduceIte, Nat.reduceEqDiff, plain1, *]; rfl) | fail))) | (exact aop_assign (by (first | (simp only [ASt.ev, tmPut, ↓reduceIte, reduceIte, Nat.reduceEqDiff, plain1, *]; rfl) | fail))) | (exact aop_add (by (first | (simp only [ASt.ev, tmPut, ↓reduceIte, reduceIte, Nat.reduceEqDiff, plain1, *]; rfl) | fail)) (by (first | (simp only [ASt.ev, tmPut, ↓reduceIte, reduceIte, Nat.reduceEqDiff, plain1, *]; rfl) | fail)) (by omega)) | fail)) ?_) | (refine Trip.ops ?_) | (refine OpsL.nil ?_; ((repeat (first | refine blockExit_eq ?_ | refine blockExit_ne (by decide) ?_ | refine blockExit_normal ?_ | refine blockExit_ret ?_ | refine blockExit_goto ?_)); first | (change Trip _ _ _ _ _) | dsimp only | skip)) | fail)
      refine ⟨i + 1, ⟨_, _, _, some (b, nx2 + 1), v', rfl, ?_, ?_, ?_, ?_, ?_, ?_, ?_, ?_, by omega, by omega⟩, by omega⟩
      · exact ⟨by have := hext.1; omega, fun k hk => by rw [hsame k (by have := hext.1; omega) (fun b t hb => by have := (hob b t hb).1; omega), hext.2 k hk]⟩
      · have : wordF ss.length ns (i + 1) = wordF ss.length ns i ++ [ns[i] % (ss.length : Int)] := by
          unfold wordF
          rw [List.take_succ_eq_append_getElem hlt, List.map_append]
          rfl
        rw [this]
        exact hown'
      · intro b' t' hb'
        cases hb'
        rcases hb with rfl | ⟨t, hb⟩
        · exact ⟨by have := hext.1; omega, by omega⟩
        · have := hob b t hb; exact ⟨by omega, by omega⟩
      · simp [tmPut, *]
      · simp [tmPut, *]
      · simp [tmPut, *]
      · simp [tmPut, *]
      · simp [tmPut, *]
    · repeat (first | (refine OpsL.p (by subst_vars; decide) (by (first | (exact aop_move (by (first | (simp only [ASt.ev, tmPut, ↓reduceIte, reduceIte, Nat.reduceEqDiff, plain1, *]; rfl) | fail))) | (exact aop_assign (by (first | (simp only [ASt.ev, tmPut, ↓reduceIte, reduceIte, Nat.reduceEqDiff, plain1, *]; rfl) | fail))) | fail)) ?_) | (refine Trip.seq ?_) | (refine Trip.ops ?_) | (refine Trip.exit ?_; ((repeat (first | refine blockExit_eq ?_ | refine blockExit_ne (by decide) ?_ | refine blockExit_normal ?_ | refine blockExit_ret ?_ | refine blockExit_goto ?_)); first | (change Trip _ _ _ _ _) | dsimp only | skip)) | (refine Trip.ret ?_; ((repeat (first | refine blockExit_eq ?_ | refine blockExit_ne (by decide) ?_ | refine blockExit_normal ?_ | refine blockExit_ret ?_ | refine blockExit_goto ?_)); first | (change Trip _ _ _ _ _) | dsimp only | skip)) | (refine OpsL.nil ?_; ((repeat (first | refine blockExit_eq ?_ | refine blockExit_ne (by decide) ?_ | refine blockExit_normal ?_ | refine blockExit_ret ?_ | refine blockExit_goto ?_)); first | (change Trip _ _ _ _ _) | dsimp only | skip)) | fail)
      have hi2 : i = most := by omega
      subst hi2
      exact ⟨.inr rfl, _, res_tmp, ⟨ob, by simpa [tmPut, e7] using hown, hob⟩, hext⟩
    · repeat (first | (refine OpsL.p (by subst_vars; decide) (by (first | (exact aop_pickF (by (first | (simp only [ASt.ev, tmPut, ↓reduceIte, reduceIte, Nat.reduceEqDiff, decide_true, decide_false, not_true_eq_false, not_false_eq_true, Bool.not_true, Bool.not_false, *]; done) | fail)) (by (first | (simp only [ASt.ev, tmPut, ↓reduceIte, reduceIte, Nat.reduceEqDiff, plain1, *]; rfl) | fail))) | fail)) ?_) | (refine OpsL.nil ?_; ((repeat (first | refine blockExit_eq ?_ | refine blockExit_ne (by decide) ?_ | refine blockExit_normal ?_ | refine blockExit_ret ?_ | refine blockExit_goto ?_)); first | (change Trip _ _ _ _ _) | dsimp only | skip)) | (refine OpsL.skipped (by exact rfl) (by (first | (simp only [ASt.ev, tmPut, ↓reduceIte, reduceIte, Nat.reduceEqDiff, decide_true, decide_false, not_true_eq_false, not_false_eq_true, Bool.not_true, Bool.not_false, *]; done) | fail)) (by subst_vars; decide) ?_) | fail)
      refine Trip.iteB (b := false) (by (first | (simp only [ASt.ev, tmPut, ↓reduceIte, reduceIte, Nat.reduceEqDiff, decide_true, decide_false, not_true_eq_false, not_false_eq_true, Bool.not_true, Bool.not_false, *]; done) | fail)) (fun h => absurd h (by decide)) (fun _ => ?_)
      repeat (first | (refine OpsL.p (by subst_vars; decide) (by (first | (exact aop_move (by (first | (simp only [ASt.ev, tmPut, ↓reduceIte, reduceIte, Nat.reduceEqDiff, plain1, *]; rfl) | fail))) | (exact aop_assign (by (first | (simp only [ASt.ev, tmPut, ↓reduceIte, reduceIte, Nat.reduceEqDiff, plain1, *]; rfl) | fail))) | fail)) ?_) | (refine Trip.seq ?_) | (refine Trip.ops ?_) | (refine Trip.exit ?_; ((repeat (first | refine blockExit_eq ?_ | refine blockExit_ne (by decide) ?_ | refine blockExit_normal ?_ | refine blockExit_ret ?_ | refine blockExit_goto ?_)); first | (change Trip _ _ _ _ _) | dsimp only | skip)) | (refine Trip.ret ?_; ((repeat (first | refine blockExit_eq ?_ | refine blockExit_ne (by decide) ?_ | refine blockExit_normal ?_ | refine blockExit_ret ?_ | refine blockExit_goto ?_)); first | (change Trip _ _ _ _ _) | dsimp only | skip)) | (refine OpsL.nil ?_; ((repeat (first | refine blockExit_eq ?_ | refine blockExit_ne (by decide) ?_ | refine blockExit_normal ?_ | refine blockExit_ret ?_ | refine blockExit_goto ?_)); first | (change Trip _ _ _ _ _) | dsimp only | skip)) | fail)
      have hi2 : wordF ss.length ns most = wordF ss.length ns i := by
        unfold wordF
        rw [List.take_of_length_le (by omega), List.take_of_length_le (by omega)]
      refine ⟨.inr rfl, _, res_tmp, ⟨ob, ?_, hob⟩, hext⟩
      rw [hi2]
      simpa [tmPut, e7] using hown

def baseF : List (ByteArray × Int) := [(⟨#[97]⟩, 1), (⟨#[97]⟩, 2), (⟨#[98]⟩, 3), (⟨#[99]⟩, 1), (⟨#[99]⟩, 2), (⟨#[100]⟩, 3), (⟨#[120]⟩, 2)]
def symsF (n : Int) (ns : List Int) : List (ByteArray × Int) :=
  if n % 7 = 1 then [(⟨#[98]⟩, 3), (⟨#[97]⟩, 2), (⟨#[97]⟩, 1)]
  else match ns with
    | x :: _ => if n % 11 = 2 then (baseF.drop (x % 7).toNat).take 1 else baseF.take (3 + n % 5).toNat
    | [] => baseF.take (3 + n % 5).toNat

theorem baseF_kind : ∀ s ∈ baseF, s.2 = 1 ∨ s.2 = 2 ∨ s.2 = 3 := by decide
theorem symsF_good (n : Int) (ns : List Int) : 0 < (symsF n ns).length ∧ (symsF n ns).length ≤ 7 ∧ ∀ s ∈ symsF n ns, s.2 = 1 ∨ s.2 = 2 ∨ s.2 = 3 := by
  have m5 := Int.emod_nonneg n (by omega : (5 : Int) ≠ 0)
  have m5' := Int.emod_lt_of_pos n (by omega : (0 : Int) < 5)
  have hb : baseF.length = 7 := rfl
  have htake : 0 < (baseF.take (3 + n % 5).toNat).length ∧ (baseF.take (3 + n % 5).toNat).length ≤ 7 ∧ ∀ s ∈ baseF.take (3 + n % 5).toNat, s.2 = 1 ∨ s.2 = 2 ∨ s.2 = 3 :=
    ⟨by rw [List.length_take]; omega, by rw [List.length_take]; omega, fun s hs => baseF_kind s (List.mem_of_mem_take hs)⟩
  unfold symsF
  split
  · exact ⟨by simp, by simp, by simp⟩
  · split
    · rename_i x l
      have x7 := Int.emod_nonneg x (by omega : (7 : Int) ≠ 0)
      have x7' := Int.emod_lt_of_pos x (by omega : (0 : Int) < 7)
      split
      · refine ⟨?_, ?_, fun s hs => baseF_kind s (List.mem_of_mem_drop (List.mem_of_mem_take hs))⟩ <;> (rw [List.length_take, List.length_drop]; omega)
      · exact htake
    · exact htake

theorem wordF_mem {k : Nat} {ns : List Int} {most : Nat} (hk : 0 < k) : ∀ x ∈ wordF k ns most, 0 ≤ x ∧ x < k := by
  intro x hx
  unfold wordF at hx
  rw [List.mem_map] at hx
  obtain ⟨y, _, rfl⟩ := hx
  exact ⟨Int.emod_nonneg _ (by omega), Int.emod_lt_of_pos _ (by omega)⟩
theorem wordF_length {k : Nat} {ns : List Int} {most : Nat} : (wordF k ns most).length ≤ most := by
  unfold wordF
  rw [List.length_map, List.length_take]
  omega

theorem entersKnown : Enters Try.prog 8 := ⟨Try.f8, Try.func8, by kernel_rfl, by kernel_rfl⟩
theorem entersSyms : Enters Try.prog 9 := ⟨Try.f9, Try.func9, by kernel_rfl, by kernel_rfl⟩
theorem entersWord : Enters Try.prog 10 := ⟨Try.f10, Try.func10, by kernel_rfl, by kernel_rfl⟩

def symCells : List Value := [.string ⟨#[97]⟩, .int .i64 1, .string ⟨#[97]⟩, .int .i64 2, .string ⟨#[98]⟩, .int .i64 3, .string ⟨#[99]⟩, .int .i64 1, .string ⟨#[99]⟩, .int .i64 2, .string ⟨#[100]⟩, .int .i64 3, .string ⟨#[120]⟩, .int .i64 2]

set_option maxRecDepth 20000 in
set_option maxHeartbeats 4000000 in
theorem symsC (W0 : World) {nx : Nat} {H : Heap} {nv : Value} {m : Int} {ns : List Int} (hn : IntsAt H nv ns) :
    ACalls Try.prog W0 9 [.int .i64 m, nv] nx H fun v nx' H' => SymsAt H' v (symsF m ns) ∧ Ext nx H nx' H' := by
  obtain ⟨na, nc, rfl⟩ := hn.slice
  refine ACalls.by_trip (fn := Try.f9) (c := _) Try.func9 rfl (fun tm n hn0 htm => ?_)
  have e0 : tm 0 = .int .i64 m := htm 0
  have e1 : tm 1 = .slice na ns.length nc := htm 1
  clear htm
  replace hn0 : n = 50 := hn0
  refine Trip.ok fun hok => ?_
  replace hok : ∀ id o, H id = some o → id < nx := hok
  repeat (first | (refine OpsL.p (by subst_vars; decide) (by (first | (exact aop_assign (by (first | (simp only [ASt.ev, tmPut, ↓reduceIte, reduceIte, Nat.reduceEqDiff, plain1, *]; rfl) | fail))) | fail)) ?_) | (refine Trip.seq ?_) | (refine Trip.ops ?_) | (refine OpsL.nil ?_; ((repeat (first | refine blockExit_eq ?_ | refine blockExit_ne (by decide) ?_ | refine blockExit_normal ?_ | refine blockExit_ret ?_ | refine blockExit_goto ?_)); first | (change Trip _ _ _ _ _) | dsimp only | skip)) | fail)
  refine OpsL.p (by subst_vars; decide) (aop_build (v := .agg #[.string ⟨#[97]⟩, .int .i64 1]) (by exact rfl) (by exact rfl)) ?_
  refine OpsL.p (by subst_vars; decide) (aop_build (v := .agg #[.string ⟨#[97]⟩, .int .i64 2]) (by exact rfl) (by exact rfl)) ?_
  refine OpsL.p (by subst_vars; decide) (aop_build (v := .agg #[.string ⟨#[98]⟩, .int .i64 3]) (by exact rfl) (by exact rfl)) ?_
  refine OpsL.p (by subst_vars; decide) (aop_build (v := .agg #[.string ⟨#[99]⟩, .int .i64 1]) (by exact rfl) (by exact rfl)) ?_
  refine OpsL.p (by subst_vars; decide) (aop_build (v := .agg #[.string ⟨#[99]⟩, .int .i64 2]) (by exact rfl) (by exact rfl)) ?_
  refine OpsL.p (by subst_vars; decide) (aop_build (v := .agg #[.string ⟨#[100]⟩, .int .i64 3]) (by exact rfl) (by exact rfl)) ?_
  refine OpsL.p (by subst_vars; decide) (aop_build (v := .agg #[.string ⟨#[120]⟩, .int .i64 2]) (by exact rfl) (by exact rfl)) ?_
  refine OpsL.new (o := .cells symCells 2 none false (some 45)) (by subst_vars; decide) (aop_buildSlice (l := [(0, .agg #[.string ⟨#[97]⟩, .int .i64 1]), (1, .agg #[.string ⟨#[97]⟩, .int .i64 2]), (2, .agg #[.string ⟨#[98]⟩, .int .i64 3]), (3, .agg #[.string ⟨#[99]⟩, .int .i64 1]), (4, .agg #[.string ⟨#[99]⟩, .int .i64 2]), (5, .agg #[.string ⟨#[100]⟩, .int .i64 3]), (6, .agg #[.string ⟨#[120]⟩, .int .i64 2])]) (by simp only [evParts, ASt.ev, tmPut, ↓reduceIte, reduceIte, Option.some.injEq, Nat.reduceEqDiff]) (by exact rfl)) ?_
  repeat (first | (refine OpsL.p (by subst_vars; decide) (by (first | (exact aop_move (by (first | (simp only [ASt.ev, tmPut, ↓reduceIte, reduceIte, Nat.reduceEqDiff, plain1, *]; rfl) | fail))) | (exact aop_assign (by (first | (simp only [ASt.ev, tmPut, ↓reduceIte, reduceIte, Nat.reduceEqDiff, plain1, *]; rfl) | fail))) | fail)) ?_) | (refine Trip.seq ?_) | (refine Trip.ops ?_) | (refine OpsL.nil ?_; ((repeat (first | refine blockExit_eq ?_ | refine blockExit_ne (by decide) ?_ | refine blockExit_normal ?_ | refine blockExit_ret ?_ | refine blockExit_goto ?_)); first | (change Trip _ _ _ _ _) | dsimp only | skip)) | fail)
  refine OpsL.call2 (by subst_vars; decide) (by (first | (simp only [ASt.ev, tmPut, ↓reduceIte, reduceIte, Nat.reduceEqDiff, plain1, *]; rfl) | fail)) (by (first | (simp only [ASt.ev, tmPut, ↓reduceIte, reduceIte, Nat.reduceEqDiff, plain1, *]; rfl) | fail)) entersWithin (withinC W0 _ _ (by omega) (by omega)) ?_
  rintro v nx1 H1 ⟨rfl, rfl, rfl⟩
  have m5 := Int.emod_nonneg m (by omega : (5 : Int) ≠ 0)
  have m5' := Int.emod_lt_of_pos m (by omega : (0 : Int) < 5)
  repeat (first | (refine OpsL.p (by subst_vars; decide) (by (first | (exact aop_move (by (first | (simp only [ASt.ev, tmPut, ↓reduceIte, reduceIte, Nat.reduceEqDiff, plain1, *]; rfl) | fail))) | (exact aop_assign (by (first | (simp only [ASt.ev, tmPut, ↓reduceIte, reduceIte, Nat.reduceEqDiff, plain1, *]; rfl) | fail))) | (exact aop_add (by (first | (simp only [ASt.ev, tmPut, ↓reduceIte, reduceIte, Nat.reduceEqDiff, plain1, *]; rfl) | fail)) (by (first | (simp only [ASt.ev, tmPut, ↓reduceIte, reduceIte, Nat.reduceEqDiff, plain1, *]; rfl) | fail)) (by omega)) | fail)) ?_) | (refine Trip.seq ?_) | (refine Trip.ops ?_) | (refine OpsL.nil ?_; ((repeat (first | refine blockExit_eq ?_ | refine blockExit_ne (by decide) ?_ | refine blockExit_normal ?_ | refine blockExit_ret ?_ | refine blockExit_goto ?_)); first | (change Trip _ _ _ _ _) | dsimp only | skip)) | fail)
  refine OpsL.call2 (by subst_vars; decide) (by (first | (simp only [ASt.ev, tmPut, ↓reduceIte, reduceIte, Nat.reduceEqDiff, plain1, *]; rfl) | fail)) (by (first | (simp only [ASt.ev, tmPut, ↓reduceIte, reduceIte, Nat.reduceEqDiff, plain1, *]; rfl) | fail)) entersWithin (withinC W0 _ _ (by omega) (by omega)) ?_
  rintro v nx1 H1 ⟨rfl, rfl, rfl⟩
  have hall : ∀ (i : Nat) (h : i < baseF.length) (k : Nat), k = i * 2 → getc (H.put nx (.cells symCells 2 none false (some 45))) ⟨nx, k, none⟩ 2 = some [.string baseF[i].1, .int .i64 baseF[i].2] := by
    intro i h k hk
    subst hk
    have : i = 0 ∨ i = 1 ∨ i = 2 ∨ i = 3 ∨ i = 4 ∨ i = 5 ∨ i = 6 := by simp [baseF] at h; omega
    rcases this with rfl | rfl | rfl | rfl | rfl | rfl | rfl <;> (rw [getc_own (by decide)]; rfl)
  repeat (first | (refine OpsL.p (by subst_vars; decide) (by (first | (exact aop_eql (by (first | (simp only [ASt.ev, tmPut, ↓reduceIte, reduceIte, Nat.reduceEqDiff, plain1, *]; rfl) | fail)) (by (first | (simp only [ASt.ev, tmPut, ↓reduceIte, reduceIte, Nat.reduceEqDiff, plain1, *]; rfl) | fail))) | fail)) ?_) | (refine Trip.seq ?_) | (refine Trip.ite (by (first | (simp only [ASt.ev, tmPut, ↓reduceIte, reduceIte, Nat.reduceEqDiff, plain1, *]; rfl) | fail)) (fun _ => ?_) (fun _ => ?_)) | (refine OpsL.nil ?_; ((repeat (first | refine blockExit_eq ?_ | refine blockExit_ne (by decide) ?_ | refine blockExit_normal ?_ | refine blockExit_ret ?_ | refine blockExit_goto ?_)); first | (change Trip _ _ _ _ _) | dsimp only | skip)) | fail)
  · rename_i h7
    refine OpsL.drawn fit.mixed (by kernel_rfl) (by kernel_rfl) ?_
    repeat (first | (refine OpsL.p (by subst_vars; decide) (by (first | (exact aop_move (by (first | (simp only [ASt.ev, tmPut, ↓reduceIte, reduceIte, Nat.reduceEqDiff, plain1, *]; rfl) | fail))) | (exact aop_indexAddr (by (first | (simp only [ASt.ev, tmPut, ↓reduceIte, reduceIte, Nat.reduceEqDiff, plain1, *]; rfl) | fail)) (by (first | (simp only [ASt.ev, tmPut, ↓reduceIte, reduceIte, Nat.reduceEqDiff, plain1, *]; rfl) | fail)) (by exact rfl) (by exact rfl) (by omega) (by omega)) | fail)) ?_) | fail)
    refine OpsL.p (by subst_vars; decide) (aop_loadAgg (k := 2) (by (first | (simp only [ASt.ev, tmPut, ↓reduceIte, reduceIte, Nat.reduceEqDiff, plain1, *]; rfl) | fail)) (by exact rfl) rfl (by exact rfl) (hall 2 (by decide) _ (by exact rfl))) ?_
    repeat (first | (refine OpsL.p (by subst_vars; decide) (by (first | (exact aop_move (by (first | (simp only [ASt.ev, tmPut, ↓reduceIte, reduceIte, Nat.reduceEqDiff, plain1, *]; rfl) | fail))) | (exact aop_indexAddr (by (first | (simp only [ASt.ev, tmPut, ↓reduceIte, reduceIte, Nat.reduceEqDiff, plain1, *]; rfl) | fail)) (by (first | (simp only [ASt.ev, tmPut, ↓reduceIte, reduceIte, Nat.reduceEqDiff, plain1, *]; rfl) | fail)) (by exact rfl) (by exact rfl) (by omega) (by omega)) | fail)) ?_) | fail)
    refine OpsL.p (by subst_vars; decide) (aop_loadAgg (k := 2) (by (first | (simp only [ASt.ev, tmPut, ↓reduceIte, reduceIte, Nat.reduceEqDiff, plain1, *]; rfl) | fail)) (by exact rfl) rfl (by exact rfl) (hall 1 (by decide) _ (by exact rfl))) ?_
    repeat (first | (refine OpsL.p (by subst_vars; decide) (by (first | (exact aop_move (by (first | (simp only [ASt.ev, tmPut, ↓reduceIte, reduceIte, Nat.reduceEqDiff, plain1, *]; rfl) | fail))) | (exact aop_indexAddr (by (first | (simp only [ASt.ev, tmPut, ↓reduceIte, reduceIte, Nat.reduceEqDiff, plain1, *]; rfl) | fail)) (by (first | (simp only [ASt.ev, tmPut, ↓reduceIte, reduceIte, Nat.reduceEqDiff, plain1, *]; rfl) | fail)) (by exact rfl) (by exact rfl) (by omega) (by omega)) | fail)) ?_) | fail)
    refine OpsL.p (by subst_vars; decide) (aop_loadAgg (k := 2) (by (first | (simp only [ASt.ev, tmPut, ↓reduceIte, reduceIte, Nat.reduceEqDiff, plain1, *]; rfl) | fail)) (by exact rfl) rfl (by exact rfl) (hall 0 (by decide) _ (by exact rfl))) ?_
    refine OpsL.new (o := .cells [.string ⟨#[98]⟩, .int .i64 3, .string ⟨#[97]⟩, .int .i64 2, .string ⟨#[97]⟩, .int .i64 1] 2 none false (some 45)) (by subst_vars; decide)
      (aop_buildSlice (l := [(0, .agg #[.string ⟨#[98]⟩, .int .i64 3]), (1, .agg #[.string ⟨#[97]⟩, .int .i64 2]), (2, .agg #[.string ⟨#[97]⟩, .int .i64 1])]) (by simp only [evParts, ASt.ev, tmPut, ↓reduceIte, reduceIte, Option.some.injEq, Nat.reduceEqDiff]; rfl) (by exact rfl)) ?_
    repeat (first | (refine OpsL.p (by subst_vars; decide) (by (first | (exact aop_assign (by (first | (simp only [ASt.ev, tmPut, ↓reduceIte, reduceIte, Nat.reduceEqDiff, plain1, *]; rfl) | fail))) | fail)) ?_) | (refine Trip.ret ?_; ((repeat (first | refine blockExit_eq ?_ | refine blockExit_ne (by decide) ?_ | refine blockExit_normal ?_ | refine blockExit_ret ?_ | refine blockExit_goto ?_)); first | (change Trip _ _ _ _ _) | dsimp only | skip)) | (refine OpsL.nil ?_; ((repeat (first | refine blockExit_eq ?_ | refine blockExit_ne (by decide) ?_ | refine blockExit_normal ?_ | refine blockExit_ret ?_ | refine blockExit_goto ?_)); first | (change Trip _ _ _ _ _) | dsimp only | skip)) | fail)
    refine ⟨.inr rfl, _, res_tmp, ?_, ⟨by show nx ≤ nx + 1 + 1; omega, fun i hi => by rw [Heap.put_ne (by omega), Heap.put_ne (by omega)]⟩⟩
    have hsy : symsF m ns = [(⟨#[98]⟩, 3), (⟨#[97]⟩, 2), (⟨#[97]⟩, 1)] := by unfold symsF; rw [if_pos h7]
    rw [hsy]
    refine ⟨⟨nx + 1, 0, none⟩, 3, by simp [tmPut], fun i hi => ?_⟩
    have : i = 0 ∨ i = 1 ∨ i = 2 := by simp at hi; omega
    rcases this with rfl | rfl | rfl <;> (rw [getc_own (by show 0 + _ * 2 + 2 ≤ 6; decide)]; rfl)
  · rename_i h7
    repeat (first | (refine OpsL.p (by subst_vars; decide) (by (first | (exact aop_move (by (first | (simp only [ASt.ev, tmPut, ↓reduceIte, reduceIte, Nat.reduceEqDiff, plain1, *]; rfl) | fail))) | fail)) ?_) | (refine Trip.seq ?_) | (refine Trip.ops ?_) | (refine Trip.skip ?_; ((repeat (first | refine blockExit_eq ?_ | refine blockExit_ne (by decide) ?_ | refine blockExit_normal ?_ | refine blockExit_ret ?_ | refine blockExit_goto ?_)); first | (change Trip _ _ _ _ _) | dsimp only | skip)) | fail)
    refine OpsL.call2 (by subst_vars; decide) (by (first | (simp only [ASt.ev, tmPut, ↓reduceIte, reduceIte, Nat.reduceEqDiff, plain1, *]; rfl) | fail)) (by (first | (simp only [ASt.ev, tmPut, ↓reduceIte, reduceIte, Nat.reduceEqDiff, plain1, *]; rfl) | fail)) entersWithin (withinC W0 _ _ (by omega) (by omega)) ?_
    rintro v nx1 H1 ⟨rfl, rfl, rfl⟩
    repeat' (first | (refine OpsL.p (by subst_vars; decide) (by (first | (exact aop_move (by (first | (simp only [ASt.ev, tmPut, ↓reduceIte, reduceIte, Nat.reduceEqDiff, plain1, *]; rfl) | fail))) | (exact aop_gtr (by (first | (simp only [ASt.ev, tmPut, ↓reduceIte, reduceIte, Nat.reduceEqDiff, plain1, *]; rfl) | fail)) (by (first | (simp only [ASt.ev, tmPut, ↓reduceIte, reduceIte, Nat.reduceEqDiff, plain1, *]; rfl) | fail))) | (exact aop_eql (by (first | (simp only [ASt.ev, tmPut, ↓reduceIte, reduceIte, Nat.reduceEqDiff, plain1, *]; rfl) | fail)) (by (first | (simp only [ASt.ev, tmPut, ↓reduceIte, reduceIte, Nat.reduceEqDiff, plain1, *]; rfl) | fail))) | (exact aop_len (by (first | (simp only [ASt.ev, tmPut, ↓reduceIte, reduceIte, Nat.reduceEqDiff, plain1, *]; rfl) | fail)) (by exact rfl)) | (exact aop_pickT (by (first | (simp only [ASt.ev, tmPut, ↓reduceIte, reduceIte, Nat.reduceEqDiff, decide_true, decide_false, not_true_eq_false, not_false_eq_true, Bool.not_true, Bool.not_false, *]; done) | fail)) (by (first | (simp only [ASt.ev, tmPut, ↓reduceIte, reduceIte, Nat.reduceEqDiff, plain1, *]; rfl) | fail))) | (exact aop_pickF (by (first | (simp only [ASt.ev, tmPut, ↓reduceIte, reduceIte, Nat.reduceEqDiff, decide_true, decide_false, not_true_eq_false, not_false_eq_true, Bool.not_true, Bool.not_false, *]; done) | fail)) (by (first | (simp only [ASt.ev, tmPut, ↓reduceIte, reduceIte, Nat.reduceEqDiff, plain1, *]; rfl) | fail))) | fail)) ?_) | (refine Trip.seq ?_) | (refine Trip.ops ?_) | (refine Trip.ite (by (first | (simp only [ASt.ev, tmPut, ↓reduceIte, reduceIte, Nat.reduceEqDiff, plain1, *]; rfl) | fail)) (fun _ => ?_) (fun _ => ?_)) | (refine Trip.skip ?_; ((repeat (first | refine blockExit_eq ?_ | refine blockExit_ne (by decide) ?_ | refine blockExit_normal ?_ | refine blockExit_ret ?_ | refine blockExit_goto ?_)); first | (change Trip _ _ _ _ _) | dsimp only | skip)) | (refine OpsL.nil ?_; ((repeat (first | refine blockExit_eq ?_ | refine blockExit_ne (by decide) ?_ | refine blockExit_normal ?_ | refine blockExit_ret ?_ | refine blockExit_goto ?_)); first | (change Trip _ _ _ _ _) | dsimp only | skip)) | (refine OpsL.unguard (by exact rfl) (by (first | (simp only [ASt.ev, tmPut, ↓reduceIte, reduceIte, Nat.reduceEqDiff, decide_true, decide_false, not_true_eq_false, not_false_eq_true, Bool.not_true, Bool.not_false, *]; done) | fail)) ?_) | (refine OpsL.skipped (by exact rfl) (by (first | (simp only [ASt.ev, tmPut, ↓reduceIte, reduceIte, Nat.reduceEqDiff, decide_true, decide_false, not_true_eq_false, not_false_eq_true, Bool.not_true, Bool.not_false, *]; done) | fail)) (by subst_vars; decide) ?_) | (refine OpsL.guardT (by exact rfl) (by (first | (simp only [ASt.ev, tmPut, ↓reduceIte, reduceIte, Nat.reduceEqDiff, plain1, *]; rfl) | fail)) (by subst_vars; decide) (fun _ => ?_) (fun _ => ?_)) | fail)
    · rename_i h11 hlen
      obtain ⟨x, ns, rfl⟩ : ∃ x l, ns = x :: l := by cases ns with | nil => simp at hlen | cons x l => exact ⟨x, l, rfl⟩
      obtain ⟨p, rfl, hc⟩ := hn.get (i := 0) (by simp)
      replace hc : cellAt (H.put nx (.cells symCells 2 none false (some 45))) ⟨p.block, p.off + (0 : Int).toNat * 1, p.spot⟩ (.int .i64 x) := by
        obtain ⟨o, ho⟩ := getc_some hc
        have := hok _ _ ho
        unfold cellAt at *
        rw [getc_put (by simp only at this ⊢; omega)]
        exact hc
      have x7 := Int.emod_nonneg x (by omega : (7 : Int) ≠ 0)
      have x7' := Int.emod_lt_of_pos x (by omega : (0 : Int) < 7)
      repeat (first | (refine OpsL.p (by subst_vars; decide) (by (first | (exact aop_indexAddr (by (first | (simp only [ASt.ev, tmPut, ↓reduceIte, reduceIte, Nat.reduceEqDiff, plain1, *]; rfl) | fail)) (by (first | (simp only [ASt.ev, tmPut, ↓reduceIte, reduceIte, Nat.reduceEqDiff, plain1, *]; rfl) | fail)) (by exact rfl) (by exact rfl) (by omega) (by omega)) | (exact aop_load (by (first | (simp only [ASt.ev, tmPut, ↓reduceIte, reduceIte, Nat.reduceEqDiff, plain1, *]; rfl) | fail)) (by exact rfl) rfl (by assumption)) | fail)) ?_) | fail)
      refine OpsL.call2 (by subst_vars; decide) (by (first | (simp only [ASt.ev, tmPut, ↓reduceIte, reduceIte, Nat.reduceEqDiff, plain1, *]; rfl) | fail)) (by (first | (simp only [ASt.ev, tmPut, ↓reduceIte, reduceIte, Nat.reduceEqDiff, plain1, *]; rfl) | fail)) entersWithin (withinC W0 _ _ (by omega) (by omega)) ?_
      rintro v nx1 H1 ⟨rfl, rfl, rfl⟩
      repeat (first | (refine OpsL.p (by subst_vars; decide) (by (first | (exact aop_indexAddr (by (first | (simp only [ASt.ev, tmPut, ↓reduceIte, reduceIte, Nat.reduceEqDiff, plain1, *]; rfl) | fail)) (by (first | (simp only [ASt.ev, tmPut, ↓reduceIte, reduceIte, Nat.reduceEqDiff, plain1, *]; rfl) | fail)) (by exact rfl) (by exact rfl) (by omega) (by omega)) | fail)) ?_) | fail)
      have h7l : (x % 7).toNat < baseF.length := by show _ < 7; omega
      refine OpsL.p (by subst_vars; decide) (aop_loadAgg (k := 2) (by (first | (simp only [ASt.ev, tmPut, ↓reduceIte, reduceIte, Nat.reduceEqDiff, plain1, *]; rfl) | fail)) (by exact rfl) rfl (by exact rfl) (hall (x % 7).toNat h7l _ (by show 0 + _ * 2 = _; omega))) ?_
      refine OpsL.new (o := .cells [.string baseF[(x % 7).toNat].1, .int .i64 baseF[(x % 7).toNat].2] 2 none false (some 45)) (by subst_vars; decide)
        (aop_buildSlice (l := [(0, .agg [.string baseF[(x % 7).toNat].1, .int .i64 baseF[(x % 7).toNat].2].toArray)]) (by simp only [evParts, ASt.ev, tmPut, ↓reduceIte, reduceIte, Option.some.injEq, Nat.reduceEqDiff]) (by exact rfl)) ?_
      repeat (first | (refine OpsL.p (by subst_vars; decide) (by (first | (exact aop_assign (by (first | (simp only [ASt.ev, tmPut, ↓reduceIte, reduceIte, Nat.reduceEqDiff, plain1, *]; rfl) | fail))) | fail)) ?_) | (refine Trip.ret ?_; ((repeat (first | refine blockExit_eq ?_ | refine blockExit_ne (by decide) ?_ | refine blockExit_normal ?_ | refine blockExit_ret ?_ | refine blockExit_goto ?_)); first | (change Trip _ _ _ _ _) | dsimp only | skip)) | (refine OpsL.nil ?_; ((repeat (first | refine blockExit_eq ?_ | refine blockExit_ne (by decide) ?_ | refine blockExit_normal ?_ | refine blockExit_ret ?_ | refine blockExit_goto ?_)); first | (change Trip _ _ _ _ _) | dsimp only | skip)) | fail)
      refine ⟨.inr rfl, _, res_tmp, ?_, ⟨by show nx ≤ nx + 1 + 1; omega, fun i hi => by rw [Heap.put_ne (by omega), Heap.put_ne (by omega)]⟩⟩
      have hsy : symsF m (x :: ns) = [baseF[(x % 7).toNat]] := by
        unfold symsF
        rw [if_neg h7]
        simp only [h11, if_true]
        rw [List.take_one, List.head?_drop, List.getElem?_eq_getElem h7l]
        rfl
      rw [hsy]
      refine ⟨⟨nx + 1, 0, none⟩, 1, by simp [tmPut], fun i hi => ?_⟩
      have : i = 0 := by simp at hi; omega
      subst this
      rw [getc_own (by show 0 + 0 * 2 + 2 ≤ 2; omega)]
      rfl
    all_goals
      try refine Trip.iteB (b := false) (by (first | (simp only [ASt.ev, tmPut, ↓reduceIte, reduceIte, Nat.reduceEqDiff, decide_true, decide_false, not_true_eq_false, not_false_eq_true, Bool.not_true, Bool.not_false, *]; done) | fail)) (fun h => absurd h (by decide)) (fun _ => ?_)
      repeat (first | (refine OpsL.p (by subst_vars; decide) (by (first | (exact aop_move (by (first | (simp only [ASt.ev, tmPut, ↓reduceIte, reduceIte, Nat.reduceEqDiff, plain1, *]; rfl) | fail))) | fail)) ?_) | (refine Trip.seq ?_) | (refine Trip.ops ?_) | (refine Trip.skip ?_; ((repeat (first | refine blockExit_eq ?_ | refine blockExit_ne (by decide) ?_ | refine blockExit_normal ?_ | refine blockExit_ret ?_ | refine blockExit_goto ?_)); first | (change Trip _ _ _ _ _) | dsimp only | skip)) | fail)
      refine OpsL.p (by subst_vars; decide) (aop_slice (a := none) (b := some (.int .i64 (3 + m % 5))) (c := none) (by (first | (simp only [ASt.ev, tmPut, ↓reduceIte, reduceIte, Nat.reduceEqDiff, plain1, *]; rfl) | fail)) rfl (by simp only [evOpt, ASt.ev, tmPut, ↓reduceIte, reduceIte, Option.some.injEq, Nat.reduceEqDiff, Option.map_some]) rfl
        (aSlice_plain (l := 0) (h := (3 + m % 5).toNat) (sz := 2) (by exact rfl) (by exact rfl) Heap.put_eq rfl rfl (.inl ⟨rfl, rfl⟩) (.inr ⟨.i64, by congr 2; omega⟩) (by omega) (by omega))) ?_
      repeat (first | (refine OpsL.p (by subst_vars; decide) (by (first | (exact aop_assign (by (first | (simp only [ASt.ev, tmPut, ↓reduceIte, reduceIte, Nat.reduceEqDiff, plain1, *]; rfl) | fail))) | fail)) ?_) | (refine Trip.ret ?_; ((repeat (first | refine blockExit_eq ?_ | refine blockExit_ne (by decide) ?_ | refine blockExit_normal ?_ | refine blockExit_ret ?_ | refine blockExit_goto ?_)); first | (change Trip _ _ _ _ _) | dsimp only | skip)) | (refine OpsL.nil ?_; ((repeat (first | refine blockExit_eq ?_ | refine blockExit_ne (by decide) ?_ | refine blockExit_normal ?_ | refine blockExit_ret ?_ | refine blockExit_goto ?_)); first | (change Trip _ _ _ _ _) | dsimp only | skip)) | fail)
      refine ⟨.inr rfl, _, res_tmp, ?_, ⟨by show nx ≤ nx + 1; omega, fun i hi => by rw [Heap.put_ne (by omega)]⟩⟩
      have hsy : symsF m ns = baseF.take (3 + m % 5).toNat := by
        unfold symsF
        rw [if_neg h7]
        cases ns with
        | nil => rfl
        | cons x l => simp_all
      have hlen : (baseF.take (3 + m % 5).toNat).length = (3 + m % 5).toNat := by
        rw [List.length_take]; show min _ 7 = _; omega
      rw [hsy]
      refine ⟨⟨nx, 0, none⟩, 7, by rw [hlen]; simp [tmPut], fun i hi => ?_⟩
      rw [hlen] at hi
      rw [List.getElem_take]
      exact hall i (by show i < 7; omega) _ (by show 0 + i * 2 = _; omega)
end Go.Proofs.Ytngekapiemkgnaa
/-
  Chapter 1: classes of bytes, names; symbols compared, found.
-/
namespace Go.Proofs.Ytngekapiemkgnaa
set_option linter.unusedSimpArgs false
set_option linter.unusedVariables false
open Go.Am Go.RowKit
attribute [local irreducible] aop OpsL Trip blockExit OpsD

def classI (b : Int) : Int := if b = 32 then 1 else if 97 ≤ b ∧ b ≤ 122 then 2 else if b = 60 then 3 else if b = 47 then 4 else if b = 62 then 5 else 0
def classF (l : List Int) (i : Nat) : Int :=
  match l[i]? with
  | none => 6
  | some b => classI b

set_option maxRecDepth 20000 in
set_option maxHeartbeats 4000000 in
theorem classC (W0 : World) {nx : Nat} {H : Heap} {s : ByteArray} {i : Nat} : ACalls Try.prog W0 37 [.string s, .int .i64 i] nx H fun v nx' H' => v = .int .i64 (classF (bs s) i) ∧ nx' = nx ∧ H' = H := by
  refine ACalls.by_trip (fn := Try.f37) (c := _) Try.func37 rfl (fun tm n hn0 htm => ?_)
  have e0 : tm 0 = .string s := htm 0
  have e1 : tm 1 = .int .i64 i := htm 1
  clear htm
  replace hn0 : n = 32 := hn0
  repeat' (first | (refine OpsL.p (by subst_vars; decide) (by (first | (exact aop_move (by (first | (simp only [ASt.ev, tmPut, ↓reduceIte, reduceIte, Nat.reduceEqDiff, plain1, *]; rfl) | fail))) | (exact aop_assign (by (first | (simp only [ASt.ev, tmPut, ↓reduceIte, reduceIte, Nat.reduceEqDiff, plain1, *]; rfl) | fail))) | (exact aop_geq (by (first | (simp only [ASt.ev, tmPut, ↓reduceIte, reduceIte, Nat.reduceEqDiff, plain1, *]; rfl) | fail)) (by (first | (simp only [ASt.ev, tmPut, ↓reduceIte, reduceIte, Nat.reduceEqDiff, plain1, *]; rfl) | fail))) | (exact aop_lenB (by (first | (simp only [ASt.ev, tmPut, ↓reduceIte, reduceIte, Nat.reduceEqDiff, plain1, *]; rfl) | fail)) (by exact rfl)) | fail)) ?_) | (refine Trip.seq ?_) | (refine Trip.ops ?_) | (refine Trip.ite (by (first | (simp only [ASt.ev, tmPut, ↓reduceIte, reduceIte, Nat.reduceEqDiff, plain1, *]; rfl) | fail)) (fun _ => ?_) (fun _ => ?_)) | (refine Trip.skip ?_; ((repeat (first | refine blockExit_eq ?_ | refine blockExit_ne (by decide) ?_ | refine blockExit_normal ?_ | refine blockExit_ret ?_ | refine blockExit_goto ?_)); first | (change Trip _ _ _ _ _) | dsimp only | skip)) | (refine Trip.ret ?_; ((repeat (first | refine blockExit_eq ?_ | refine blockExit_ne (by decide) ?_ | refine blockExit_normal ?_ | refine blockExit_ret ?_ | refine blockExit_goto ?_)); first | (change Trip _ _ _ _ _) | dsimp only | skip)) | (refine OpsL.nil ?_; ((repeat (first | refine blockExit_eq ?_ | refine blockExit_ne (by decide) ?_ | refine blockExit_normal ?_ | refine blockExit_ret ?_ | refine blockExit_goto ?_)); first | (change Trip _ _ _ _ _) | dsimp only | skip)) | fail)
  · rename_i h
    exact ⟨.inr rfl, _, res_tmp, by simp [tmPut, classF, List.getElem?_eq_none (show (bs s).length ≤ i by omega)], rfl, rfl⟩
  · rename_i h
    have hlt : i < (bs s).length := by omega
    have hc : (bs s)[(i : Int).toNat]? = some (bs s)[i] := by simp [hlt]
    have hcl : classF (bs s) i = classI (bs s)[i] := by unfold classF; rw [List.getElem?_eq_getElem hlt]
    generalize (bs s)[i] = b at *
    refine OpsL.p (by subst_vars; decide) (aop_indexS (by (first | (simp only [ASt.ev, tmPut, ↓reduceIte, reduceIte, Nat.reduceEqDiff, plain1, *]; done) | fail)) (by (first | (simp only [ASt.ev, tmPut, ↓reduceIte, reduceIte, Nat.reduceEqDiff, plain1, *]; rfl) | fail)) (by exact rfl) (by omega) hc) ?_
    repeat' (first | (refine OpsL.p (by subst_vars; decide) (by (first | (exact aop_move (by (first | (simp only [ASt.ev, tmPut, ↓reduceIte, reduceIte, Nat.reduceEqDiff, plain1, *]; rfl) | fail))) | (exact aop_assign (by (first | (simp only [ASt.ev, tmPut, ↓reduceIte, reduceIte, Nat.reduceEqDiff, plain1, *]; rfl) | fail))) | (exact aop_leq (by (first | (simp only [ASt.ev, tmPut, ↓reduceIte, reduceIte, Nat.reduceEqDiff, plain1, *]; rfl) | fail)) (by (first | (simp only [ASt.ev, tmPut, ↓reduceIte, reduceIte, Nat.reduceEqDiff, plain1, *]; rfl) | fail))) | (exact aop_eql (by (first | (simp only [ASt.ev, tmPut, ↓reduceIte, reduceIte, Nat.reduceEqDiff, plain1, *]; rfl) | fail)) (by (first | (simp only [ASt.ev, tmPut, ↓reduceIte, reduceIte, Nat.reduceEqDiff, plain1, *]; rfl) | fail))) | (exact aop_pickT (by (first | (simp only [ASt.ev, tmPut, ↓reduceIte, reduceIte, Nat.reduceEqDiff, decide_true, decide_false, not_true_eq_false, not_false_eq_true, Bool.not_true, Bool.not_false, *]; done) | fail)) (by (first | (simp only [ASt.ev, tmPut, ↓reduceIte, reduceIte, Nat.reduceEqDiff, plain1, *]; rfl) | fail))) | (exact aop_pickF (by (first | (simp only [ASt.ev, tmPut, ↓reduceIte, reduceIte, Nat.reduceEqDiff, decide_true, decide_false, not_true_eq_false, not_false_eq_true, Bool.not_true, Bool.not_false, *]; done) | fail)) (by (first | (simp only [ASt.ev, tmPut, ↓reduceIte, reduceIte, Nat.reduceEqDiff, plain1, *]; rfl) | fail))) | fail)) ?_) | (refine Trip.seq ?_) | (refine Trip.ops ?_) | (refine Trip.block ?_) | (refine Trip.ite (by (first | (simp only [ASt.ev, tmPut, ↓reduceIte, reduceIte, Nat.reduceEqDiff, plain1, *]; rfl) | fail)) (fun _ => ?_) (fun _ => ?_)) | (refine Trip.skip ?_; ((repeat (first | refine blockExit_eq ?_ | refine blockExit_ne (by decide) ?_ | refine blockExit_normal ?_ | refine blockExit_ret ?_ | refine blockExit_goto ?_)); first | (change Trip _ _ _ _ _) | dsimp only | skip)) | (refine Trip.ret ?_; ((repeat (first | refine blockExit_eq ?_ | refine blockExit_ne (by decide) ?_ | refine blockExit_normal ?_ | refine blockExit_ret ?_ | refine blockExit_goto ?_)); first | (change Trip _ _ _ _ _) | dsimp only | skip)) | (refine OpsL.nil ?_; ((repeat (first | refine blockExit_eq ?_ | refine blockExit_ne (by decide) ?_ | refine blockExit_normal ?_ | refine blockExit_ret ?_ | refine blockExit_goto ?_)); first | (change Trip _ _ _ _ _) | dsimp only | skip)) | (refine OpsL.unguard (by exact rfl) (by (first | (simp only [ASt.ev, tmPut, ↓reduceIte, reduceIte, Nat.reduceEqDiff, decide_true, decide_false, not_true_eq_false, not_false_eq_true, Bool.not_true, Bool.not_false, *]; done) | fail)) ?_) | (refine OpsL.skipped (by exact rfl) (by (first | (simp only [ASt.ev, tmPut, ↓reduceIte, reduceIte, Nat.reduceEqDiff, decide_true, decide_false, not_true_eq_false, not_false_eq_true, Bool.not_true, Bool.not_false, *]; done) | fail)) (by subst_vars; decide) ?_) | (refine OpsL.guardT (by exact rfl) (by (first | (simp only [ASt.ev, tmPut, ↓reduceIte, reduceIte, Nat.reduceEqDiff, plain1, *]; rfl) | fail)) (by subst_vars; decide) (fun _ => ?_) (fun _ => ?_)) | fail)
    all_goals first | (refine Trip.iteB (b := true) (by (first | (simp only [ASt.ev, tmPut, ↓reduceIte, reduceIte, Nat.reduceEqDiff, decide_true, decide_false, not_true_eq_false, not_false_eq_true, Bool.not_true, Bool.not_false, *]; done) | (simp only [ASt.ev, tmPut, ↓reduceIte, reduceIte, Nat.reduceEqDiff, decide_true, decide_false, not_true_eq_false, not_false_eq_true, Bool.not_true, Bool.not_false, *]; rfl))) (fun _ => ?_) (fun h => absurd h (by decide)); repeat' fail) | (refine Trip.iteB (b := false) (by (first | (simp only [ASt.ev, tmPut, ↓reduceIte, reduceIte, Nat.reduceEqDiff, decide_true, decide_false, not_true_eq_false, not_false_eq_true, Bool.not_true, Bool.not_false, *]; done) | fail)) (fun h => absurd h (by decide)) (fun _ => ?_); repeat' (first | (refine OpsL.p (by subst_vars; decide) (by (first | (exact aop_move (by (first | (simp only [ASt.ev, tmPut, ↓reduceIte, reduceIte, Nat.reduceEqDiff, plain1, *]; rfl) | fail))) | (exact aop_assign (by (first | (simp only [ASt.ev, tmPut, ↓reduceIte, reduceIte, Nat.reduceEqDiff, plain1, *]; rfl) | fail))) | (exact aop_eql (by (first | (simp only [ASt.ev, tmPut, ↓reduceIte, reduceIte, Nat.reduceEqDiff, plain1, *]; rfl) | fail)) (by (first | (simp only [ASt.ev, tmPut, ↓reduceIte, reduceIte, Nat.reduceEqDiff, plain1, *]; rfl) | fail))) | fail)) ?_) | (refine Trip.seq ?_) | (refine Trip.ops ?_) | (refine Trip.ite (by (first | (simp only [ASt.ev, tmPut, ↓reduceIte, reduceIte, Nat.reduceEqDiff, plain1, *]; rfl) | fail)) (fun _ => ?_) (fun _ => ?_)) | (refine Trip.skip ?_; ((repeat (first | refine blockExit_eq ?_ | refine blockExit_ne (by decide) ?_ | refine blockExit_normal ?_ | refine blockExit_ret ?_ | refine blockExit_goto ?_)); first | (change Trip _ _ _ _ _) | dsimp only | skip)) | (refine Trip.ret ?_; ((repeat (first | refine blockExit_eq ?_ | refine blockExit_ne (by decide) ?_ | refine blockExit_normal ?_ | refine blockExit_ret ?_ | refine blockExit_goto ?_)); first | (change Trip _ _ _ _ _) | dsimp only | skip)) | (refine OpsL.nil ?_; ((repeat (first | refine blockExit_eq ?_ | refine blockExit_ne (by decide) ?_ | refine blockExit_normal ?_ | refine blockExit_ret ?_ | refine blockExit_goto ?_)); first | (change Trip _ _ _ _ _) | dsimp only | skip)) | fail)) | skip
    all_goals
      refine ⟨.inr rfl, _, res_tmp, ?_, rfl, rfl⟩
      simp only [tmPut, ↓reduceIte, reduceIte, Option.some.injEq, Nat.reduceEqDiff, hcl, classI]
      simp_all
      try omega

theorem entersClass : Enters Try.prog 37 := ⟨Try.f37, Try.func37, by kernel_rfl, by kernel_rfl⟩
def isL (b : Int) : Bool := decide (97 ≤ b) && decide (b ≤ 122)
def okName (n : List Int) : Prop := n.all isL = true ∧ 1 ≤ n.length ∧ n.length ≤ 8
instance (n : List Int) : Decidable (okName n) := by unfold okName; infer_instance
theorem isL_iff {b : Int} : isL b = true ↔ 97 ≤ b ∧ b ≤ 122 := by simp [isL]
theorem classI_left {b : Int} : classI b = 3 ↔ b = 60 := by unfold classI; split <;> (try split) <;> (try split) <;> (try split) <;> (try split) <;> omega
theorem classI_slash {b : Int} : classI b = 4 ↔ b = 47 := by unfold classI; split <;> (try split) <;> (try split) <;> (try split) <;> (try split) <;> omega
theorem classI_right {b : Int} : classI b = 5 ↔ b = 62 := by unfold classI; split <;> (try split) <;> (try split) <;> (try split) <;> (try split) <;> omega
theorem classI_letter {b : Int} : classI b = 2 ↔ 97 ≤ b ∧ b ≤ 122 := by unfold classI; split <;> (try split) <;> (try split) <;> (try split) <;> (try split) <;> omega
theorem classI_blank {b : Int} : classI b = 1 ↔ b = 32 := by unfold classI; split <;> (try split) <;> (try split) <;> (try split) <;> (try split) <;> omega
theorem classI_lt {b : Int} : classI b ≠ 6 := by unfold classI; split <;> (try split) <;> (try split) <;> (try split) <;> (try split) <;> omega

def findGo (x : List Int × Int) : List (List Int × Int) → Nat → Option Nat
  | [], _ => none
  | y :: l, i => if y = x then some i else findGo x l (i + 1)


theorem entersNameLong : Enters Try.prog 38 := ⟨Try.f38, Try.func38, by kernel_rfl, by kernel_rfl⟩
theorem entersIsName : Enters Try.prog 33 := ⟨Try.f33, Try.func33, by kernel_rfl, by kernel_rfl⟩
theorem entersLetters : Enters Try.prog 39 := ⟨Try.f39, Try.func39, by kernel_rfl, by kernel_rfl⟩

set_option maxRecDepth 20000 in
set_option maxHeartbeats 4000000 in
theorem nameLongC (W0 : World) {nx : Nat} {H : Heap} {m : Int} : ACalls Try.prog W0 38 [.int .i64 m] nx H fun v nx' H' => v = .bool (decide (1 ≤ m ∧ m ≤ 8)) ∧ nx' = nx ∧ H' = H := by
  refine ACalls.by_trip (fn := Try.f38) (c := _) Try.func38 rfl (fun tm n hn0 htm => ?_)
  have e0 : tm 0 = .int .i64 m := htm 0
  clear htm
  replace hn0 : n = 9 := hn0
  repeat' (first | (refine OpsL.p (by subst_vars; decide) (by (first | (exact aop_move (by (first | (simp only [ASt.ev, tmPut, ↓reduceIte, reduceIte, Nat.reduceEqDiff, plain1, *]; rfl) | fail))) | (exact aop_assign (by (first | (simp only [ASt.ev, tmPut, ↓reduceIte, reduceIte, Nat.reduceEqDiff, plain1, *]; rfl) | fail))) | (exact aop_leq (by (first | (simp only [ASt.ev, tmPut, ↓reduceIte, reduceIte, Nat.reduceEqDiff, plain1, *]; rfl) | fail)) (by (first | (simp only [ASt.ev, tmPut, ↓reduceIte, reduceIte, Nat.reduceEqDiff, plain1, *]; rfl) | fail))) | (exact aop_pickT (by (first | (simp only [ASt.ev, tmPut, ↓reduceIte, reduceIte, Nat.reduceEqDiff, decide_true, decide_false, not_true_eq_false, not_false_eq_true, Bool.not_true, Bool.not_false, *]; done) | fail)) (by (first | (simp only [ASt.ev, tmPut, ↓reduceIte, reduceIte, Nat.reduceEqDiff, plain1, *]; rfl) | fail))) | (exact aop_pickF (by (first | (simp only [ASt.ev, tmPut, ↓reduceIte, reduceIte, Nat.reduceEqDiff, decide_true, decide_false, not_true_eq_false, not_false_eq_true, Bool.not_true, Bool.not_false, *]; done) | fail)) (by (first | (simp only [ASt.ev, tmPut, ↓reduceIte, reduceIte, Nat.reduceEqDiff, plain1, *]; rfl) | fail))) | fail)) ?_) | (refine Trip.seq ?_) | (refine Trip.ops ?_) | (refine Trip.ret ?_; ((repeat (first | refine blockExit_eq ?_ | refine blockExit_ne (by decide) ?_ | refine blockExit_normal ?_ | refine blockExit_ret ?_ | refine blockExit_goto ?_)); first | (change Trip _ _ _ _ _) | dsimp only | skip)) | (refine OpsL.nil ?_; ((repeat (first | refine blockExit_eq ?_ | refine blockExit_ne (by decide) ?_ | refine blockExit_normal ?_ | refine blockExit_ret ?_ | refine blockExit_goto ?_)); first | (change Trip _ _ _ _ _) | dsimp only | skip)) | (refine OpsL.unguard (by exact rfl) (by (first | (simp only [ASt.ev, tmPut, ↓reduceIte, reduceIte, Nat.reduceEqDiff, decide_true, decide_false, not_true_eq_false, not_false_eq_true, Bool.not_true, Bool.not_false, *]; done) | fail)) ?_) | (refine OpsL.skipped (by exact rfl) (by (first | (simp only [ASt.ev, tmPut, ↓reduceIte, reduceIte, Nat.reduceEqDiff, decide_true, decide_false, not_true_eq_false, not_false_eq_true, Bool.not_true, Bool.not_false, *]; done) | fail)) (by subst_vars; decide) ?_) | (refine OpsL.guardT (by exact rfl) (by (first | (simp only [ASt.ev, tmPut, ↓reduceIte, reduceIte, Nat.reduceEqDiff, plain1, *]; rfl) | fail)) (by subst_vars; decide) (fun _ => ?_) (fun _ => ?_)) | fail)
  all_goals
    refine ⟨.inr rfl, _, res_tmp, ?_, rfl, rfl⟩
    simp only [tmPut, ↓reduceIte, reduceIte, Option.some.injEq, Nat.reduceEqDiff, Value.bool.injEq]
    first | (rw [decide_eq_decide]; omega) | (symm; rw [decide_eq_false_iff_not]; omega)

theorem letters_iff (l : List Int) : l.all isL = true ↔ ∀ j, j < l.length → classF l j = 2 := by
  rw [List.all_eq_true]
  constructor
  · intro h j hj
    unfold classF
    rw [List.getElem?_eq_getElem hj]
    exact classI_letter.2 (isL_iff.1 (h _ (List.getElem_mem hj)))
  · intro h x hx
    obtain ⟨j, hj, rfl⟩ := List.mem_iff_getElem.1 hx
    have := h j hj
    unfold classF at this
    rw [List.getElem?_eq_getElem hj] at this
    exact isL_iff.2 (classI_letter.1 this)

set_option maxRecDepth 20000 in
set_option maxHeartbeats 4000000 in
theorem isNameC (W0 : World) {nx : Nat} {H : Heap} {s : ByteArray} (hs : (bs s).length ≤ 9223372036854775806) : ACalls Try.prog W0 33 [.string s] nx H fun v nx' H' => v = .bool (decide (okName (bs s))) ∧ nx' = nx ∧ H' = H := by
  refine ACalls.by_trip (fn := Try.f33) (c := _) Try.func33 rfl (fun tm n hn0 htm => ?_)
  have e0 : tm 0 = .string s := htm 0
  clear htm
  replace hn0 : n = 17 := hn0
  repeat (first | (refine OpsL.p (by subst_vars; decide) (by (first | (exact aop_move (by (first | (simp only [ASt.ev, tmPut, ↓reduceIte, reduceIte, Nat.reduceEqDiff, plain1, *]; rfl) | fail))) | (exact aop_assign (by (first | (simp only [ASt.ev, tmPut, ↓reduceIte, reduceIte, Nat.reduceEqDiff, plain1, *]; rfl) | fail))) | (exact aop_lenB (by (first | (simp only [ASt.ev, tmPut, ↓reduceIte, reduceIte, Nat.reduceEqDiff, plain1, *]; rfl) | fail)) (by exact rfl)) | fail)) ?_) | (refine Trip.seq ?_) | (refine Trip.ops ?_) | (refine Trip.block ?_) | (refine OpsL.nil ?_; ((repeat (first | refine blockExit_eq ?_ | refine blockExit_ne (by decide) ?_ | refine blockExit_normal ?_ | refine blockExit_ret ?_ | refine blockExit_goto ?_)); first | (change Trip _ _ _ _ _) | dsimp only | skip)) | fail)
  refine Trip.inv (fun (i : Nat) st => ∃ tm : Nat → Value, st = ⟨tm, n, H, nx⟩ ∧ tm 0 = .string s ∧ tm 5 = .int .i64 (bs s).length ∧ i ≤ (bs s).length ∧ tm 6 = .int .i64 i ∧ ∀ j, j < i → classF (bs s) j = 2) (fun i => (bs s).length - i) 0 ?_ ?_
  · exact ⟨_, rfl, e0, rfl, by omega, rfl, fun j hj => by omega⟩
  · rintro i st ⟨tm, rfl, e0, e5, hi, e6, hall⟩
    repeat (first | (refine OpsL.p (by subst_vars; decide) (by (first | (exact aop_move (by (first | (simp only [ASt.ev, tmPut, ↓reduceIte, reduceIte, Nat.reduceEqDiff, plain1, *]; rfl) | fail))) | (exact aop_assign (by (first | (simp only [ASt.ev, tmPut, ↓reduceIte, reduceIte, Nat.reduceEqDiff, plain1, *]; rfl) | fail))) | (exact aop_lss (by (first | (simp only [ASt.ev, tmPut, ↓reduceIte, reduceIte, Nat.reduceEqDiff, plain1, *]; rfl) | fail)) (by (first | (simp only [ASt.ev, tmPut, ↓reduceIte, reduceIte, Nat.reduceEqDiff, plain1, *]; rfl) | fail))) | fail)) ?_) | (refine Trip.seq ?_) | (refine Trip.ops ?_) | (refine Trip.block ?_) | (refine Trip.ite (by (first | (simp only [ASt.ev, tmPut, ↓reduceIte, reduceIte, Nat.reduceEqDiff, plain1, *]; rfl) | fail)) (fun _ => ?_) (fun _ => ?_)) | (refine Trip.skip ?_; ((repeat (first | refine blockExit_eq ?_ | refine blockExit_ne (by decide) ?_ | refine blockExit_normal ?_ | refine blockExit_ret ?_ | refine blockExit_goto ?_)); first | (change Trip _ _ _ _ _) | dsimp only | skip)) | (refine OpsL.nil ?_; ((repeat (first | refine blockExit_eq ?_ | refine blockExit_ne (by decide) ?_ | refine blockExit_normal ?_ | refine blockExit_ret ?_ | refine blockExit_goto ?_)); first | (change Trip _ _ _ _ _) | dsimp only | skip)) | fail)
    · have hlt : i < (bs s).length := by omega
      refine OpsL.call2 (by subst_vars; decide) (by (first | (simp only [ASt.ev, tmPut, ↓reduceIte, reduceIte, Nat.reduceEqDiff, plain1, *]; rfl) | fail)) (by (first | (simp only [ASt.ev, tmPut, ↓reduceIte, reduceIte, Nat.reduceEqDiff, plain1, *]; rfl) | fail)) entersClass (classC W0) ?_
      rintro v nx1 H1 ⟨rfl, rfl, rfl⟩
      repeat' (first | (refine OpsL.p (by subst_vars; decide) (by (first | (exact aop_move (by (first | (simp only [ASt.ev, tmPut, ↓reduceIte, reduceIte, Nat.reduceEqDiff, plain1, *]; rfl) | fail))) | (exact aop_assign (by (first | (simp only [ASt.ev, tmPut, ↓reduceIte, reduceIte, Nat.reduceEqDiff, plain1, *]; rfl) | fail))) | (exact aop_neq (by (first | (simp only [ASt.ev, tmPut, ↓reduceIte, reduceIte, Nat.reduceEqDiff, plain1, *]; rfl) | fail)) (by (first | (simp only [ASt.ev, tmPut, ↓reduceIte, reduceIte, Nat.reduceEqDiff, plain1, *]; rfl) | fail))) | (exact aop_add (by (first | (simp only [ASt.ev, tmPut, ↓reduceIte, reduceIte, Nat.reduceEqDiff, plain1, *]; rfl) | fail)) (by (first | (simp only [ASt.ev, tmPut, ↓reduceIte, reduceIte, Nat.reduceEqDiff, plain1, *]; rfl) | fail)) (by omega)) | fail)) ?_) | (refine Trip.seq ?_) | (refine Trip.ops ?_) | (refine Trip.ite (by (first | (simp only [ASt.ev, tmPut, ↓reduceIte, reduceIte, Nat.reduceEqDiff, plain1, *]; rfl) | fail)) (fun _ => ?_) (fun _ => ?_)) | (refine Trip.skip ?_; ((repeat (first | refine blockExit_eq ?_ | refine blockExit_ne (by decide) ?_ | refine blockExit_normal ?_ | refine blockExit_ret ?_ | refine blockExit_goto ?_)); first | (change Trip _ _ _ _ _) | dsimp only | skip)) | (refine Trip.ret ?_; ((repeat (first | refine blockExit_eq ?_ | refine blockExit_ne (by decide) ?_ | refine blockExit_normal ?_ | refine blockExit_ret ?_ | refine blockExit_goto ?_)); first | (change Trip _ _ _ _ _) | dsimp only | skip)) | (refine OpsL.nil ?_; ((repeat (first | refine blockExit_eq ?_ | refine blockExit_ne (by decide) ?_ | refine blockExit_normal ?_ | refine blockExit_ret ?_ | refine blockExit_goto ?_)); first | (change Trip _ _ _ _ _) | dsimp only | skip)) | fail)
      · rename_i hne
        refine ⟨.inr rfl, _, res_tmp, ?_, rfl, rfl⟩
        simp only [tmPut, ↓reduceIte, reduceIte, Option.some.injEq, Nat.reduceEqDiff, Value.bool.injEq]
        symm
        rw [decide_eq_false_iff_not]
        intro h
        exact hne ((letters_iff _).1 h.1 i hlt)
      · rename_i hne
        refine ⟨i + 1, ⟨_, rfl, e0, e5, by omega, by simp [tmPut], fun j hj => ?_⟩, by omega⟩
        rcases Nat.lt_succ_iff_lt_or_eq.1 hj with h | rfl
        · exact hall j h
        · exact Decidable.not_not.1 hne
    · have hi2 : i = (bs s).length := by omega
      repeat (first | (refine OpsL.p (by subst_vars; decide) (by (first | (exact aop_move (by (first | (simp only [ASt.ev, tmPut, ↓reduceIte, reduceIte, Nat.reduceEqDiff, plain1, *]; rfl) | fail))) | (exact aop_lenB (by (first | (simp only [ASt.ev, tmPut, ↓reduceIte, reduceIte, Nat.reduceEqDiff, plain1, *]; rfl) | fail)) (by exact rfl)) | fail)) ?_) | (refine Trip.seq ?_) | (refine Trip.ops ?_) | (refine Trip.exit ?_; ((repeat (first | refine blockExit_eq ?_ | refine blockExit_ne (by decide) ?_ | refine blockExit_normal ?_ | refine blockExit_ret ?_ | refine blockExit_goto ?_)); first | (change Trip _ _ _ _ _) | dsimp only | skip)) | fail)
      refine OpsL.call1 (by subst_vars; decide) (by (first | (simp only [ASt.ev, tmPut, ↓reduceIte, reduceIte, Nat.reduceEqDiff, plain1, *]; rfl) | fail)) entersNameLong (nameLongC W0) ?_
      rintro v nx1 H1 ⟨rfl, rfl, rfl⟩
      repeat (first | (refine OpsL.p (by subst_vars; decide) (by (first | (exact aop_assign (by (first | (simp only [ASt.ev, tmPut, ↓reduceIte, reduceIte, Nat.reduceEqDiff, plain1, *]; rfl) | fail))) | fail)) ?_) | (refine Trip.ret ?_; ((repeat (first | refine blockExit_eq ?_ | refine blockExit_ne (by decide) ?_ | refine blockExit_normal ?_ | refine blockExit_ret ?_ | refine blockExit_goto ?_)); first | (change Trip _ _ _ _ _) | dsimp only | skip)) | (refine OpsL.nil ?_; ((repeat (first | refine blockExit_eq ?_ | refine blockExit_ne (by decide) ?_ | refine blockExit_normal ?_ | refine blockExit_ret ?_ | refine blockExit_goto ?_)); first | (change Trip _ _ _ _ _) | dsimp only | skip)) | fail)
      refine ⟨.inr rfl, _, res_tmp, ?_, rfl, rfl⟩
      simp only [tmPut, ↓reduceIte, reduceIte, Option.some.injEq, Nat.reduceEqDiff, Value.bool.injEq]
      rw [decide_eq_decide]
      have := (letters_iff (bs s)).2 (fun j hj => hall j (by omega))
      unfold okName
      rw [this]
      simp only [true_and]
      omega

set_option maxRecDepth 20000 in
set_option maxHeartbeats 4000000 in
theorem lettersC (W0 : World) {nx : Nat} {H : Heap} {s : ByteArray} (hs : (bs s).length ≤ 9223372036854775806) : ACalls Try.prog W0 39 [.string s] nx H fun v nx' H' => v = .bool (decide (okName (bs s))) ∧ nx' = nx ∧ H' = H := by
  refine ACalls.by_trip (fn := Try.f39) (c := _) Try.func39 rfl (fun tm n hn0 htm => ?_)
  have e0 : tm 0 = .string s := htm 0
  clear htm
  replace hn0 : n = 28 := hn0
  repeat (first | (refine OpsL.p (by subst_vars; decide) (by (first | (exact aop_assign (by (first | (simp only [ASt.ev, tmPut, ↓reduceIte, reduceIte, Nat.reduceEqDiff, plain1, *]; rfl) | fail))) | fail)) ?_) | (refine Trip.seq ?_) | (refine Trip.ops ?_) | (refine Trip.block ?_) | (refine OpsL.nil ?_; ((repeat (first | refine blockExit_eq ?_ | refine blockExit_ne (by decide) ?_ | refine blockExit_normal ?_ | refine blockExit_ret ?_ | refine blockExit_goto ?_)); first | (change Trip _ _ _ _ _) | dsimp only | skip)) | fail)
  refine Trip.inv (fun (i : Nat) st => ∃ tm : Nat → Value, st = ⟨tm, n, H, nx⟩ ∧ tm 0 = .string s ∧ i ≤ (bs s).length ∧ tm 3 = .int .i64 i ∧ ∀ j (h : j < (bs s).length), j < i → isL (bs s)[j] = true) (fun i => (bs s).length - i) 0 ?_ ?_
  · exact ⟨_, rfl, e0, by omega, rfl, fun j _ hj => by omega⟩
  · rintro i st ⟨tm, rfl, e0, hi, e3, hall⟩
    repeat (first | (refine OpsL.p (by subst_vars; decide) (by (first | (exact aop_move (by (first | (simp only [ASt.ev, tmPut, ↓reduceIte, reduceIte, Nat.reduceEqDiff, plain1, *]; rfl) | fail))) | (exact aop_lss (by (first | (simp only [ASt.ev, tmPut, ↓reduceIte, reduceIte, Nat.reduceEqDiff, plain1, *]; rfl) | fail)) (by (first | (simp only [ASt.ev, tmPut, ↓reduceIte, reduceIte, Nat.reduceEqDiff, plain1, *]; rfl) | fail))) | (exact aop_lenB (by (first | (simp only [ASt.ev, tmPut, ↓reduceIte, reduceIte, Nat.reduceEqDiff, plain1, *]; rfl) | fail)) (by exact rfl)) | fail)) ?_) | (refine Trip.seq ?_) | (refine Trip.ops ?_) | (refine Trip.block ?_) | (refine Trip.ite (by (first | (simp only [ASt.ev, tmPut, ↓reduceIte, reduceIte, Nat.reduceEqDiff, plain1, *]; rfl) | fail)) (fun _ => ?_) (fun _ => ?_)) | (refine Trip.skip ?_; ((repeat (first | refine blockExit_eq ?_ | refine blockExit_ne (by decide) ?_ | refine blockExit_normal ?_ | refine blockExit_ret ?_ | refine blockExit_goto ?_)); first | (change Trip _ _ _ _ _) | dsimp only | skip)) | (refine OpsL.nil ?_; ((repeat (first | refine blockExit_eq ?_ | refine blockExit_ne (by decide) ?_ | refine blockExit_normal ?_ | refine blockExit_ret ?_ | refine blockExit_goto ?_)); first | (change Trip _ _ _ _ _) | dsimp only | skip)) | fail)
    · have hlt : i < (bs s).length := by omega
      have hc : (bs s)[(i : Int).toNat]? = some (bs s)[i] := by simp [hlt]
      have hbad : isL (bs s)[i] = false → decide (okName (bs s)) = false := fun h => by
        rw [decide_eq_false_iff_not]
        intro ho
        have := List.all_eq_true.1 ho.1 _ (List.getElem_mem hlt)
        rw [h] at this; cases this
      have hgood : isL (bs s)[i] = true → ∀ j (h : j < (bs s).length), j < i + 1 → isL (bs s)[j] = true := fun hb j h hj => by
        rcases Nat.lt_succ_iff_lt_or_eq.1 hj with h2 | rfl
        · exact hall j h h2
        · exact hb
      generalize hb : (bs s)[i] = b at *
      repeat fail
      refine OpsL.p (by subst_vars; decide) (aop_indexS (by (first | (simp only [ASt.ev, tmPut, ↓reduceIte, reduceIte, Nat.reduceEqDiff, plain1, *]; done) | fail)) (by (first | (simp only [ASt.ev, tmPut, ↓reduceIte, reduceIte, Nat.reduceEqDiff, plain1, *]; rfl) | fail)) (by exact rfl) (by omega) hc) ?_
      repeat' (first | (refine OpsL.p (by subst_vars; decide) (by (first | (exact aop_move (by (first | (simp only [ASt.ev, tmPut, ↓reduceIte, reduceIte, Nat.reduceEqDiff, plain1, *]; rfl) | fail))) | (exact aop_lss (by (first | (simp only [ASt.ev, tmPut, ↓reduceIte, reduceIte, Nat.reduceEqDiff, plain1, *]; rfl) | fail)) (by (first | (simp only [ASt.ev, tmPut, ↓reduceIte, reduceIte, Nat.reduceEqDiff, plain1, *]; rfl) | fail))) | (exact aop_pickT (by (first | (simp only [ASt.ev, tmPut, ↓reduceIte, reduceIte, Nat.reduceEqDiff, decide_true, decide_false, not_true_eq_false, not_false_eq_true, Bool.not_true, Bool.not_false, *]; done) | fail)) (by (first | (simp only [ASt.ev, tmPut, ↓reduceIte, reduceIte, Nat.reduceEqDiff, plain1, *]; rfl) | fail))) | fail)) ?_) | (refine OpsL.nil ?_; ((repeat (first | refine blockExit_eq ?_ | refine blockExit_ne (by decide) ?_ | refine blockExit_normal ?_ | refine blockExit_ret ?_ | refine blockExit_goto ?_)); first | (change Trip _ _ _ _ _) | dsimp only | skip)) | (refine OpsL.unguard (by exact rfl) (by (first | (simp only [ASt.ev, tmPut, ↓reduceIte, reduceIte, Nat.reduceEqDiff, decide_true, decide_false, not_true_eq_false, not_false_eq_true, Bool.not_true, Bool.not_false, *]; done) | fail)) ?_) | (refine OpsL.skipped (by exact rfl) (by (first | (simp only [ASt.ev, tmPut, ↓reduceIte, reduceIte, Nat.reduceEqDiff, decide_true, decide_false, not_true_eq_false, not_false_eq_true, Bool.not_true, Bool.not_false, *]; done) | fail)) (by subst_vars; decide) ?_) | (refine OpsL.guardF (by exact rfl) (by (first | (simp only [ASt.ev, tmPut, ↓reduceIte, reduceIte, Nat.reduceEqDiff, plain1, *]; rfl) | fail)) (by subst_vars; decide) (fun _ => ?_) (fun _ => ?_)) | fail)
      all_goals try (refine OpsL.p (by subst_vars; decide) (aop_indexS (by (first | (simp only [ASt.ev, tmPut, ↓reduceIte, reduceIte, Nat.reduceEqDiff, plain1, *]; done) | fail)) (by (first | (simp only [ASt.ev, tmPut, ↓reduceIte, reduceIte, Nat.reduceEqDiff, plain1, *]; rfl) | fail)) (by exact rfl) (by omega) hc) ?_; repeat' (first | (refine OpsL.p (by subst_vars; decide) (by (first | (exact aop_move (by (first | (simp only [ASt.ev, tmPut, ↓reduceIte, reduceIte, Nat.reduceEqDiff, plain1, *]; rfl) | fail))) | (exact aop_assign (by (first | (simp only [ASt.ev, tmPut, ↓reduceIte, reduceIte, Nat.reduceEqDiff, plain1, *]; rfl) | fail))) | (exact aop_gtr (by (first | (simp only [ASt.ev, tmPut, ↓reduceIte, reduceIte, Nat.reduceEqDiff, plain1, *]; rfl) | fail)) (by (first | (simp only [ASt.ev, tmPut, ↓reduceIte, reduceIte, Nat.reduceEqDiff, plain1, *]; rfl) | fail))) | (exact aop_add (by (first | (simp only [ASt.ev, tmPut, ↓reduceIte, reduceIte, Nat.reduceEqDiff, plain1, *]; rfl) | fail)) (by (first | (simp only [ASt.ev, tmPut, ↓reduceIte, reduceIte, Nat.reduceEqDiff, plain1, *]; rfl) | fail)) (by omega)) | (exact aop_pickF (by (first | (simp only [ASt.ev, tmPut, ↓reduceIte, reduceIte, Nat.reduceEqDiff, decide_true, decide_false, not_true_eq_false, not_false_eq_true, Bool.not_true, Bool.not_false, *]; done) | fail)) (by (first | (simp only [ASt.ev, tmPut, ↓reduceIte, reduceIte, Nat.reduceEqDiff, plain1, *]; rfl) | fail))) | fail)) ?_) | (refine Trip.seq ?_) | (refine Trip.ops ?_) | (refine Trip.ite (by (first | (simp only [ASt.ev, tmPut, ↓reduceIte, reduceIte, Nat.reduceEqDiff, plain1, *]; rfl) | fail)) (fun _ => ?_) (fun _ => ?_)) | (refine Trip.skip ?_; ((repeat (first | refine blockExit_eq ?_ | refine blockExit_ne (by decide) ?_ | refine blockExit_normal ?_ | refine blockExit_ret ?_ | refine blockExit_goto ?_)); first | (change Trip _ _ _ _ _) | dsimp only | skip)) | (refine Trip.ret ?_; ((repeat (first | refine blockExit_eq ?_ | refine blockExit_ne (by decide) ?_ | refine blockExit_normal ?_ | refine blockExit_ret ?_ | refine blockExit_goto ?_)); first | (change Trip _ _ _ _ _) | dsimp only | skip)) | (refine OpsL.nil ?_; ((repeat (first | refine blockExit_eq ?_ | refine blockExit_ne (by decide) ?_ | refine blockExit_normal ?_ | refine blockExit_ret ?_ | refine blockExit_goto ?_)); first | (change Trip _ _ _ _ _) | dsimp only | skip)) | (refine OpsL.unguard (by exact rfl) (by (first | (simp only [ASt.ev, tmPut, ↓reduceIte, reduceIte, Nat.reduceEqDiff, decide_true, decide_false, not_true_eq_false, not_false_eq_true, Bool.not_true, Bool.not_false, *]; done) | fail)) ?_) | fail))
      all_goals first | (refine Trip.iteB (b := true) (by (first | (simp only [ASt.ev, tmPut, ↓reduceIte, reduceIte, Nat.reduceEqDiff, decide_true, decide_false, not_true_eq_false, not_false_eq_true, Bool.not_true, Bool.not_false, *]; done) | fail)) (fun _ => ?_) (fun h => absurd h (by decide)); repeat' (first | (refine OpsL.p (by subst_vars; decide) (by (first | (exact aop_assign (by (first | (simp only [ASt.ev, tmPut, ↓reduceIte, reduceIte, Nat.reduceEqDiff, plain1, *]; rfl) | fail))) | fail)) ?_) | (refine Trip.seq ?_) | (refine Trip.ops ?_) | (refine Trip.ret ?_; ((repeat (first | refine blockExit_eq ?_ | refine blockExit_ne (by decide) ?_ | refine blockExit_normal ?_ | refine blockExit_ret ?_ | refine blockExit_goto ?_)); first | (change Trip _ _ _ _ _) | dsimp only | skip)) | (refine OpsL.nil ?_; ((repeat (first | refine blockExit_eq ?_ | refine blockExit_ne (by decide) ?_ | refine blockExit_normal ?_ | refine blockExit_ret ?_ | refine blockExit_goto ?_)); first | (change Trip _ _ _ _ _) | dsimp only | skip)) | fail)) | (refine Trip.iteB (b := false) (by (first | (simp only [ASt.ev, tmPut, ↓reduceIte, reduceIte, Nat.reduceEqDiff, decide_true, decide_false, not_true_eq_false, not_false_eq_true, Bool.not_true, Bool.not_false, *]; done) | (simp only [ASt.ev, tmPut, ↓reduceIte, reduceIte, Nat.reduceEqDiff, decide_true, decide_false, not_true_eq_false, not_false_eq_true, Bool.not_true, Bool.not_false, *]; rfl))) (fun h => absurd h (by decide)) (fun _ => ?_); repeat' fail) | skip
      all_goals first
        | (refine ⟨.inr rfl, _, res_tmp, ?_, rfl, rfl⟩
           simp only [tmPut, ↓reduceIte, reduceIte, Option.some.injEq, Nat.reduceEqDiff, Value.bool.injEq]
           exact (hbad (by rw [Bool.eq_false_iff]; intro h; have := isL_iff.1 h; omega)).symm)
        | (exact ⟨i + 1, ⟨_, rfl, e0, by omega, by simp [tmPut], hgood (isL_iff.2 (by omega))⟩, by omega⟩)
    · have hi2 : i = (bs s).length := by omega
      have hal : (bs s).all isL = true := by
        rw [List.all_eq_true]
        intro x hx
        obtain ⟨j, hj, rfl⟩ := List.mem_iff_getElem.1 hx
        exact hall j hj (by omega)
      repeat' (first | (refine OpsL.p (by subst_vars; decide) (by (first | (exact aop_move (by (first | (simp only [ASt.ev, tmPut, ↓reduceIte, reduceIte, Nat.reduceEqDiff, plain1, *]; rfl) | fail))) | (exact aop_assign (by (first | (simp only [ASt.ev, tmPut, ↓reduceIte, reduceIte, Nat.reduceEqDiff, plain1, *]; rfl) | fail))) | (exact aop_leq (by (first | (simp only [ASt.ev, tmPut, ↓reduceIte, reduceIte, Nat.reduceEqDiff, plain1, *]; rfl) | fail)) (by (first | (simp only [ASt.ev, tmPut, ↓reduceIte, reduceIte, Nat.reduceEqDiff, plain1, *]; rfl) | fail))) | (exact aop_gtr (by (first | (simp only [ASt.ev, tmPut, ↓reduceIte, reduceIte, Nat.reduceEqDiff, plain1, *]; rfl) | fail)) (by (first | (simp only [ASt.ev, tmPut, ↓reduceIte, reduceIte, Nat.reduceEqDiff, plain1, *]; rfl) | fail))) | (exact aop_lenB (by (first | (simp only [ASt.ev, tmPut, ↓reduceIte, reduceIte, Nat.reduceEqDiff, plain1, *]; rfl) | fail)) (by exact rfl)) | (exact aop_pickT (by (first | (simp only [ASt.ev, tmPut, ↓reduceIte, reduceIte, Nat.reduceEqDiff, decide_true, decide_false, not_true_eq_false, not_false_eq_true, Bool.not_true, Bool.not_false, *]; done) | fail)) (by (first | (simp only [ASt.ev, tmPut, ↓reduceIte, reduceIte, Nat.reduceEqDiff, plain1, *]; rfl) | fail))) | (exact aop_pickF (by (first | (simp only [ASt.ev, tmPut, ↓reduceIte, reduceIte, Nat.reduceEqDiff, decide_true, decide_false, not_true_eq_false, not_false_eq_true, Bool.not_true, Bool.not_false, *]; done) | fail)) (by (first | (simp only [ASt.ev, tmPut, ↓reduceIte, reduceIte, Nat.reduceEqDiff, plain1, *]; rfl) | fail))) | fail)) ?_) | (refine Trip.seq ?_) | (refine Trip.ops ?_) | (refine Trip.exit ?_; ((repeat (first | refine blockExit_eq ?_ | refine blockExit_ne (by decide) ?_ | refine blockExit_normal ?_ | refine blockExit_ret ?_ | refine blockExit_goto ?_)); first | (change Trip _ _ _ _ _) | dsimp only | skip)) | (refine Trip.ret ?_; ((repeat (first | refine blockExit_eq ?_ | refine blockExit_ne (by decide) ?_ | refine blockExit_normal ?_ | refine blockExit_ret ?_ | refine blockExit_goto ?_)); first | (change Trip _ _ _ _ _) | dsimp only | skip)) | (refine OpsL.nil ?_; ((repeat (first | refine blockExit_eq ?_ | refine blockExit_ne (by decide) ?_ | refine blockExit_normal ?_ | refine blockExit_ret ?_ | refine blockExit_goto ?_)); first | (change Trip _ _ _ _ _) | dsimp only | skip)) | (refine OpsL.unguard (by exact rfl) (by (first | (simp only [ASt.ev, tmPut, ↓reduceIte, reduceIte, Nat.reduceEqDiff, decide_true, decide_false, not_true_eq_false, not_false_eq_true, Bool.not_true, Bool.not_false, *]; done) | fail)) ?_) | (refine OpsL.skipped (by exact rfl) (by (first | (simp only [ASt.ev, tmPut, ↓reduceIte, reduceIte, Nat.reduceEqDiff, decide_true, decide_false, not_true_eq_false, not_false_eq_true, Bool.not_true, Bool.not_false, *]; done) | fail)) (by subst_vars; decide) ?_) | (refine OpsL.guardT (by exact rfl) (by (first | (simp only [ASt.ev, tmPut, ↓reduceIte, reduceIte, Nat.reduceEqDiff, plain1, *]; rfl) | fail)) (by subst_vars; decide) (fun _ => ?_) (fun _ => ?_)) | fail)
      all_goals
        refine ⟨.inr rfl, _, res_tmp, ?_, rfl, rfl⟩
        simp only [tmPut, ↓reduceIte, reduceIte, Option.some.injEq, Nat.reduceEqDiff, Value.bool.injEq]
        first
          | (rw [decide_eq_decide]; unfold okName; rw [hal]; simp only [true_and]; omega)
          | (rw [decide_eq_false_iff_not.2]; unfold okName; rw [hal]; simp only [true_and]; omega)

/-! ### symbols compared, found -/

theorem symEq (H : Heap) (a b : ByteArray) (k j : Int) : aEq Try.prog H 60 45 (.agg #[.string a, .int .i64 k]) (.agg #[.string b, .int .i64 j]) = some (decide ((bs a, k) = (bs b, j))) := by
  have h1 : Try.prog.stoodInHeld 45 = false := by kernel_rfl
  have e1 : (k == j) = decide (k = j) := by by_cases h : k = j <;> simp [h]
  have key : aEq Try.prog H 60 45 (.agg #[.string a, .int .i64 k]) (.agg #[.string b, .int .i64 j]) = some (sEq a b && (k == j)) := by
    cases h : sEq a b <;> cases h2 : (k == j) <;> simp [aEq, eqFields, getPart, isAggD, h, h2, h1, Try.underlying45, Try.underlying9, Try.underlying3]
  rw [key, sEq_bs, e1]
  congr 1
  rw [Bool.eq_iff_iff]
  simp

end Go.Proofs.Ytngekapiemkgnaa
/-
  Chapter 1: symbols found in a row; whether symbols may be.
-/
namespace Go.Proofs.Ytngekapiemkgnaa
set_option linter.unusedSimpArgs false
set_option linter.unusedVariables false
open Go.Am Go.RowKit
attribute [local irreducible] aop OpsL Trip blockExit OpsD

/-- Symbols, by the bytes of their names. -/
def kss (ss : List (ByteArray × Int)) : List (List Int × Int) := ss.map fun s => (bs s.1, s.2)
def findI (x : List Int × Int) (ss : List (ByteArray × Int)) : Int := match findGo x (kss ss) 0 with
  | some j => j
  | none => -1

theorem findGo_shift (x : List Int × Int) : ∀ (l : List (List Int × Int)) (i : Nat), findGo x l i = (findGo x l 0).map (i + ·) := by
  intro l
  induction l with
  | nil => intro i; rfl
  | cons y l ih =>
    intro i
    simp only [findGo]
    split
    · rfl
    · rw [ih (i + 1), ih (0 + 1), Option.map_map]
      congr 1
      funext j
      simp only [Function.comp_apply]; omega

/-- None of the first i is it. -/
theorem findGo_skip {x : List Int × Int} {l : List (List Int × Int)} {i : Nat} (h : ∀ j (hj : j < l.length), j < i → l[j] ≠ x) : ∀ k, k ≤ i → k ≤ l.length → findGo x l 0 = findGo x (l.drop k) k := by
  intro k
  induction k with
  | zero => intro _ _; rfl
  | succ k ih =>
    intro hk hl
    rw [ih (by omega) (by omega), List.drop_eq_getElem_cons (by omega), findGo, if_neg (h k (by omega) (by omega))]

theorem findI_hit {x : List Int × Int} {ss : List (ByteArray × Int)} {i : Nat} (hi : i < ss.length) (h : ∀ j (hj : j < (kss ss).length), j < i → (kss ss)[j] ≠ x) (he : (kss ss)[i]'(by simpa [kss] using hi) = x) : findI x ss = i := by
  have hl : (kss ss).length = ss.length := by simp [kss]
  unfold findI
  rw [findGo_skip h i (Nat.le_refl _) (by omega), List.drop_eq_getElem_cons (by omega), findGo, if_pos he]
theorem findI_none {x : List Int × Int} {ss : List (ByteArray × Int)} (h : ∀ j (hj : j < (kss ss).length), (kss ss)[j] ≠ x) : findI x ss = -1 := by
  unfold findI
  rw [findGo_skip (i := (kss ss).length) (fun j hj _ => h j hj) (kss ss).length (Nat.le_refl _) (Nat.le_refl _), List.drop_length]
  rfl
theorem findI_range (x : List Int × Int) (ss : List (ByteArray × Int)) : -1 ≤ findI x ss ∧ findI x ss < ss.length := by
  by_cases h : ∃ j, ∃ hj : j < (kss ss).length, (kss ss)[j] = x
  · have hl : (kss ss).length = ss.length := by simp [kss]
    -- the first one
    have : ∀ n j (hj : j < (kss ss).length), j ≤ n → (kss ss)[j] = x → ∃ i, ∃ hi : i < (kss ss).length, (kss ss)[i] = x ∧ ∀ k (hk : k < (kss ss).length), k < i → (kss ss)[k] ≠ x := by
      intro n
      induction n with
      | zero => intro j hj h0 he; exact ⟨j, hj, he, fun k _ hk => by omega⟩
      | succ n ih =>
        intro j hj h0 he
        by_cases hx : ∃ k, ∃ hk : k < (kss ss).length, k < j ∧ (kss ss)[k] = x
        · obtain ⟨k, hk, hkj, hke⟩ := hx
          exact ih k hk (by omega) hke
        · exact ⟨j, hj, he, fun k hk hkj hke => hx ⟨k, hk, hkj, hke⟩⟩
    obtain ⟨j, hj, he⟩ := h
    obtain ⟨i, hi, h1, h2⟩ := this j j hj (Nat.le_refl _) he
    rw [findI_hit (by omega) h2 h1]
    omega
  · rw [findI_none (fun j hj he => h ⟨j, hj, he⟩)]
    omega

def boxO (x : ByteArray × Int) : AObj := .cells [.string x.1, .int .i64 x.2] 0 none false (some 45)
def symV (x : ByteArray × Int) : Value := .agg #[.string x.1, .int .i64 x.2]

theorem SymsAt.get {H : Heap} {a : Addr} {c n : Nat} {ss : List (ByteArray × Int)} (h : SymsAt H (.slice (some a) n c) ss) {i : Nat} (hi : i < ss.length) : getc H ⟨a.block, a.off + (i : Int).toNat * 2, a.spot⟩ 2 = some [.string ss[i].1, .int .i64 ss[i].2] := by
  obtain ⟨a', c', he, hs⟩ := h
  cases he
  simpa using hs i hi

/-- A row of symbols as it may be read, nil too. -/
def SymsR (H : Heap) (v : Value) (ss : List (ByteArray × Int)) : Prop := (v = .slice none 0 0 ∧ ss = []) ∨ SymsAt H v ss
theorem SymsR.slice {H : Heap} {v : Value} {ss : List (ByteArray × Int)} (h : SymsR H v ss) : ∃ a c, v = .slice a ss.length c := by
  rcases h with ⟨rfl, rfl⟩ | ⟨a, c, rfl, _⟩
  · exact ⟨none, 0, rfl⟩
  · exact ⟨some a, c, rfl⟩
theorem SymsR.get {H : Heap} {a : Option Addr} {c n : Nat} {ss : List (ByteArray × Int)} (h : SymsR H (.slice a n c) ss) {i : Nat} (hi : i < ss.length) : ∃ p, a = some p ∧ getc H ⟨p.block, p.off + (i : Int).toNat * 2, p.spot⟩ 2 = some [.string ss[i].1, .int .i64 ss[i].2] := by
  rcases h with ⟨_, rfl⟩ | h
  · simp at hi
  · obtain ⟨a', c', he, hs⟩ := h
    cases he
    exact ⟨a', rfl, by simpa using hs i hi⟩

set_option maxRecDepth 20000 in
set_option maxHeartbeats 4000000 in
theorem indexC (W0 : World) {nx : Nat} {H : Heap} {lv : Value} {ss : List (ByteArray × Int)} (x : ByteArray × Int) (hl : SymsR H lv ss) (hn : ss.length ≤ 1000000) (hok : ∀ id o, H id = some o → id < nx) :
    ACalls Try.prog W0 29 [lv, symV x] nx H fun v nx' H' => v = .int .i64 (findI (bs x.1, x.2) ss) ∧ nx' = nx + 1 ∧ H' = H.put nx (boxO x) := by
  obtain ⟨la, lc, rfl⟩ := hl.slice
  refine ACalls.by_trip (fn := Try.f29) (c := _) Try.func29 rfl (fun tm n hn0 htm => ?_)
  have e0 : tm 0 = .slice la ss.length lc := htm 0
  have e1 : tm 1 = symV x := htm 1
  clear htm
  replace hn0 : n = 19 := hn0
  have hk : (kss ss).length = ss.length := by simp [kss]
  have hkg : ∀ j (h : j < ss.length), (kss ss)[j]'(by omega) = (bs ss[j].1, ss[j].2) := fun j h => by simp [kss]
  refine Trip.seq (Trip.ops ?_)
  refine OpsL.new (o := boxO x) (by subst_vars; decide) (aop_box (v := symV x) (by (first | (simp only [ASt.ev, tmPut, ↓reduceIte, reduceIte, Nat.reduceEqDiff, plain1, *]; done) | fail))) ?_
  repeat (first | (refine OpsL.p (by subst_vars; decide) (by (first | (exact aop_move (by (first | (simp only [ASt.ev, tmPut, ↓reduceIte, reduceIte, Nat.reduceEqDiff, plain1, *]; rfl) | fail))) | (exact aop_assign (by (first | (simp only [ASt.ev, tmPut, ↓reduceIte, reduceIte, Nat.reduceEqDiff, plain1, *]; rfl) | fail))) | (exact aop_len (by (first | (simp only [ASt.ev, tmPut, ↓reduceIte, reduceIte, Nat.reduceEqDiff, plain1, *]; rfl) | fail)) (by exact rfl)) | fail)) ?_) | (refine Trip.seq ?_) | (refine Trip.ops ?_) | (refine Trip.block ?_) | (refine OpsL.nil ?_; ((repeat (first | refine blockExit_eq ?_ | refine blockExit_ne (by decide) ?_ | refine blockExit_normal ?_ | refine blockExit_ret ?_ | refine blockExit_goto ?_)); first | (change Trip _ _ _ _ _) | dsimp only | skip)) | fail)
  refine Trip.inv (fun (i : Nat) st => ∃ tm : Nat → Value, st = ⟨tm, n, H.put nx (boxO x), nx + 1⟩ ∧ tm 3 = .pointer (some ⟨nx, 0, none⟩) ∧ tm 6 = .slice la ss.length lc ∧ tm 0 = .slice la ss.length lc ∧ tm 7 = .int .i64 ss.length ∧ i ≤ ss.length ∧ tm 8 = .int .i64 i ∧ ∀ j (h : j < (kss ss).length), j < i → (kss ss)[j] ≠ (bs x.1, x.2)) (fun i => ss.length - i) 0 ?_ ?_
  · exact ⟨_, rfl, rfl, rfl, e0, rfl, by omega, rfl, fun j _ hj => by omega⟩
  · rintro i st ⟨tm, rfl, e3, e6, e0, e7, hi, e8, hnone⟩
    repeat (first | (refine OpsL.p (by subst_vars; decide) (by (first | (exact aop_move (by (first | (simp only [ASt.ev, tmPut, ↓reduceIte, reduceIte, Nat.reduceEqDiff, plain1, *]; rfl) | fail))) | (exact aop_assign (by (first | (simp only [ASt.ev, tmPut, ↓reduceIte, reduceIte, Nat.reduceEqDiff, plain1, *]; rfl) | fail))) | (exact aop_lss (by (first | (simp only [ASt.ev, tmPut, ↓reduceIte, reduceIte, Nat.reduceEqDiff, plain1, *]; rfl) | fail)) (by (first | (simp only [ASt.ev, tmPut, ↓reduceIte, reduceIte, Nat.reduceEqDiff, plain1, *]; rfl) | fail))) | fail)) ?_) | (refine Trip.seq ?_) | (refine Trip.ops ?_) | (refine Trip.block ?_) | (refine Trip.ite (by (first | (simp only [ASt.ev, tmPut, ↓reduceIte, reduceIte, Nat.reduceEqDiff, plain1, *]; rfl) | fail)) (fun _ => ?_) (fun _ => ?_)) | (refine Trip.skip ?_; ((repeat (first | refine blockExit_eq ?_ | refine blockExit_ne (by decide) ?_ | refine blockExit_normal ?_ | refine blockExit_ret ?_ | refine blockExit_goto ?_)); first | (change Trip _ _ _ _ _) | dsimp only | skip)) | (refine OpsL.nil ?_; ((repeat (first | refine blockExit_eq ?_ | refine blockExit_ne (by decide) ?_ | refine blockExit_normal ?_ | refine blockExit_ret ?_ | refine blockExit_goto ?_)); first | (change Trip _ _ _ _ _) | dsimp only | skip)) | fail)
    · have hlt : i < ss.length := by omega
      obtain ⟨p, rfl, hg⟩ := hl.get hlt
      have hpn : p.block ≠ nx := by
        obtain ⟨o, ho⟩ := getc_some hg
        have := hok _ _ ho
        simp only at this; omega
      have hgp : getc (H.put nx (boxO x)) ⟨p.block, p.off + (i : Int).toNat * 2, p.spot⟩ 2 = some [.string ss[i].1, .int .i64 ss[i].2] := by rw [getc_put (by exact hpn)]; exact hg
      repeat fail
      refine OpsL.drawn fit.mixed (by kernel_rfl) (by kernel_rfl) ?_
      refine OpsL.p (by subst_vars; decide) (aop_loadAgg (k := 2) (vs := [.string x.1, .int .i64 x.2]) (by (first | (simp only [ASt.ev, tmPut, ↓reduceIte, reduceIte, Nat.reduceEqDiff, plain1, *]; rfl) | fail)) (by exact rfl) rfl (by exact rfl) (by exact getc_own (by show 0 + 2 ≤ 2; decide))) ?_
      repeat (first | (refine OpsL.p (by subst_vars; decide) (by (first | (exact aop_move (by (first | (simp only [ASt.ev, tmPut, ↓reduceIte, reduceIte, Nat.reduceEqDiff, plain1, *]; rfl) | fail))) | (exact aop_indexAddr (by (first | (simp only [ASt.ev, tmPut, ↓reduceIte, reduceIte, Nat.reduceEqDiff, plain1, *]; rfl) | fail)) (by (first | (simp only [ASt.ev, tmPut, ↓reduceIte, reduceIte, Nat.reduceEqDiff, plain1, *]; rfl) | fail)) (by exact rfl) (by exact rfl) (by omega) (by omega)) | fail)) ?_) | fail)
      refine OpsL.p (by subst_vars; decide) (aop_loadAgg (k := 2) (by (first | (simp only [ASt.ev, tmPut, ↓reduceIte, reduceIte, Nat.reduceEqDiff, plain1, *]; rfl) | fail)) (by exact rfl) rfl (by exact rfl) hgp) ?_
      refine OpsL.p (by subst_vars; decide) (aop_eqlA (by (first | (simp only [ASt.ev, tmPut, ↓reduceIte, reduceIte, Nat.reduceEqDiff, plain1, *]; rfl) | fail)) (by (first | (simp only [ASt.ev, tmPut, ↓reduceIte, reduceIte, Nat.reduceEqDiff, plain1, *]; rfl) | fail)) (by kernel_rfl) (symEq _ _ _ _ _)) ?_
      repeat (first | (refine OpsL.p (by subst_vars; decide) (by (first | (exact aop_move (by (first | (simp only [ASt.ev, tmPut, ↓reduceIte, reduceIte, Nat.reduceEqDiff, plain1, *]; rfl) | fail))) | (exact aop_assign (by (first | (simp only [ASt.ev, tmPut, ↓reduceIte, reduceIte, Nat.reduceEqDiff, plain1, *]; rfl) | fail))) | fail)) ?_) | (refine Trip.seq ?_) | (refine Trip.ops ?_) | (refine Trip.ite (by (first | (simp only [ASt.ev, tmPut, ↓reduceIte, reduceIte, Nat.reduceEqDiff, plain1, *]; rfl) | fail)) (fun _ => ?_) (fun _ => ?_)) | (refine Trip.ret ?_; ((repeat (first | refine blockExit_eq ?_ | refine blockExit_ne (by decide) ?_ | refine blockExit_normal ?_ | refine blockExit_ret ?_ | refine blockExit_goto ?_)); first | (change Trip _ _ _ _ _) | dsimp only | skip)) | (refine OpsL.nil ?_; ((repeat (first | refine blockExit_eq ?_ | refine blockExit_ne (by decide) ?_ | refine blockExit_normal ?_ | refine blockExit_ret ?_ | refine blockExit_goto ?_)); first | (change Trip _ _ _ _ _) | dsimp only | skip)) | fail)
      · rename_i he
        refine ⟨.inr rfl, _, res_tmp, ?_, rfl, rfl⟩
        rw [findI_hit hlt hnone (by rw [hkg i hlt]; exact he.symm)]
        simp [tmPut]
      · rename_i he
        repeat (first | (refine OpsL.p (by subst_vars; decide) (by (first | (exact aop_move (by (first | (simp only [ASt.ev, tmPut, ↓reduceIte, reduceIte, Nat.reduceEqDiff, plain1, *]; rfl) | fail))) | (exact aop_add (by (first | (simp only [ASt.ev, tmPut, ↓reduceIte, reduceIte, Nat.reduceEqDiff, plain1, *]; rfl) | fail)) (by (first | (simp only [ASt.ev, tmPut, ↓reduceIte, reduceIte, Nat.reduceEqDiff, plain1, *]; rfl) | fail)) (by omega)) | fail)) ?_) | (refine Trip.ops ?_) | (refine Trip.skip ?_; ((repeat (first | refine blockExit_eq ?_ | refine blockExit_ne (by decide) ?_ | refine blockExit_normal ?_ | refine blockExit_ret ?_ | refine blockExit_goto ?_)); first | (change Trip _ _ _ _ _) | dsimp only | skip)) | (refine OpsL.nil ?_; ((repeat (first | refine blockExit_eq ?_ | refine blockExit_ne (by decide) ?_ | refine blockExit_normal ?_ | refine blockExit_ret ?_ | refine blockExit_goto ?_)); first | (change Trip _ _ _ _ _) | dsimp only | skip)) | fail)
        refine ⟨i + 1, ⟨_, rfl, e3, e6, e0, e7, by omega, by simp [tmPut], fun j h hj => ?_⟩, by omega⟩
        rcases Nat.lt_succ_iff_lt_or_eq.1 hj with h2 | rfl
        · exact hnone j h h2
        · rw [hkg j hlt]; exact fun h => he h.symm
    · repeat (first | (refine OpsL.p (by subst_vars; decide) (by (first | (exact aop_assign (by (first | (simp only [ASt.ev, tmPut, ↓reduceIte, reduceIte, Nat.reduceEqDiff, plain1, *]; rfl) | fail))) | fail)) ?_) | (refine Trip.seq ?_) | (refine Trip.ops ?_) | (refine Trip.exit ?_; ((repeat (first | refine blockExit_eq ?_ | refine blockExit_ne (by decide) ?_ | refine blockExit_normal ?_ | refine blockExit_ret ?_ | refine blockExit_goto ?_)); first | (change Trip _ _ _ _ _) | dsimp only | skip)) | (refine Trip.ret ?_; ((repeat (first | refine blockExit_eq ?_ | refine blockExit_ne (by decide) ?_ | refine blockExit_normal ?_ | refine blockExit_ret ?_ | refine blockExit_goto ?_)); first | (change Trip _ _ _ _ _) | dsimp only | skip)) | (refine OpsL.nil ?_; ((repeat (first | refine blockExit_eq ?_ | refine blockExit_ne (by decide) ?_ | refine blockExit_normal ?_ | refine blockExit_ret ?_ | refine blockExit_goto ?_)); first | (change Trip _ _ _ _ _) | dsimp only | skip)) | fail)
      refine ⟨.inr rfl, _, res_tmp, ?_, rfl, rfl⟩
      rw [findI_none (fun j hj => hnone j hj (by omega))]
      simp [tmPut]

theorem SymsR.ext {nx nx' : Nat} {H H' : Heap} {v : Value} {ss : List (ByteArray × Int)} (h : Ext nx H nx' H') (hok : ∀ id o, H id = some o → id < nx) (hs : SymsR H v ss) : SymsR H' v ss := by
  rcases hs with hs | hs
  · exact .inl hs
  · exact .inr (hs.ext h hok)
theorem ok_put {nx k : Nat} {H : Heap} {o : AObj} (hok : ∀ id o, H id = some o → id < nx) (hk : k < nx + 1) : ∀ id o', (H.put k o) id = some o' → id < nx + 1 := by
  intro id o' h
  by_cases e : id = k
  · omega
  · rw [Heap.put_ne e] at h
    have := hok _ _ h
    omega
theorem ext_put {nx : Nat} {H : Heap} {o : AObj} : Ext nx H (nx + 1) (H.put nx o) := ⟨by omega, fun i hi => Heap.put_ne (by omega)⟩

theorem entersIndex : Enters Try.prog 29 := ⟨Try.f29, Try.func29, by kernel_rfl, by kernel_rfl⟩
theorem entersContains : Enters Try.prog 34 := ⟨Try.f34, Try.func34, by kernel_rfl, by kernel_rfl⟩

set_option maxRecDepth 20000 in
set_option maxHeartbeats 4000000 in
theorem containsC (W0 : World) {nx : Nat} {H : Heap} {lv : Value} {ss : List (ByteArray × Int)} (x : ByteArray × Int) (hl : SymsR H lv ss) (hn : ss.length ≤ 1000000) (hok : ∀ id o, H id = some o → id < nx) :
    ACalls Try.prog W0 34 [lv, symV x] nx H fun v nx' H' => v = .bool (decide (0 ≤ findI (bs x.1, x.2) ss)) ∧ nx' = nx + 1 + 1 ∧ H' = (H.put nx (boxO x)).put (nx + 1) (boxO x) := by
  refine ACalls.by_trip (fn := Try.f34) (c := _) Try.func34 rfl (fun tm n hn0 htm => ?_)
  have e0 : tm 0 = lv := htm 0
  have e1 : tm 1 = symV x := htm 1
  clear htm
  replace hn0 : n = 9 := hn0
  refine Trip.seq (Trip.ops ?_)
  refine OpsL.new (o := boxO x) (by subst_vars; decide) (aop_box (v := symV x) (by (first | (simp only [ASt.ev, tmPut, ↓reduceIte, reduceIte, Nat.reduceEqDiff, plain1, *]; done) | fail))) ?_
  repeat (first | (refine OpsL.p (by subst_vars; decide) (by (first | (exact aop_move (by (first | (simp only [ASt.ev, tmPut, ↓reduceIte, reduceIte, Nat.reduceEqDiff, plain1, *]; rfl) | fail))) | (exact aop_assign (by (first | (simp only [ASt.ev, tmPut, ↓reduceIte, reduceIte, Nat.reduceEqDiff, plain1, *]; rfl) | fail))) | fail)) ?_) | (refine Trip.seq ?_) | (refine Trip.ops ?_) | (refine OpsL.nil ?_; ((repeat (first | refine blockExit_eq ?_ | refine blockExit_ne (by decide) ?_ | refine blockExit_normal ?_ | refine blockExit_ret ?_ | refine blockExit_goto ?_)); first | (change Trip _ _ _ _ _) | dsimp only | skip)) | fail)
  refine OpsL.p (by subst_vars; decide) (aop_loadAgg (k := 2) (vs := [.string x.1, .int .i64 x.2]) (by (first | (simp only [ASt.ev, tmPut, ↓reduceIte, reduceIte, Nat.reduceEqDiff, plain1, *]; rfl) | fail)) (by exact rfl) rfl (by exact rfl) (by exact getc_own (by show 0 + 2 ≤ 2; decide))) ?_
  refine OpsL.call2 (by subst_vars; decide) (by (first | (simp only [ASt.ev, tmPut, ↓reduceIte, reduceIte, Nat.reduceEqDiff, plain1, *]; done) | fail)) (by (first | (simp only [ASt.ev, tmPut, ↓reduceIte, reduceIte, Nat.reduceEqDiff, plain1, *]; rfl) | fail)) entersIndex (indexC W0 x (hl.ext ext_put hok) hn (ok_put hok (by omega))) ?_
  rintro v nx1 H1 ⟨rfl, rfl, rfl⟩
  repeat (first | (refine OpsL.p (by subst_vars; decide) (by (first | (exact aop_assign (by (first | (simp only [ASt.ev, tmPut, ↓reduceIte, reduceIte, Nat.reduceEqDiff, plain1, *]; rfl) | fail))) | (exact aop_geq (by (first | (simp only [ASt.ev, tmPut, ↓reduceIte, reduceIte, Nat.reduceEqDiff, plain1, *]; rfl) | fail)) (by (first | (simp only [ASt.ev, tmPut, ↓reduceIte, reduceIte, Nat.reduceEqDiff, plain1, *]; rfl) | fail))) | fail)) ?_) | (refine Trip.ret ?_; ((repeat (first | refine blockExit_eq ?_ | refine blockExit_ne (by decide) ?_ | refine blockExit_normal ?_ | refine blockExit_ret ?_ | refine blockExit_goto ?_)); first | (change Trip _ _ _ _ _) | dsimp only | skip)) | (refine OpsL.nil ?_; ((repeat (first | refine blockExit_eq ?_ | refine blockExit_ne (by decide) ?_ | refine blockExit_normal ?_ | refine blockExit_ret ?_ | refine blockExit_goto ?_)); first | (change Trip _ _ _ _ _) | dsimp only | skip)) | fail)
  exact ⟨.inr rfl, _, res_tmp, by simp [tmPut], rfl, rfl⟩

/-! ### may these symbols be? -/

def kindOk (k : Int) : Prop := k = 1 ∨ k = 2 ∨ k = 3
def goodAt (l : List (List Int × Int)) (j : Nat) : Prop := ∀ h : j < l.length, okName l[j].1 ∧ kindOk l[j].2 ∧ ∀ k (hk : k < l.length), k < j → l[k] ≠ l[j]
/-- What is told of the symbols. -/
def Chk (l : List (List Int × Int)) (r : Int) : Prop :=
  (r = 0 ∧ ∀ j, j < l.length → goodAt l j) ∨ ∃ i, ∃ h : i < l.length, (∀ j, j < i → goodAt l j) ∧ ((¬ okName l[i].1 ∧ r = 4) ∨ (okName l[i].1 ∧ ¬ kindOk l[i].2 ∧ r = 7) ∨ (okName l[i].1 ∧ kindOk l[i].2 ∧ (∃ k, ∃ hk : k < l.length, k < i ∧ l[k] = l[i]) ∧ r = 5))

theorem Chk.unique {l : List (List Int × Int)} {r q : Int} (h1 : Chk l r) (h2 : Chk l q) : r = q := by
  have bad : ∀ i (h : i < l.length), ((¬ okName l[i].1) ∨ (okName l[i].1 ∧ ¬ kindOk l[i].2) ∨ (okName l[i].1 ∧ kindOk l[i].2 ∧ (∃ k, ∃ hk : k < l.length, k < i ∧ l[k] = l[i]))) → ¬ goodAt l i := fun i h hb hg => by
    obtain ⟨a, b, c⟩ := hg h
    rcases hb with hb | ⟨_, hb⟩ | ⟨_, _, k, hk, hki, he⟩
    · exact hb a
    · exact hb b
    · exact c k hk hki he
  have weak : ∀ i (h : i < l.length) (t : Int), ((¬ okName l[i].1 ∧ t = 4) ∨ (okName l[i].1 ∧ ¬ kindOk l[i].2 ∧ t = 7) ∨ (okName l[i].1 ∧ kindOk l[i].2 ∧ (∃ k, ∃ hk : k < l.length, k < i ∧ l[k] = l[i]) ∧ t = 5)) → ¬ goodAt l i := fun i h t ht => by
    rcases ht with ⟨a, _⟩ | ⟨a, b, _⟩ | ⟨a, b, c, _⟩
    · exact bad i h (.inl a)
    · exact bad i h (.inr (.inl ⟨a, b⟩))
    · exact bad i h (.inr (.inr ⟨a, b, c⟩))
  rcases h1 with ⟨rfl, g1⟩ | ⟨i, hi, g1, c1⟩
  · rcases h2 with ⟨rfl, _⟩ | ⟨j, hj, _, c2⟩
    · rfl
    · exact absurd (g1 j hj) (weak j hj q c2)
  · rcases h2 with ⟨rfl, g2⟩ | ⟨j, hj, g2, c2⟩
    · exact absurd (g2 i hi) (weak i hi r c1)
    · have : i = j := by
        rcases Nat.lt_trichotomy i j with c | c | c
        · exact absurd (g2 i c) (weak i hi r c1)
        · exact c
        · exact absurd (g1 j c) (weak j hj q c2)
      subst this
      rcases c1 with ⟨a, rfl⟩ | ⟨a, b, rfl⟩ | ⟨a, b, _, rfl⟩ <;> rcases c2 with ⟨a', rfl⟩ | ⟨a', b', rfl⟩ | ⟨a', b', _, rfl⟩ <;> first | rfl | (exact absurd a' a) | (exact absurd a a') | (exact absurd b' b) | (exact absurd b b')

/-- What is told of a row of symbols: too few, too many; else as above. -/
def ChkF (ss : List (ByteArray × Int)) (r : Int) : Prop := ((ss.length = 0 ∨ 20 < ss.length) ∧ r = 2) ∨ (¬ (ss.length = 0 ∨ 20 < ss.length) ∧ Chk (kss ss) r)
theorem ChkF.unique {ss : List (ByteArray × Int)} {r q : Int} (h1 : ChkF ss r) (h2 : ChkF ss q) : r = q := by
  rcases h1 with ⟨a, rfl⟩ | ⟨a, h1⟩ <;> rcases h2 with ⟨b, rfl⟩ | ⟨b, h2⟩
  · rfl
  · exact absurd a b
  · exact absurd b a
  · exact h1.unique h2


/-- A row whose fronts may be taken. -/
def FrontOk (H : Heap) (v : Value) (n : Nat) : Prop := v = .slice none 0 0 ∨ ∃ a c o, v = .slice (some a) n c ∧ n ≤ c ∧ H a.block = some o ∧ o.tag = a.spot ∧ (a.spot = none ∨ o.esz = 2)
theorem FrontOk.ext {nx nx' n : Nat} {H H' : Heap} {v : Value} (h : Ext nx H nx' H') (hok : ∀ id o, H id = some o → id < nx) (hf : FrontOk H v n) : FrontOk H' v n := by
  rcases hf with hf | ⟨a, c, o, h1, h2, h3, h4, h5⟩
  · exact .inl hf
  · exact .inr ⟨a, c, o, h1, h2, by rw [h.2 _ (hok _ _ h3)]; exact h3, h4, h5⟩

theorem syms_front {H : Heap} {v : Value} {ss : List (ByteArray × Int)} {k : Nat} {hi : Option Value} (hs : SymsR H v ss) (hf : FrontOk H v ss.length) (hk : k ≤ ss.length) (hh : Bd hi ss.length k) :
    ∃ r, aSlice Try.prog H 24 v none hi none = some r ∧ SymsR H r (ss.take k) := by
  have hlen : (ss.take k).length = k := by rw [List.length_take]; omega
  rcases hs with ⟨rfl, rfl⟩ | ⟨a, c, rfl, hs⟩
  · have : k = 0 := by simpa using hk
    subst this
    exact ⟨_, aSlice_nil (el := 45) (sz := 2) (by exact rfl) (by exact rfl) (.inl ⟨rfl, rfl⟩) hh, .inl ⟨rfl, rfl⟩⟩
  · rcases hf with hf | ⟨a', c', o, he, hc, ho, ht, hsp⟩
    · cases hf
    · cases he
      have hrow : SymsR H (.slice (some a) k (if a.spot = none then c else k)) (ss.take k) := .inr ⟨a, _, by rw [hlen], fun i hi2 => by
        rw [hlen] at hi2
        rw [List.getElem_take]
        exact hs i (by omega)⟩
      obtain ⟨b, off, sp⟩ := a
      cases sp with
      | none =>
        refine ⟨_, aSlice_plain (el := 45) (sz := 2) (by exact rfl) (by exact rfl) ho ht rfl (.inl ⟨rfl, rfl⟩) hh (Nat.zero_le _) (by omega), ?_⟩
        have e : (if c = 0 then (⟨b, off, none⟩ : Addr) else ⟨b, off + 0 * 2, none⟩) = ⟨b, off, none⟩ := by split <;> simp
        simp only [e, Nat.sub_zero]
        exact hrow
      | some t =>
        refine ⟨_, aSlice_tagged (el := 45) (sz := 2) (by exact rfl) (by exact rfl) ho ht rfl (by rcases hsp with h | h; cases h; exact h) (.inl ⟨rfl, rfl⟩) hh (Nat.zero_le _) hk, ?_⟩
        simp only [Nat.zero_mul, Nat.add_zero, Nat.lt_irrefl, and_false, if_false, Nat.sub_zero]
        exact hrow

theorem put_put {H : Heap} {k : Nat} {o o' : AObj} : (H.put k o).put k o' = H.put k o' := by
  funext i
  by_cases e : i = k
  · simp [Heap.put, e]
  · simp [Heap.put, e]

theorem kss_length (ss : List (ByteArray × Int)) : (kss ss).length = ss.length := by simp [kss]
theorem kss_get {ss : List (ByteArray × Int)} {j : Nat} (h : j < ss.length) (h' : j < (kss ss).length) : (kss ss)[j] = (bs ss[j].1, ss[j].2) := by simp [kss]

/-- Found among the first i. -/
theorem findI_take {x : List Int × Int} {ss : List (ByteArray × Int)} {i : Nat} : 0 ≤ findI x (ss.take i) ↔ ∃ k, ∃ hk : k < (kss ss).length, k < i ∧ (kss ss)[k] = x := by
  have hkt : kss (ss.take i) = (kss ss).take i := by simp [kss]
  constructor
  · intro h
    by_cases hx : ∃ k, ∃ hk : k < (kss ss).length, k < i ∧ (kss ss)[k] = x
    · exact hx
    · rw [findI_none (fun j hj he => hx ⟨j, by rw [hkt, List.length_take] at hj; omega, by rw [hkt, List.length_take] at hj; omega, by simpa [hkt] using he⟩)] at h
      omega
  · rintro ⟨k, hk, hki, he⟩
    have h1 := findI_range x (ss.take i)
    by_cases h0 : 0 ≤ findI x (ss.take i)
    · exact h0
    · exfalso
      have hm : findI x (ss.take i) = -1 := by omega
      unfold findI at hm
      cases hf : findGo x (kss (ss.take i)) 0 with
      | some j => rw [hf] at hm; simp only at hm; omega
      | none =>
        have mem : ∀ (l : List (List Int × Int)) (n : Nat), findGo x l n = none → x ∉ l := by
          intro l
          induction l with
          | nil => intro n _ h; cases h
          | cons y l ih =>
            intro n h hmem
            simp only [findGo] at h
            split at h
            · cases h
            · rename_i hne
              rcases List.mem_cons.1 hmem with rfl | hm2
              · exact hne rfl
              · exact ih _ h hm2
        refine mem _ _ hf ?_
        rw [hkt, List.mem_take_iff_getElem]
        exact ⟨k, by omega, he⟩

end Go.Proofs.Ytngekapiemkgnaa
/-
  Chapter 1: reading a word's text, by plain functions: the pieces between blanks, what a piece is.
-/
namespace Go.Proofs.Ytngekapiemkgnaa
open Go.Am Go.RowKit

def textOf (k : Int) (n : List Int) : List Int := if k = 1 then 60 :: n ++ [62] else if k = 2 then 60 :: 47 :: n ++ [62] else n

/-- A piece, read as the document does. -/
def rawF (p : List Int) : List Int × Int :=
  if p.head? = some 60 ∧ p.getLast? = some 62 then
    if 2 < p.length ∧ p[1]? = some 47 then ((p.drop 2).take (p.length - 1 - 2), 2) else ((p.drop 1).take (p.length - 1 - 1), 1)
  else (p, 3)
def readF (p : List Int) : Option (List Int × Int) := if okName (rawF p).1 then some (rawF p) else none

theorem okName_cons {n : List Int} (h : okName n) : ∃ b r, n = b :: r ∧ 97 ≤ b ∧ b ≤ 122 := by
  obtain ⟨h1, h2, _⟩ := h
  cases n with
  | nil => simp at h2
  | cons b r =>
    simp only [List.all_cons, Bool.and_eq_true] at h1
    exact ⟨b, r, rfl, isL_iff.1 h1.1⟩

theorem readF_textOf {k : Int} {n : List Int} (hk : k = 1 ∨ k = 2 ∨ k = 3) (h : okName n) : readF (textOf k n) = some (n, k) := by
  obtain ⟨b, r, rfl, hb⟩ := okName_cons h
  have h3 := h.2.2
  have t1 : textOf 1 (b :: r) = 60 :: (b :: r) ++ [62] := rfl
  have t2 : textOf 2 (b :: r) = 60 :: 47 :: (b :: r) ++ [62] := rfl
  have t3 : textOf 3 (b :: r) = b :: r := rfl
  have : rawF (textOf k (b :: r)) = (b :: r, k) := by
    rcases hk with rfl | rfl | rfl
    · rw [t1]
      have hl : (60 :: (b :: r) ++ [62] : List Int).getLast? = some 62 := by rw [List.getLast?_append]; rfl
      unfold rawF
      rw [if_pos ⟨rfl, hl⟩, if_neg (by simp; omega)]
      simp
    · rw [t2]
      have hl : (60 :: 47 :: (b :: r) ++ [62] : List Int).getLast? = some 62 := by rw [List.getLast?_append]; rfl
      unfold rawF
      rw [if_pos ⟨rfl, hl⟩, if_pos (by simp)]
      simp
    · rw [t3]
      unfold rawF
      rw [if_neg (by simp; omega)]
  unfold readF
  rw [this, if_pos h]

theorem rawF_textOf (p : List Int) (h : okName (rawF p).1) : p = textOf (rawF p).2 (rawF p).1 ∧ ((rawF p).2 = 1 ∨ (rawF p).2 = 2 ∨ (rawF p).2 = 3) := by
  unfold rawF at *
  split at h
  · rename_i hc
    obtain ⟨h1, h2⟩ := hc
    rw [if_pos ⟨h1, h2⟩]
    -- p = 60 :: q ++ [62]
    obtain ⟨q, hq⟩ : ∃ q, p = 60 :: q ++ [62] := by
      cases p with
      | nil => simp at h1
      | cons x t =>
        simp at h1
        subst h1
        rcases List.eq_nil_or_concat t with rfl | ⟨q, z, rfl⟩
        · simp at h2
        · rw [List.concat_eq_append] at *
          rw [show (60 :: (q ++ [z]) : List Int) = (60 :: q) ++ [z] from rfl, List.getLast?_append] at h2
          simp at h2
          exact ⟨q, by simp [h2]⟩
    subst hq
    split at h
    · rename_i hc
      rw [if_pos hc]
      refine ⟨?_, by simp⟩
      cases q with
      | nil => simp at hc
      | cons y q =>
        have hy : y = 47 := by simpa using hc.2
        subst hy
        simp [textOf]
    · rename_i hc
      rw [if_neg hc]
      refine ⟨?_, by simp⟩
      simp [textOf]
  · rename_i hc
    rw [if_neg hc]
    exact ⟨by simp [textOf], by simp⟩

theorem readF_iff {p n : List Int} {k : Int} : readF p = some (n, k) ↔ (k = 1 ∨ k = 2 ∨ k = 3) ∧ okName n ∧ p = textOf k n := by
  constructor
  · intro h
    unfold readF at h
    split at h
    · rename_i ho
      simp only [Option.some.injEq] at h
      obtain ⟨a, b⟩ := rawF_textOf p ho
      rw [h] at a b ho
      exact ⟨b, ho, a⟩
    · cases h
  · rintro ⟨a, b, rfl⟩
    exact readF_textOf a b

/-! ### the reader by classes -/

def runF (l : List Int) (j : Nat) : Nat := ((l.drop j).takeWhile isL).length
def endAt (l : List Int) (j : Nat) : Prop := classF l j = 1 ∨ classF l j = 6
instance (l : List Int) (j : Nat) : Decidable (endAt l j) := by unfold endAt; infer_instance

/-- first, last, kind, next -/
def scanF (l : List Int) (i : Nat) : Option (Nat × Nat × Int × Nat) :=
  if classF l i = 3 then
    if classF l (i + 1) = 4 then
      if classF l (i + 2 + runF l (i + 2)) = 5 ∧ endAt l (i + 2 + runF l (i + 2) + 1) ∧ 1 ≤ runF l (i + 2) ∧ runF l (i + 2) ≤ 8 then some (i + 2, i + 2 + runF l (i + 2), 2, i + 2 + runF l (i + 2) + 1) else none
    else
      if classF l (i + 1 + runF l (i + 1)) = 5 ∧ endAt l (i + 1 + runF l (i + 1) + 1) ∧ 1 ≤ runF l (i + 1) ∧ runF l (i + 1) ≤ 8 then some (i + 1, i + 1 + runF l (i + 1), 1, i + 1 + runF l (i + 1) + 1) else none
  else if classF l i = 2 then
    if endAt l (i + runF l i) ∧ 1 ≤ runF l i ∧ runF l i ≤ 8 then some (i, i + runF l i, 3, i + runF l i) else none
  else none

theorem classF_drop (l : List Int) (i j : Nat) : classF l (i + j) = classF (l.drop i) j := by unfold classF; rw [List.getElem?_drop]
theorem runF_drop (l : List Int) (i j : Nat) : runF l (i + j) = runF (l.drop i) j := by unfold runF; rw [List.drop_drop]
theorem classF_zero_cons (b : Int) (l : List Int) : classF (b :: l) 0 = classI b := rfl
theorem classF_succ_cons (b : Int) (l : List Int) (j : Nat) : classF (b :: l) (j + 1) = classF l j := rfl
theorem runF_succ_cons (b : Int) (l : List Int) (j : Nat) : runF (b :: l) (j + 1) = runF l j := rfl

/-- A run of letters at the head, and what is behind it. -/
theorem run_split (r : List Int) : ∃ n u, r = n ++ u ∧ n.all isL = true ∧ runF r 0 = n.length ∧ (u = [] ∨ ∃ c t, u = c :: t ∧ isL c = false) := by
  refine ⟨r.takeWhile isL, r.dropWhile isL, (List.takeWhile_append_dropWhile).symm, by simp [List.all_takeWhile], by simp [runF], ?_⟩
  cases hd : r.dropWhile isL with
  | nil => exact .inl rfl
  | cons c t =>
    refine .inr ⟨c, t, rfl, ?_⟩
    have := List.head?_dropWhile_not isL r
    rw [hd] at this
    simpa using this

theorem classF_at {n u : List Int} : classF (n ++ u) n.length = classF u 0 := by
  unfold classF
  rw [List.getElem?_append_right (Nat.le_refl _), Nat.sub_self]
theorem classF_at1 {n u : List Int} {c : Int} : classF (n ++ c :: u) (n.length + 1) = classF u 0 := by
  unfold classF
  rw [List.getElem?_append_right (by omega), show n.length + 1 - n.length = 1 by omega]
  rfl
theorem endAt_zero {u : List Int} : (classF u 0 = 1 ∨ classF u 0 = 6) ↔ u = [] ∨ ∃ t, u = 32 :: t := by
  cases u with
  | nil => simp [classF]
  | cons c t =>
    rw [classF_zero_cons, classI_blank]
    constructor
    · rintro (rfl | h)
      · exact .inr ⟨t, rfl⟩
      · exact absurd h classI_lt
    · rintro (h | ⟨t', h⟩)
      · cases h
      · cases h; exact .inl rfl

/-- What the reader by classes reads, is a text of a symbol, up to a blank or the end. -/
theorem scanF_iff (r : List Int) (a b : Nat) (k : Int) (c : Nat) : scanF r 0 = some (a, b, k, c) ↔
    ∃ n u, (k = 1 ∨ k = 2 ∨ k = 3) ∧ okName n ∧ r = textOf k n ++ u ∧ (u = [] ∨ ∃ t, u = 32 :: t) ∧ a = (if k = 1 then 1 else if k = 2 then 2 else 0) ∧ b = a + n.length ∧ c = (textOf k n).length := by
  have run_of : ∀ (n u : List Int), n.all isL = true → (u = [] ∨ ∃ c t, u = c :: t ∧ isL c = false) → runF (n ++ u) 0 = n.length := by
    intro n u hn hu
    unfold runF
    rw [List.drop_zero]
    induction n with
    | nil =>
      rcases hu with rfl | ⟨c, t, rfl, hc⟩
      · rfl
      · simp [hc]
    | cons x n ih =>
      simp only [List.all_cons, Bool.and_eq_true] at hn
      simp only [List.cons_append, List.takeWhile_cons, hn.1, if_true, List.length_cons]
      rw [ih hn.2]
  constructor
  · intro h
    unfold scanF at h
    cases r with
    | nil => simp [classF] at h
    | cons x r =>
      split at h
      · rename_i hx
        rw [classF_zero_cons, classI_left] at hx
        subst hx
        split at h
        · rename_i h4
          replace h4 : classF r 0 = 4 := h4
          cases r with
          | nil => simp [classF] at h4
          | cons y r =>
            rw [classF_zero_cons, classI_slash] at h4
            subst h4
            obtain ⟨n, u, rfl, hn, hr, hu⟩ := run_split r
            have e1 : runF (60 :: 47 :: (n ++ u)) (0 + 2) = n.length := hr
            rw [e1] at h
            split at h
            · rename_i hc
              obtain ⟨c1, c2, c3, c4⟩ := hc
              simp only [Option.some.injEq, Prod.mk.injEq] at h
              obtain ⟨rfl, rfl, rfl, rfl⟩ := h
              have c1' : classF (n ++ u) n.length = 5 := by
                rw [show (0 + 2 + n.length : Nat) = n.length + 1 + 1 by omega] at c1; exact c1
              rw [classF_at] at c1'
              cases u with
              | nil => simp [classF] at c1'
              | cons z u =>
                rw [classF_zero_cons, classI_right] at c1'
                subst c1'
                have c2' : classF (n ++ 62 :: u) (n.length + 1) = 1 ∨ classF (n ++ 62 :: u) (n.length + 1) = 6 := by
                  unfold endAt at c2
                  rw [show (0 + 2 + n.length + 1 : Nat) = (n.length + 1) + 1 + 1 by omega] at c2; exact c2
                rw [classF_at1, endAt_zero] at c2'
                exact ⟨n, u, by simp, ⟨hn, c3, c4⟩, by simp [textOf], c2', rfl, rfl, by simp [textOf]; omega⟩
            · cases h
        · rename_i h4
          obtain ⟨n, u, rfl, hn, hr, hu⟩ := run_split r
          have e1 : runF (60 :: (n ++ u)) (0 + 1) = n.length := hr
          rw [e1] at h
          split at h
          · rename_i hc
            obtain ⟨c1, c2, c3, c4⟩ := hc
            simp only [Option.some.injEq, Prod.mk.injEq] at h
            obtain ⟨rfl, rfl, rfl, rfl⟩ := h
            have c1' : classF (n ++ u) n.length = 5 := by
              rw [show (0 + 1 + n.length : Nat) = n.length + 1 by omega] at c1; exact c1
            rw [classF_at] at c1'
            cases u with
            | nil => simp [classF] at c1'
            | cons z u =>
              rw [classF_zero_cons, classI_right] at c1'
              subst c1'
              have c2' : classF (n ++ 62 :: u) (n.length + 1) = 1 ∨ classF (n ++ 62 :: u) (n.length + 1) = 6 := by
                unfold endAt at c2
                rw [show (0 + 1 + n.length + 1 : Nat) = (n.length + 1) + 1 by omega] at c2; exact c2
              rw [classF_at1, endAt_zero] at c2'
              exact ⟨n, u, by simp, ⟨hn, c3, c4⟩, by simp [textOf], c2', rfl, rfl, by simp [textOf]; omega⟩
          · cases h
      · split at h
        · rename_i hx
          obtain ⟨n, u, hr0, hn, hr, hu⟩ := run_split (x :: r)
          rw [hr, hr0] at h
          split at h
          · rename_i hc
            obtain ⟨c2, c3, c4⟩ := hc
            simp only [Option.some.injEq, Prod.mk.injEq] at h
            obtain ⟨rfl, rfl, rfl, rfl⟩ := h
            unfold endAt at c2
            rw [show (0 + n.length : Nat) = n.length by omega, classF_at, endAt_zero] at c2
            exact ⟨n, u, by simp, ⟨hn, c3, c4⟩, by rw [hr0]; simp [textOf], c2, rfl, by simp, by simp [textOf]⟩
          · cases h
        · cases h
  · rintro ⟨n, u, hk, hn, rfl, hu, rfl, rfl, rfl⟩
    obtain ⟨x, t, rfl, hx⟩ := okName_cons hn
    obtain ⟨hn1, hn2, hn3⟩ := hn
    have hend := endAt_zero.2 hu
    have hu' : u = [] ∨ ∃ c t, u = c :: t ∧ isL c = false := by
      rcases hu with rfl | ⟨t, rfl⟩
      · exact .inl rfl
      · exact .inr ⟨32, t, rfl, rfl⟩
    rcases hk with rfl | rfl | rfl
    · have e0 : textOf 1 (x :: t) ++ u = 60 :: ((x :: t) ++ 62 :: u) := by simp [textOf]
      rw [e0]
      unfold scanF
      rw [if_pos (show classF (60 :: ((x :: t) ++ 62 :: u)) 0 = 3 from rfl), if_neg (show ¬ classF (60 :: ((x :: t) ++ 62 :: u)) (0 + 1) = 4 by show ¬ classI x = 4; rw [classI_slash]; omega)]
      have er : runF (60 :: ((x :: t) ++ 62 :: u)) (0 + 1) = (x :: t).length := run_of (x :: t) (62 :: u) hn1 (.inr ⟨62, u, rfl, rfl⟩)
      rw [er]
      have c1 : classF (60 :: ((x :: t) ++ 62 :: u)) (0 + 1 + (x :: t).length) = 5 := by
        rw [show 0 + 1 + (x :: t).length = (x :: t).length + 1 by omega, classF_succ_cons, classF_at]; rfl
      have c2 : endAt (60 :: ((x :: t) ++ 62 :: u)) (0 + 1 + (x :: t).length + 1) := by
        unfold endAt
        rw [show 0 + 1 + (x :: t).length + 1 = ((x :: t).length + 1) + 1 by omega, classF_succ_cons, classF_at1]; exact hend
      rw [if_pos ⟨c1, c2, hn2, hn3⟩]
      simp [textOf]; omega
    · have e0 : textOf 2 (x :: t) ++ u = 60 :: 47 :: ((x :: t) ++ 62 :: u) := by simp [textOf]
      rw [e0]
      unfold scanF
      rw [if_pos (show classF (60 :: 47 :: ((x :: t) ++ 62 :: u)) 0 = 3 from rfl), if_pos (show classF (60 :: 47 :: ((x :: t) ++ 62 :: u)) (0 + 1) = 4 from rfl)]
      have er : runF (60 :: 47 :: ((x :: t) ++ 62 :: u)) (0 + 2) = (x :: t).length := run_of (x :: t) (62 :: u) hn1 (.inr ⟨62, u, rfl, rfl⟩)
      rw [er]
      have c1 : classF (60 :: 47 :: ((x :: t) ++ 62 :: u)) (0 + 2 + (x :: t).length) = 5 := by
        rw [show 0 + 2 + (x :: t).length = (x :: t).length + 1 + 1 by omega, classF_succ_cons, classF_succ_cons, classF_at]; rfl
      have c2 : endAt (60 :: 47 :: ((x :: t) ++ 62 :: u)) (0 + 2 + (x :: t).length + 1) := by
        unfold endAt
        rw [show 0 + 2 + (x :: t).length + 1 = ((x :: t).length + 1) + 1 + 1 by omega, classF_succ_cons, classF_succ_cons, classF_at1]; exact hend
      rw [if_pos ⟨c1, c2, hn2, hn3⟩]
      simp [textOf]; omega
    · have e0 : textOf 3 (x :: t) ++ u = (x :: t) ++ u := by simp [textOf]
      rw [e0]
      unfold scanF
      rw [if_neg (show ¬ classF ((x :: t) ++ u) 0 = 3 by show ¬ classI x = 3; rw [classI_left]; omega), if_pos (show classF ((x :: t) ++ u) 0 = 2 by show classI x = 2; rw [classI_letter]; exact hx)]
      have er : runF ((x :: t) ++ u) 0 = (x :: t).length := run_of (x :: t) u hn1 hu'
      rw [er]
      have c2 : endAt ((x :: t) ++ u) (0 + (x :: t).length) := by
        unfold endAt
        rw [show 0 + (x :: t).length = (x :: t).length by omega, classF_at]; exact hend
      rw [if_pos ⟨c2, hn2, hn3⟩]
      simp [textOf]

theorem scanF_shift (l : List Int) (i : Nat) : scanF l i = (scanF (l.drop i) 0).map fun x => (i + x.1, i + x.2.1, x.2.2.1, i + x.2.2.2) := by
  unfold scanF
  have c0 : classF l i = classF (l.drop i) 0 := classF_drop l i 0
  have cc : ∀ j, classF l (i + j) = classF (l.drop i) j := classF_drop l i
  have rr : ∀ j, runF l (i + j) = runF (l.drop i) j := runF_drop l i
  have r0 : runF l i = runF (l.drop i) 0 := runF_drop l i 0
  have ee : ∀ j, endAt l (i + j) = endAt (l.drop i) j := fun j => by unfold endAt; rw [cc]
  simp only [Nat.add_assoc, Nat.zero_add, cc, rr, r0, c0, ee]
  split
  · split
    · split <;> rfl
    · split <;> rfl
  · split
    · split <;> rfl
    · rfl

def pieceF (l : List Int) (i : Nat) : List Int := (l.drop i).takeWhile fun b => decide (b ≠ 32)

theorem textOf_no {k : Int} {n : List Int} (hn : n.all isL = true) : ∀ b ∈ textOf k n, b ≠ 32 := by
  have h1 : ∀ b ∈ n, b ≠ 32 := fun b hb => by have := isL_iff.1 (List.all_eq_true.1 hn b hb); omega
  intro b hb
  unfold textOf at hb
  split at hb
  · simp only [List.cons_append, List.mem_cons, List.mem_append, List.not_mem_nil, or_false] at hb
    rcases hb with rfl | hb | rfl
    · decide
    · exact h1 b hb
    · decide
  · split at hb
    · simp only [List.cons_append, List.mem_cons, List.mem_append, List.not_mem_nil, or_false] at hb
      rcases hb with rfl | rfl | hb | rfl
      · decide
      · decide
      · exact h1 b hb
      · decide
    · exact h1 b hb

theorem takeWhile_of {p u : List Int} (hp : ∀ b ∈ p, b ≠ 32) (hu : u = [] ∨ ∃ t, u = 32 :: t) : (p ++ u).takeWhile (fun b => decide (b ≠ 32)) = p := by
  induction p with
  | nil => rcases hu with rfl | ⟨t, rfl⟩ <;> simp
  | cons x p ih =>
    have hx := hp x (by simp)
    rw [List.cons_append, List.takeWhile_cons, if_pos (by simpa using hx), ih (fun b hb => hp b (by simp [hb]))]

theorem piece_split (r : List Int) : ∃ u, r = r.takeWhile (fun b => decide (b ≠ 32)) ++ u ∧ (u = [] ∨ ∃ t, u = 32 :: t) := by
  refine ⟨r.dropWhile (fun b => decide (b ≠ 32)), (List.takeWhile_append_dropWhile).symm, ?_⟩
  cases hd : r.dropWhile (fun b => decide (b ≠ 32)) with
  | nil => exact .inl rfl
  | cons c t =>
    refine .inr ⟨t, ?_⟩
    have := List.head?_dropWhile_not (fun b => decide (b ≠ 32)) r
    rw [hd] at this
    simp at this
    rw [this]

theorem scan_read (l : List Int) (i : Nat) : match scanF l i with
    | some (a, b, k, c) => readF (pieceF l i) = some ((l.drop a).take (b - a), k) ∧ c = i + (pieceF l i).length ∧ i ≤ a ∧ a ≤ b ∧ b ≤ c ∧ c ≤ l.length ∧ (k = 1 ∨ k = 2 ∨ k = 3)
    | none => readF (pieceF l i) = none := by
  rw [scanF_shift]
  cases hs : scanF (l.drop i) 0 with
  | none =>
    simp only [Option.map_none]
    cases hr : readF (pieceF l i) with
    | none => rfl
    | some nk =>
      obtain ⟨n, k⟩ := nk
      exfalso
      obtain ⟨hk, hn, hp⟩ := readF_iff.1 hr
      obtain ⟨u, hu1, hu2⟩ := piece_split (l.drop i)
      have : scanF (l.drop i) 0 = some (_, _, k, _) := (scanF_iff (l.drop i) _ _ k _).2 ⟨n, u, hk, hn, by rw [← hp]; exact hu1, hu2, rfl, rfl, rfl⟩
      rw [hs] at this; cases this
  | some x =>
    obtain ⟨a, b, k, c⟩ := x
    simp only [Option.map_some]
    obtain ⟨n, u, hk, hn, hr, hu, ha, hb, hc⟩ := (scanF_iff _ _ _ _ _).1 hs
    have hp : pieceF l i = textOf k n := by
      unfold pieceF
      rw [hr]
      exact takeWhile_of (textOf_no hn.1) hu
    have hlen : c ≤ (l.drop i).length := by rw [hr, List.length_append, hc]; omega
    rw [List.length_drop] at hlen
    have hn2 := hn.2.1
    refine ⟨?_, by rw [hp, hc], by omega, by omega, ?_, ?_, hk⟩
    · rw [hp, readF_textOf hk hn]
      have : (l.drop (i + a)).take (i + b - (i + a)) = n := by
        rw [← List.drop_drop, hr, show i + b - (i + a) = n.length by omega, ha]
        rcases hk with rfl | rfl | rfl <;> simp [textOf]
      rw [this]
    · rw [hb, hc, ha]
      rcases hk with rfl | rfl | rfl <;> (simp [textOf]; try omega)
    · have : c ≠ 0 := by
        rw [hc]
        rcases hk with rfl | rfl | rfl <;> (simp [textOf]; try (intro h; simp [h] at hn2))
      omega

/-! ### a word's text, read -/

/-- From place i on, behind the word w: the word, the place, the error. -/
def parseGo (ss : List (List Int × Int)) (l : List Int) : Nat → Nat → List Int → List Int × Int × Int
  | 0, _, w => (w, 0, 0)
  | n + 1, i, w =>
    match l[i]? with
    | none => (w, 0, 0)
    | some b =>
      if b = 32 then parseGo ss l n (i + 1) w
      else match readF (pieceF l i) with
        | none => ([], i, 1)
        | some x => match findGo x ss 0 with
          | none => ([], i, 6)
          | some j => parseGo ss l n (i + (pieceF l i).length) (w ++ [(j : Int)])

def parseF (ss : List (List Int × Int)) (l : List Int) : List Int × Int × Int :=
  if 2000 < l.length then ([], 0, 2) else parseGo ss l (l.length + 1) 0 []

theorem pieceF_pos {l : List Int} {i : Nat} {b : Int} (h : l[i]? = some b) (hb : b ≠ 32) : 0 < (pieceF l i).length ∧ i + (pieceF l i).length ≤ l.length := by
  have hlt := (List.getElem?_eq_some_iff.1 h).1
  unfold pieceF
  have e : l.drop i = b :: l.drop (i + 1) := by rw [List.drop_eq_getElem_cons hlt]; congr 1; exact (List.getElem?_eq_some_iff.1 h).2
  constructor
  · rw [e, List.takeWhile_cons, if_pos (by simpa using hb)]; simp
  · have := (List.takeWhile_sublist (fun b => decide (b ≠ 32)) (l := l.drop i)).length_le
    rw [List.length_drop] at this
    omega

/-- Any fuel will do. -/
theorem parseGo_fuel (ss : List (List Int × Int)) (l : List Int) : ∀ (n m i : Nat) (w : List Int), l.length < n + i → l.length < m + i → parseGo ss l n i w = parseGo ss l m i w := by
  intro n
  induction n with
  | zero =>
    intro m i w h1 h2
    cases m with
    | zero => rfl
    | succ m => simp only [parseGo]; rw [List.getElem?_eq_none (by omega)]
  | succ n ih =>
    intro m i w h1 h2
    cases m with
    | zero => simp only [parseGo]; rw [List.getElem?_eq_none (by omega)]
    | succ m =>
      simp only [parseGo]
      cases hb : l[i]? with
      | none => rfl
      | some b =>
        simp only
        split
        · exact ih m (i + 1) w (by omega) (by omega)
        · rename_i hne
          have := pieceF_pos hb hne
          split
          · rfl
          · split
            · rfl
            · exact ih m _ _ (by omega) (by omega)

def parseAt (ss : List (List Int × Int)) (l : List Int) (i : Nat) (w : List Int) : List Int × Int × Int := parseGo ss l (l.length + 1) i w

theorem parseAt_end {ss : List (List Int × Int)} {l : List Int} {i : Nat} {w : List Int} (h : l.length ≤ i) : parseAt ss l i w = (w, 0, 0) := by
  unfold parseAt
  simp only [parseGo]
  rw [List.getElem?_eq_none h]
theorem parseAt_blank {ss : List (List Int × Int)} {l : List Int} {i : Nat} {w : List Int} (h : l[i]? = some 32) : parseAt ss l i w = parseAt ss l (i + 1) w := by
  unfold parseAt
  have hlt := (List.getElem?_eq_some_iff.1 h).1
  rw [parseGo, h]
  simp only [if_true]
  exact parseGo_fuel ss l _ _ _ _ (by omega) (by omega)
theorem parseAt_piece {ss : List (List Int × Int)} {l : List Int} {i : Nat} {w : List Int} {b : Int} (h : l[i]? = some b) (hb : b ≠ 32) : parseAt ss l i w = match readF (pieceF l i) with
        | none => ([], i, 1)
        | some x => match findGo x ss 0 with
          | none => ([], i, 6)
          | some j => parseAt ss l (i + (pieceF l i).length) (w ++ [(j : Int)]) := by
  unfold parseAt
  have hlt := (List.getElem?_eq_some_iff.1 h).1
  have hp := pieceF_pos h hb
  rw [parseGo, h]
  simp only [hb, if_false]
  split
  · rfl
  · split
    · rfl
    · exact parseGo_fuel ss l _ _ _ _ (by omega) (by omega)

end Go.Proofs.Ytngekapiemkgnaa
/-
  Chapter 1: the program's reader of a word's text: blanks passed over, a symbol's text read.
-/
namespace Go.Proofs.Ytngekapiemkgnaa
set_option linter.unusedSimpArgs false
set_option linter.unusedVariables false
open Go.Am Go.RowKit
attribute [local irreducible] aop OpsL Trip blockExit OpsD

/-- The first place from i on where no blank stands. -/
def skipF (l : List Int) (i : Nat) : Nat := i + ((l.drop i).takeWhile fun b => decide (b = 32)).length

theorem skipF_blank {l : List Int} {i : Nat} (h : classF l i = 1) : l[i]? = some 32 ∧ i < l.length ∧ skipF l i = skipF l (i + 1) := by
  unfold classF at h
  cases hb : l[i]? with
  | none => rw [hb] at h; simp at h
  | some b =>
    rw [hb] at h
    have hb32 := classI_blank.1 h
    subst hb32
    have hlt := (List.getElem?_eq_some_iff.1 hb).1
    refine ⟨rfl, hlt, ?_⟩
    unfold skipF
    have e : l.drop i = 32 :: l.drop (i + 1) := by rw [List.drop_eq_getElem_cons hlt]; congr 1; exact (List.getElem?_eq_some_iff.1 hb).2
    rw [e, List.takeWhile_cons, if_pos (by simp), List.length_cons]
    omega

theorem skipF_else {l : List Int} {i : Nat} (h : classF l i ≠ 1) : skipF l i = i := by
  unfold classF at h
  unfold skipF
  cases hb : l[i]? with
  | none => rw [List.drop_eq_nil_of_le (List.getElem?_eq_none_iff.1 hb)]; simp
  | some b =>
    rw [hb] at h
    have hb32 : b ≠ 32 := fun e => h (classI_blank.2 e)
    have hlt := (List.getElem?_eq_some_iff.1 hb).1
    have e : l.drop i = b :: l.drop (i + 1) := by rw [List.drop_eq_getElem_cons hlt]; congr 1; exact (List.getElem?_eq_some_iff.1 hb).2
    rw [e, List.takeWhile_cons, if_neg (by simpa using hb32)]
    rfl

theorem skipF_le {l : List Int} {i : Nat} (h : i ≤ l.length) : i ≤ skipF l i ∧ skipF l i ≤ l.length := by
  unfold skipF
  have := (List.takeWhile_sublist (fun b => decide (b = 32)) (l := l.drop i)).length_le
  rw [List.length_drop] at this
  omega

theorem skipF_end {l : List Int} (i : Nat) : classF l (skipF l i) ≠ 1 := by
  have : ∀ n i, l.length - i ≤ n → classF l (skipF l i) ≠ 1 := by
    intro n
    induction n with
    | zero =>
      intro i hn h
      by_cases hc : classF l i = 1
      · have := (skipF_blank hc).2.1; omega
      · rw [skipF_else hc] at h; exact hc h
    | succ n ih =>
      intro i hn
      by_cases hc : classF l i = 1
      · obtain ⟨_, hlt, e⟩ := skipF_blank hc
        rw [e]
        exact ih (i + 1) (by omega)
      · rw [skipF_else hc]; exact hc
  exact this (l.length - i) i (Nat.le_refl _)

theorem parseAt_skip {ss : List (List Int × Int)} {l : List Int} {w : List Int} (i : Nat) : parseAt ss l (skipF l i) w = parseAt ss l i w := by
  have : ∀ n i, l.length - i ≤ n → parseAt ss l (skipF l i) w = parseAt ss l i w := by
    intro n
    induction n with
    | zero =>
      intro i hn
      by_cases hc : classF l i = 1
      · have := (skipF_blank hc).2.1; omega
      · rw [skipF_else hc]
    | succ n ih =>
      intro i hn
      by_cases hc : classF l i = 1
      · obtain ⟨hb, hlt, e⟩ := skipF_blank hc
        rw [e, ih (i + 1) (by omega), ← parseAt_blank hb]
      · rw [skipF_else hc]
  exact this (l.length - i) i (Nat.le_refl _)

theorem entersSkip : Enters Try.prog 27 := ⟨Try.f27, Try.func27, by kernel_rfl, by kernel_rfl⟩

set_option maxRecDepth 20000 in
set_option maxHeartbeats 4000000 in
theorem skipC (W0 : World) {nx : Nat} {H : Heap} {s : ByteArray} {i : Nat} (hs : (bs s).length ≤ 9223372036854775806) (hi : i ≤ (bs s).length) :
    ACalls Try.prog W0 27 [.string s, .int .i64 i] nx H fun v nx' H' => v = .int .i64 (skipF (bs s) i) ∧ nx' = nx ∧ H' = H := by
  refine ACalls.by_trip (fn := Try.f27) (c := _) Try.func27 rfl (fun tm n hn0 htm => ?_)
  have e0 : tm 0 = .string s := htm 0
  have e1 : tm 1 = .int .i64 i := htm 1
  clear htm
  replace hn0 : n = 12 := hn0
  repeat (first | (refine OpsL.p (by subst_vars; decide) (by (first | (exact aop_assign (by (first | (simp only [ASt.ev, tmPut, ↓reduceIte, reduceIte, Nat.reduceEqDiff, plain1, *]; rfl) | fail))) | fail)) ?_) | (refine Trip.seq ?_) | (refine Trip.ops ?_) | (refine Trip.block ?_) | (refine OpsL.nil ?_; ((repeat (first | refine blockExit_eq ?_ | refine blockExit_ne (by decide) ?_ | refine blockExit_normal ?_ | refine blockExit_ret ?_ | refine blockExit_goto ?_)); first | (change Trip _ _ _ _ _) | dsimp only | skip)) | fail)
  refine Trip.inv (fun (j : Nat) st => ∃ tm : Nat → Value, st = ⟨tm, n, H, nx⟩ ∧ tm 0 = .string s ∧ tm 1 = .int .i64 j ∧ j ≤ (bs s).length ∧ skipF (bs s) i = skipF (bs s) j) (fun j => (bs s).length - j) i ?_ ?_
  · exact ⟨_, rfl, e0, e1, hi, rfl⟩
  · rintro j st ⟨tm, rfl, e0, e1, hj, hsk⟩
    repeat (first | (refine OpsL.p (by subst_vars; decide) (by (first | (exact aop_move (by (first | (simp only [ASt.ev, tmPut, ↓reduceIte, reduceIte, Nat.reduceEqDiff, plain1, *]; rfl) | fail))) | fail)) ?_) | (refine Trip.seq ?_) | (refine Trip.ops ?_) | fail)
    refine OpsL.call2 (by subst_vars; decide) (by (first | (simp only [ASt.ev, tmPut, ↓reduceIte, reduceIte, Nat.reduceEqDiff, plain1, *]; rfl) | fail)) (by (first | (simp only [ASt.ev, tmPut, ↓reduceIte, reduceIte, Nat.reduceEqDiff, plain1, *]; rfl) | fail)) entersClass (classC W0) ?_
    rintro v nx1 H1 ⟨rfl, rfl, rfl⟩
    repeat' (first | (refine OpsL.p (by subst_vars; decide) (by (first | (exact aop_move (by (first | (simp only [ASt.ev, tmPut, ↓reduceIte, reduceIte, Nat.reduceEqDiff, plain1, *]; rfl) | fail))) | (exact aop_assign (by (first | (simp only [ASt.ev, tmPut, ↓reduceIte, reduceIte, Nat.reduceEqDiff, plain1, *]; rfl) | fail))) | (exact aop_eql (by (first | (simp only [ASt.ev, tmPut, ↓reduceIte, reduceIte, Nat.reduceEqDiff, plain1, *]; rfl) | fail)) (by (first | (simp only [ASt.ev, tmPut, ↓reduceIte, reduceIte, Nat.reduceEqDiff, plain1, *]; rfl) | fail))) | (exact aop_add (by (first | (simp only [ASt.ev, tmPut, ↓reduceIte, reduceIte, Nat.reduceEqDiff, plain1, *]; rfl) | fail)) (by (first | (simp only [ASt.ev, tmPut, ↓reduceIte, reduceIte, Nat.reduceEqDiff, plain1, *]; rfl) | fail)) (by omega)) | fail)) ?_) | (refine Trip.seq ?_) | (refine Trip.ops ?_) | (refine Trip.block ?_) | (refine Trip.ite (by (first | (simp only [ASt.ev, tmPut, ↓reduceIte, reduceIte, Nat.reduceEqDiff, plain1, *]; rfl) | fail)) (fun _ => ?_) (fun _ => ?_)) | (refine Trip.skip ?_; ((repeat (first | refine blockExit_eq ?_ | refine blockExit_ne (by decide) ?_ | refine blockExit_normal ?_ | refine blockExit_ret ?_ | refine blockExit_goto ?_)); first | (change Trip _ _ _ _ _) | dsimp only | skip)) | (refine Trip.exit ?_; ((repeat (first | refine blockExit_eq ?_ | refine blockExit_ne (by decide) ?_ | refine blockExit_normal ?_ | refine blockExit_ret ?_ | refine blockExit_goto ?_)); first | (change Trip _ _ _ _ _) | dsimp only | skip)) | (refine Trip.ret ?_; ((repeat (first | refine blockExit_eq ?_ | refine blockExit_ne (by decide) ?_ | refine blockExit_normal ?_ | refine blockExit_ret ?_ | refine blockExit_goto ?_)); first | (change Trip _ _ _ _ _) | dsimp only | skip)) | (refine OpsL.nil ?_; ((repeat (first | refine blockExit_eq ?_ | refine blockExit_ne (by decide) ?_ | refine blockExit_normal ?_ | refine blockExit_ret ?_ | refine blockExit_goto ?_)); first | (change Trip _ _ _ _ _) | dsimp only | skip)) | fail)
    · rename_i hc
      obtain ⟨_, hlt, e⟩ := skipF_blank hc
      refine ⟨j + 1, ⟨_, rfl, e0, by simp [tmPut], by omega, by rw [hsk, e]⟩, by omega⟩
    · rename_i hc
      refine ⟨.inr rfl, _, res_tmp, ?_, rfl, rfl⟩
      rw [hsk, skipF_else hc]
      simp [tmPut, e1]

/-! ### the reader of a symbol's text: its parts by their labels -/

noncomputable def scopeOf : Code → Code
  | .seq _ c => scopeOf c
  | .scope b => b
  | c => c
noncomputable def scB : Code := scopeOf (bodyOf Try.f28)
noncomputable def scL (l : Nat) : Code := (findLabel scB l).getD .skip
theorem scB_find (l : Nat) (h : l < 4) : findLabel scB l = some (scL l) := by
  rcases (by omega : l = 0 ∨ l = 1 ∨ l = 2 ∨ l = 3) with rfl | rfl | rfl | rfl <;> kernel_rfl

/-- What is told of a symbol's text. -/
def scanV (s : ByteArray) (x : Option (Nat × Nat × Int × Nat)) : Value :=
  match x with
  | some (a, b, k, c) => .tuple #[.agg #[.string (esubstr s a b), .int .i64 k], .int .i64 c, .bool true]
  | none => .tuple #[.agg #[.string ⟨#[]⟩, .int .i64 0], .int .i64 0, .bool false]

abbrev ScQ (nx : Nat) (H : Heap) (v : Value) : AExit → ASt → Prop := fun x s' => (x = .normal ∨ x = .ret) ∧ ∃ u, aResults Try.prog s' Try.f28.results = some u ∧ u = v ∧ s'.nx = nx + 1 ∧ Ext nx H (nx + 1) s'.H

theorem Scp.of {P : Program} {W0 : World} {b c : Code} {Q : AExit → ASt → Prop} {n : Nat} {st : ASt} (h : Trip P W0 c st fun e s => match e with
    | .goto l => (match findLabel b l with | some rest => Scp P W0 b Q n rest s | none => Q (.goto l) s)
    | e => Q e s) : Scp P W0 b Q (n + 1) c st := h

/-- What follows a part of the scope. -/
abbrev ScK (W0 : World) (N : Nat) (Q : AExit → ASt → Prop) : AExit → ASt → Prop := fun e s => match e with
    | .goto l => (match findLabel scB l with | some rest => Scp Try.prog W0 scB Q N rest s | none => Q (.goto l) s)
    | e => Q e s

def boxAt (nx : Nat) (H : Heap) : Heap := H.put nx (boxO (⟨#[]⟩, 0))

theorem res_c2 {P : Program} {st : ASt} {t : Tmp} {ty : TypeId} {a : Addr} {v : Value} {x y : Tmp} (ht : st.tm t = .pointer (some a)) (hr : readAt P st.H ty a = some v) : aResults P st #[.cell t ty, .tmp x, .tmp y] = some (.tuple #[v, st.tm x, st.tm y]) := by simp [aResults, aResultL, aResult, ht, hr]

set_option maxRecDepth 20000 in
set_option maxHeartbeats 4000000 in
theorem wrongL (W0 : World) {nx : Nat} {H : Heap} {n : Nat} {tm : Nat → Value} (hn : n = 63) (e4 : tm 4 = .pointer (some ⟨nx, 0, none⟩)) (s : ByteArray) (N : Nat) : Scp Try.prog W0 scB (ScQ nx H (scanV s none)) (N + 1) (scL 2) ⟨tm, n, boxAt nx H, nx + 1⟩ := by
  refine Scp.of ?_
  unfold boxAt
  repeat (first | (refine Trip.seq ?_) | (refine Trip.ops ?_) | (refine Trip.skip ?_; ((repeat (first | refine blockExit_eq ?_ | refine blockExit_ne (by decide) ?_ | refine blockExit_normal ?_ | refine blockExit_ret ?_ | refine blockExit_goto ?_)); first | (change Trip _ _ _ _ _) | dsimp only | skip)) | fail)
  refine OpsL.p (by subst_vars; decide) (aop_build (l := []) (by rfl) (by exact rfl)) ?_
  refine OpsL.upd (aop_store (by (first | (simp only [ASt.ev, tmPut, ↓reduceIte, reduceIte, Nat.reduceEqDiff, plain1, *]; rfl) | fail)) (by (first | (simp only [ASt.ev, tmPut, ↓reduceIte, reduceIte, Nat.reduceEqDiff, plain1, *]; rfl) | fail)) (by exact rfl) rfl (by simp [setc, Heap.put_eq, Value.cells, boxO]; exact ⟨⟨rfl, rfl⟩, rfl⟩)) ?_
  repeat (first | (refine OpsL.p (by subst_vars; decide) (by (first | (exact aop_assign (by (first | (simp only [ASt.ev, tmPut, ↓reduceIte, reduceIte, Nat.reduceEqDiff, plain1, *]; rfl) | fail))) | fail)) ?_) | (refine Trip.ret ?_; ((repeat (first | refine blockExit_eq ?_ | refine blockExit_ne (by decide) ?_ | refine blockExit_normal ?_ | refine blockExit_ret ?_ | refine blockExit_goto ?_)); first | (change Trip _ _ _ _ _) | dsimp only | skip)) | (refine OpsL.nil ?_; ((repeat (first | refine blockExit_eq ?_ | refine blockExit_ne (by decide) ?_ | refine blockExit_normal ?_ | refine blockExit_ret ?_ | refine blockExit_goto ?_)); first | (change Trip _ _ _ _ _) | dsimp only | skip)) | fail)
  refine ⟨.inr rfl, _, res_c2 (by (first | (simp only [ASt.ev, tmPut, ↓reduceIte, reduceIte, Nat.reduceEqDiff, plain1, *]; rfl) | fail)) (readAt_agg (k := 2) (by exact rfl) rfl (by exact rfl) (getc_own (by simp))), ?_, rfl, ?_⟩
  · simp [scanV, tmPut]
  · refine ⟨by omega, fun i hi => ?_⟩
    show (Heap.put (Heap.put H nx _) nx _) i = H i
    rw [Heap.put_ne (by omega), Heap.put_ne (by omega)]

theorem aSlice_str {P : Program} {H : Heap} {ty : TypeId} {s : ByteArray} {f t : Nat} (hu : P.underlying ty = some .string) (hf : f ≤ t) (ht : t ≤ (bs s).length) : aSlice P H ty (.string s) (some (.int .i64 f)) (some (.int .i64 t)) none = some (.string (esubstr s f t)) := by
  have hsz : (bs s).length = s.size := by rw [bs_length]; rfl
  have hb : bounds s.size s.size (some (.int .i64 f)) (some (.int .i64 t)) none = some (f, t, s.size) := by
    unfold bounds bound
    simp
    omega
  unfold aSlice
  simp only [hu, hb, Option.isSome_none, Bool.false_eq_true, if_false, Option.map_some]

set_option maxRecDepth 20000 in
set_option maxHeartbeats 4000000 in
theorem behindT (W0 : World) {nx : Nat} {H : Heap} {n : Nat} {tm : Nat → Value} {s : ByteArray} {k : Int} {i f t : Nat} (hn : n = 63) (e0 : tm 0 = .string s) (e4 : tm 4 = .pointer (some ⟨nx, 0, none⟩)) (e7 : tm 7 = .int .i64 k) (e8 : tm 8 = .int .i64 i) (e9 : tm 9 = .int .i64 f) (e10 : tm 10 = .int .i64 t)
    (hf : f ≤ t) (ht : t ≤ (bs s).length) (hs : (bs s).length ≤ 1000000) (N : Nat) :
    Trip Try.prog W0 (tlC (scL 3)) ⟨tm, n, boxAt nx H, nx + 1⟩ (ScK W0 N (ScQ nx H (if endAt (bs s) i ∧ 1 ≤ t - f ∧ t - f ≤ 8 then scanV s (some (f, t, k, i)) else scanV s none))) := by
  unfold boxAt ScK
  repeat (first | (refine OpsL.p (by subst_vars; decide) (by (first | (exact aop_move (by (first | (simp only [ASt.ev, tmPut, ↓reduceIte, reduceIte, Nat.reduceEqDiff, plain1, *]; rfl) | fail))) | fail)) ?_) | (refine Trip.seq ?_) | (refine Trip.ops ?_) | fail)
  refine OpsL.call2 (by subst_vars; decide) (by (first | (simp only [ASt.ev, tmPut, ↓reduceIte, reduceIte, Nat.reduceEqDiff, plain1, *]; rfl) | fail)) (by (first | (simp only [ASt.ev, tmPut, ↓reduceIte, reduceIte, Nat.reduceEqDiff, plain1, *]; rfl) | fail)) entersClass (classC W0) ?_
  rintro v nx1 H1 ⟨rfl, rfl, rfl⟩
  repeat' (first | (refine OpsL.p (by subst_vars; decide) (by (first | (exact aop_move (by (first | (simp only [ASt.ev, tmPut, ↓reduceIte, reduceIte, Nat.reduceEqDiff, plain1, *]; rfl) | fail))) | (exact aop_assign (by (first | (simp only [ASt.ev, tmPut, ↓reduceIte, reduceIte, Nat.reduceEqDiff, plain1, *]; rfl) | fail))) | (exact aop_eql (by (first | (simp only [ASt.ev, tmPut, ↓reduceIte, reduceIte, Nat.reduceEqDiff, plain1, *]; rfl) | fail)) (by (first | (simp only [ASt.ev, tmPut, ↓reduceIte, reduceIte, Nat.reduceEqDiff, plain1, *]; rfl) | fail))) | (exact aop_sub (by (first | (simp only [ASt.ev, tmPut, ↓reduceIte, reduceIte, Nat.reduceEqDiff, plain1, *]; rfl) | fail)) (by (first | (simp only [ASt.ev, tmPut, ↓reduceIte, reduceIte, Nat.reduceEqDiff, plain1, *]; rfl) | fail)) (by omega)) | fail)) ?_) | (refine Trip.seq ?_) | (refine Trip.ops ?_) | (refine Trip.block ?_) | (refine Trip.ite (by (first | (simp only [ASt.ev, tmPut, ↓reduceIte, reduceIte, Nat.reduceEqDiff, plain1, *]; rfl) | fail)) (fun _ => ?_) (fun _ => ?_)) | (refine Trip.skip ?_; ((repeat (first | refine blockExit_eq ?_ | refine blockExit_ne (by decide) ?_ | refine blockExit_normal ?_ | refine blockExit_ret ?_ | refine blockExit_goto ?_)); first | (change Trip _ _ _ _ _) | dsimp only | skip)) | (refine OpsL.nil ?_; ((repeat (first | refine blockExit_eq ?_ | refine blockExit_ne (by decide) ?_ | refine blockExit_normal ?_ | refine blockExit_ret ?_ | refine blockExit_goto ?_)); first | (change Trip _ _ _ _ _) | dsimp only | skip)) | fail)
  · rename_i hc _
    refine OpsL.call1 (by subst_vars; decide) (by (first | (simp only [ASt.ev, tmPut, ↓reduceIte, reduceIte, Nat.reduceEqDiff, plain1, *]; rfl) | fail)) entersNameLong (nameLongC W0) ?_
    rintro v nx1 H1 ⟨rfl, rfl, rfl⟩
    repeat' (first | (refine OpsL.p (by subst_vars; decide) (by (first | (exact aop_move (by (first | (simp only [ASt.ev, tmPut, ↓reduceIte, reduceIte, Nat.reduceEqDiff, plain1, *]; rfl) | fail))) | fail)) ?_) | (refine Trip.seq ?_) | (refine Trip.ops ?_) | (refine Trip.ite (by (first | (simp only [ASt.ev, tmPut, ↓reduceIte, reduceIte, Nat.reduceEqDiff, plain1, *]; rfl) | fail)) (fun _ => ?_) (fun _ => ?_)) | (refine Trip.skip ?_; ((repeat (first | refine blockExit_eq ?_ | refine blockExit_ne (by decide) ?_ | refine blockExit_normal ?_ | refine blockExit_ret ?_ | refine blockExit_goto ?_)); first | (change Trip _ _ _ _ _) | dsimp only | skip)) | (refine OpsL.nil ?_; ((repeat (first | refine blockExit_eq ?_ | refine blockExit_ne (by decide) ?_ | refine blockExit_normal ?_ | refine blockExit_ret ?_ | refine blockExit_goto ?_)); first | (change Trip _ _ _ _ _) | dsimp only | skip)) | fail)
    · rename_i hl
      have hpos : endAt (bs s) i ∧ 1 ≤ t - f ∧ t - f ≤ 8 := by
        refine ⟨Or.inl hc, ?_⟩
        omega
      refine OpsL.p (by subst_vars; decide) (aop_slice (a := some (.int .i64 f)) (b := some (.int .i64 t)) (c := none) (by (first | (simp only [ASt.ev, tmPut, ↓reduceIte, reduceIte, Nat.reduceEqDiff, plain1, *]; done) | fail)) (by simp only [evOpt, ASt.ev, tmPut, ↓reduceIte, reduceIte, Option.some.injEq, Nat.reduceEqDiff, Option.map_some]) (by simp only [evOpt, ASt.ev, tmPut, ↓reduceIte, reduceIte, Option.some.injEq, Nat.reduceEqDiff, Option.map_some]) rfl (aSlice_str (by exact rfl) hf ht)) ?_
      repeat (first | (refine OpsL.p (by subst_vars; decide) (by (first | (exact aop_move (by (first | (simp only [ASt.ev, tmPut, ↓reduceIte, reduceIte, Nat.reduceEqDiff, plain1, *]; rfl) | fail))) | fail)) ?_) | fail)
      refine OpsL.p (by subst_vars; decide) (aop_build (v := .agg #[.string (esubstr s f t), .int .i64 k]) (l := [(0, .string (esubstr s f t)), (1, .int .i64 k)]) (by simp only [evParts, ASt.ev, tmPut, ↓reduceIte, reduceIte, Option.some.injEq, Nat.reduceEqDiff, *]) (by exact rfl)) ?_
      repeat (first | (refine OpsL.p (by subst_vars; decide) (by (first | (exact aop_move (by (first | (simp only [ASt.ev, tmPut, ↓reduceIte, reduceIte, Nat.reduceEqDiff, plain1, *]; rfl) | fail))) | fail)) ?_) | fail)
      refine OpsL.upd (aop_store (by (first | (simp only [ASt.ev, tmPut, ↓reduceIte, reduceIte, Nat.reduceEqDiff, plain1, *]; rfl) | fail)) (by (first | (simp only [ASt.ev, tmPut, ↓reduceIte, reduceIte, Nat.reduceEqDiff, plain1, *]; rfl) | fail)) (by exact rfl) rfl (by simp [setc, Heap.put_eq, Value.cells, boxO]; exact ⟨⟨rfl, rfl⟩, rfl⟩)) ?_
      repeat (first | (refine OpsL.p (by subst_vars; decide) (by (first | (exact aop_assign (by (first | (simp only [ASt.ev, tmPut, ↓reduceIte, reduceIte, Nat.reduceEqDiff, plain1, *]; rfl) | fail))) | fail)) ?_) | (refine Trip.ret ?_; ((repeat (first | refine blockExit_eq ?_ | refine blockExit_ne (by decide) ?_ | refine blockExit_normal ?_ | refine blockExit_ret ?_ | refine blockExit_goto ?_)); first | (change Trip _ _ _ _ _) | dsimp only | skip)) | (refine OpsL.nil ?_; ((repeat (first | refine blockExit_eq ?_ | refine blockExit_ne (by decide) ?_ | refine blockExit_normal ?_ | refine blockExit_ret ?_ | refine blockExit_goto ?_)); first | (change Trip _ _ _ _ _) | dsimp only | skip)) | fail)
      refine ⟨.inr rfl, _, res_c2 (by (first | (simp only [ASt.ev, tmPut, ↓reduceIte, reduceIte, Nat.reduceEqDiff, plain1, *]; rfl) | fail)) (readAt_agg (k := 2) (by exact rfl) rfl (by exact rfl) (getc_own (by simp))), ?_, rfl, by omega, fun i hi => ?_⟩
      · rw [if_pos hpos]; simp [scanV, tmPut]
      · show (Heap.put (Heap.put H nx _) nx _) i = H i
        rw [Heap.put_ne (by omega), Heap.put_ne (by omega)]
    · rename_i hl
      have hneg : ¬ (endAt (bs s) i ∧ 1 ≤ t - f ∧ t - f ≤ 8) := by
        intro h; omega
      refine Trip.label ?_
      ((repeat (first | refine blockExit_eq ?_ | refine blockExit_ne (by decide) ?_ | refine blockExit_normal ?_ | refine blockExit_ret ?_ | refine blockExit_goto ?_)); first | (change Trip _ _ _ _ _) | dsimp only | skip)
      repeat (first | (refine Trip.seq ?_) | (refine Trip.ops ?_) | fail)
      refine OpsL.p (by subst_vars; decide) (aop_build (l := []) (by rfl) (by exact rfl)) ?_
      refine OpsL.upd (aop_store (by (first | (simp only [ASt.ev, tmPut, ↓reduceIte, reduceIte, Nat.reduceEqDiff, plain1, *]; rfl) | fail)) (by (first | (simp only [ASt.ev, tmPut, ↓reduceIte, reduceIte, Nat.reduceEqDiff, plain1, *]; rfl) | fail)) (by exact rfl) rfl (by simp [setc, Heap.put_eq, Value.cells, boxO]; exact ⟨⟨rfl, rfl⟩, rfl⟩)) ?_
      repeat (first | (refine OpsL.p (by subst_vars; decide) (by (first | (exact aop_assign (by (first | (simp only [ASt.ev, tmPut, ↓reduceIte, reduceIte, Nat.reduceEqDiff, plain1, *]; rfl) | fail))) | fail)) ?_) | (refine Trip.ret ?_; ((repeat (first | refine blockExit_eq ?_ | refine blockExit_ne (by decide) ?_ | refine blockExit_normal ?_ | refine blockExit_ret ?_ | refine blockExit_goto ?_)); first | (change Trip _ _ _ _ _) | dsimp only | skip)) | (refine OpsL.nil ?_; ((repeat (first | refine blockExit_eq ?_ | refine blockExit_ne (by decide) ?_ | refine blockExit_normal ?_ | refine blockExit_ret ?_ | refine blockExit_goto ?_)); first | (change Trip _ _ _ _ _) | dsimp only | skip)) | fail)
      refine ⟨.inr rfl, _, res_c2 (by (first | (simp only [ASt.ev, tmPut, ↓reduceIte, reduceIte, Nat.reduceEqDiff, plain1, *]; rfl) | fail)) (readAt_agg (k := 2) (by exact rfl) rfl (by exact rfl) (getc_own (by simp))), ?_, rfl, by omega, fun i hi => ?_⟩
      · rw [if_neg hneg]; simp [scanV, tmPut]
      · show (Heap.put (Heap.put H nx _) nx _) i = H i
        rw [Heap.put_ne (by omega), Heap.put_ne (by omega)]
  · rename_i hc hx
    exact absurd trivial hx
  · rename_i hc0 hc
    refine OpsL.call1 (by subst_vars; decide) (by (first | (simp only [ASt.ev, tmPut, ↓reduceIte, reduceIte, Nat.reduceEqDiff, plain1, *]; rfl) | fail)) entersNameLong (nameLongC W0) ?_
    rintro v nx1 H1 ⟨rfl, rfl, rfl⟩
    repeat' (first | (refine OpsL.p (by subst_vars; decide) (by (first | (exact aop_move (by (first | (simp only [ASt.ev, tmPut, ↓reduceIte, reduceIte, Nat.reduceEqDiff, plain1, *]; rfl) | fail))) | fail)) ?_) | (refine Trip.seq ?_) | (refine Trip.ops ?_) | (refine Trip.ite (by (first | (simp only [ASt.ev, tmPut, ↓reduceIte, reduceIte, Nat.reduceEqDiff, plain1, *]; rfl) | fail)) (fun _ => ?_) (fun _ => ?_)) | (refine Trip.skip ?_; ((repeat (first | refine blockExit_eq ?_ | refine blockExit_ne (by decide) ?_ | refine blockExit_normal ?_ | refine blockExit_ret ?_ | refine blockExit_goto ?_)); first | (change Trip _ _ _ _ _) | dsimp only | skip)) | (refine OpsL.nil ?_; ((repeat (first | refine blockExit_eq ?_ | refine blockExit_ne (by decide) ?_ | refine blockExit_normal ?_ | refine blockExit_ret ?_ | refine blockExit_goto ?_)); first | (change Trip _ _ _ _ _) | dsimp only | skip)) | fail)
    · rename_i hl
      have hpos : endAt (bs s) i ∧ 1 ≤ t - f ∧ t - f ≤ 8 := by
        refine ⟨Or.inr hc, ?_⟩
        omega
      refine OpsL.p (by subst_vars; decide) (aop_slice (a := some (.int .i64 f)) (b := some (.int .i64 t)) (c := none) (by (first | (simp only [ASt.ev, tmPut, ↓reduceIte, reduceIte, Nat.reduceEqDiff, plain1, *]; done) | fail)) (by simp only [evOpt, ASt.ev, tmPut, ↓reduceIte, reduceIte, Option.some.injEq, Nat.reduceEqDiff, Option.map_some]) (by simp only [evOpt, ASt.ev, tmPut, ↓reduceIte, reduceIte, Option.some.injEq, Nat.reduceEqDiff, Option.map_some]) rfl (aSlice_str (by exact rfl) hf ht)) ?_
      repeat (first | (refine OpsL.p (by subst_vars; decide) (by (first | (exact aop_move (by (first | (simp only [ASt.ev, tmPut, ↓reduceIte, reduceIte, Nat.reduceEqDiff, plain1, *]; rfl) | fail))) | fail)) ?_) | fail)
      refine OpsL.p (by subst_vars; decide) (aop_build (v := .agg #[.string (esubstr s f t), .int .i64 k]) (l := [(0, .string (esubstr s f t)), (1, .int .i64 k)]) (by simp only [evParts, ASt.ev, tmPut, ↓reduceIte, reduceIte, Option.some.injEq, Nat.reduceEqDiff, *]) (by exact rfl)) ?_
      repeat (first | (refine OpsL.p (by subst_vars; decide) (by (first | (exact aop_move (by (first | (simp only [ASt.ev, tmPut, ↓reduceIte, reduceIte, Nat.reduceEqDiff, plain1, *]; rfl) | fail))) | fail)) ?_) | fail)
      refine OpsL.upd (aop_store (by (first | (simp only [ASt.ev, tmPut, ↓reduceIte, reduceIte, Nat.reduceEqDiff, plain1, *]; rfl) | fail)) (by (first | (simp only [ASt.ev, tmPut, ↓reduceIte, reduceIte, Nat.reduceEqDiff, plain1, *]; rfl) | fail)) (by exact rfl) rfl (by simp [setc, Heap.put_eq, Value.cells, boxO]; exact ⟨⟨rfl, rfl⟩, rfl⟩)) ?_
      repeat (first | (refine OpsL.p (by subst_vars; decide) (by (first | (exact aop_assign (by (first | (simp only [ASt.ev, tmPut, ↓reduceIte, reduceIte, Nat.reduceEqDiff, plain1, *]; rfl) | fail))) | fail)) ?_) | (refine Trip.ret ?_; ((repeat (first | refine blockExit_eq ?_ | refine blockExit_ne (by decide) ?_ | refine blockExit_normal ?_ | refine blockExit_ret ?_ | refine blockExit_goto ?_)); first | (change Trip _ _ _ _ _) | dsimp only | skip)) | (refine OpsL.nil ?_; ((repeat (first | refine blockExit_eq ?_ | refine blockExit_ne (by decide) ?_ | refine blockExit_normal ?_ | refine blockExit_ret ?_ | refine blockExit_goto ?_)); first | (change Trip _ _ _ _ _) | dsimp only | skip)) | fail)
      refine ⟨.inr rfl, _, res_c2 (by (first | (simp only [ASt.ev, tmPut, ↓reduceIte, reduceIte, Nat.reduceEqDiff, plain1, *]; rfl) | fail)) (readAt_agg (k := 2) (by exact rfl) rfl (by exact rfl) (getc_own (by simp))), ?_, rfl, by omega, fun i hi => ?_⟩
      · rw [if_pos hpos]; simp [scanV, tmPut]
      · show (Heap.put (Heap.put H nx _) nx _) i = H i
        rw [Heap.put_ne (by omega), Heap.put_ne (by omega)]
    · rename_i hl
      have hneg : ¬ (endAt (bs s) i ∧ 1 ≤ t - f ∧ t - f ≤ 8) := by
        intro h; omega
      refine Trip.label ?_
      ((repeat (first | refine blockExit_eq ?_ | refine blockExit_ne (by decide) ?_ | refine blockExit_normal ?_ | refine blockExit_ret ?_ | refine blockExit_goto ?_)); first | (change Trip _ _ _ _ _) | dsimp only | skip)
      repeat (first | (refine Trip.seq ?_) | (refine Trip.ops ?_) | fail)
      refine OpsL.p (by subst_vars; decide) (aop_build (l := []) (by rfl) (by exact rfl)) ?_
      refine OpsL.upd (aop_store (by (first | (simp only [ASt.ev, tmPut, ↓reduceIte, reduceIte, Nat.reduceEqDiff, plain1, *]; rfl) | fail)) (by (first | (simp only [ASt.ev, tmPut, ↓reduceIte, reduceIte, Nat.reduceEqDiff, plain1, *]; rfl) | fail)) (by exact rfl) rfl (by simp [setc, Heap.put_eq, Value.cells, boxO]; exact ⟨⟨rfl, rfl⟩, rfl⟩)) ?_
      repeat (first | (refine OpsL.p (by subst_vars; decide) (by (first | (exact aop_assign (by (first | (simp only [ASt.ev, tmPut, ↓reduceIte, reduceIte, Nat.reduceEqDiff, plain1, *]; rfl) | fail))) | fail)) ?_) | (refine Trip.ret ?_; ((repeat (first | refine blockExit_eq ?_ | refine blockExit_ne (by decide) ?_ | refine blockExit_normal ?_ | refine blockExit_ret ?_ | refine blockExit_goto ?_)); first | (change Trip _ _ _ _ _) | dsimp only | skip)) | (refine OpsL.nil ?_; ((repeat (first | refine blockExit_eq ?_ | refine blockExit_ne (by decide) ?_ | refine blockExit_normal ?_ | refine blockExit_ret ?_ | refine blockExit_goto ?_)); first | (change Trip _ _ _ _ _) | dsimp only | skip)) | fail)
      refine ⟨.inr rfl, _, res_c2 (by (first | (simp only [ASt.ev, tmPut, ↓reduceIte, reduceIte, Nat.reduceEqDiff, plain1, *]; rfl) | fail)) (readAt_agg (k := 2) (by exact rfl) rfl (by exact rfl) (getc_own (by simp))), ?_, rfl, by omega, fun i hi => ?_⟩
      · rw [if_neg hneg]; simp [scanV, tmPut]
      · show (Heap.put (Heap.put H nx _) nx _) i = H i
        rw [Heap.put_ne (by omega), Heap.put_ne (by omega)]
  · rename_i hc0 hc
    have hneg : ¬ (endAt (bs s) i ∧ 1 ≤ t - f ∧ t - f ≤ 8) := by
      rintro ⟨h1 | h1, _⟩ <;> omega
    refine Trip.label ?_
    ((repeat (first | refine blockExit_eq ?_ | refine blockExit_ne (by decide) ?_ | refine blockExit_normal ?_ | refine blockExit_ret ?_ | refine blockExit_goto ?_)); first | (change Trip _ _ _ _ _) | dsimp only | skip)
    repeat (first | (refine Trip.seq ?_) | (refine Trip.ops ?_) | fail)
    refine OpsL.p (by subst_vars; decide) (aop_build (l := []) (by rfl) (by exact rfl)) ?_
    refine OpsL.upd (aop_store (by (first | (simp only [ASt.ev, tmPut, ↓reduceIte, reduceIte, Nat.reduceEqDiff, plain1, *]; rfl) | fail)) (by (first | (simp only [ASt.ev, tmPut, ↓reduceIte, reduceIte, Nat.reduceEqDiff, plain1, *]; rfl) | fail)) (by exact rfl) rfl (by simp [setc, Heap.put_eq, Value.cells, boxO]; exact ⟨⟨rfl, rfl⟩, rfl⟩)) ?_
    repeat (first | (refine OpsL.p (by subst_vars; decide) (by (first | (exact aop_assign (by (first | (simp only [ASt.ev, tmPut, ↓reduceIte, reduceIte, Nat.reduceEqDiff, plain1, *]; rfl) | fail))) | fail)) ?_) | (refine Trip.ret ?_; ((repeat (first | refine blockExit_eq ?_ | refine blockExit_ne (by decide) ?_ | refine blockExit_normal ?_ | refine blockExit_ret ?_ | refine blockExit_goto ?_)); first | (change Trip _ _ _ _ _) | dsimp only | skip)) | (refine OpsL.nil ?_; ((repeat (first | refine blockExit_eq ?_ | refine blockExit_ne (by decide) ?_ | refine blockExit_normal ?_ | refine blockExit_ret ?_ | refine blockExit_goto ?_)); first | (change Trip _ _ _ _ _) | dsimp only | skip)) | fail)
    refine ⟨.inr rfl, _, res_c2 (by (first | (simp only [ASt.ev, tmPut, ↓reduceIte, reduceIte, Nat.reduceEqDiff, plain1, *]; rfl) | fail)) (readAt_agg (k := 2) (by exact rfl) rfl (by exact rfl) (getc_own (by simp))), ?_, rfl, by omega, fun i hi => ?_⟩
    · rw [if_neg hneg]; simp [scanV, tmPut]
    · show (Heap.put (Heap.put H nx _) nx _) i = H i
      rw [Heap.put_ne (by omega), Heap.put_ne (by omega)]

theorem runF_letter {l : List Int} {i : Nat} (h : classF l i = 2) : i < l.length ∧ runF l i = runF l (i + 1) + 1 := by
  unfold classF at h
  cases hb : l[i]? with
  | none => rw [hb] at h; simp at h
  | some b =>
    rw [hb] at h
    have hL : isL b = true := isL_iff.2 (classI_letter.1 h)
    have hlt := (List.getElem?_eq_some_iff.1 hb).1
    have e : l.drop i = b :: l.drop (i + 1) := by rw [List.drop_eq_getElem_cons hlt]; congr 1; exact (List.getElem?_eq_some_iff.1 hb).2
    refine ⟨hlt, ?_⟩
    unfold runF
    rw [e, List.takeWhile_cons, if_pos hL, List.length_cons]

theorem runF_other {l : List Int} {i : Nat} (h : classF l i ≠ 2) : runF l i = 0 := by
  unfold classF at h
  unfold runF
  cases hb : l[i]? with
  | none => rw [List.drop_eq_nil_of_le (List.getElem?_eq_none_iff.1 hb)]; rfl
  | some b =>
    rw [hb] at h
    have hL : isL b = false := by
      cases hq : isL b with
      | false => rfl
      | true => exact absurd (classI_letter.2 (isL_iff.1 hq)) h
    have hlt := (List.getElem?_eq_some_iff.1 hb).1
    have e : l.drop i = b :: l.drop (i + 1) := by rw [List.drop_eq_getElem_cons hlt]; congr 1; exact (List.getElem?_eq_some_iff.1 hb).2
    rw [e, List.takeWhile_cons, if_neg (by rw [hL]; decide)]
    rfl

/-- What is told of letters up to j, behind what opens. -/
def nameV (s : ByteArray) (k : Int) (f j : Nat) : Value :=
  if k = 3 then (if endAt (bs s) j ∧ 1 ≤ j - f ∧ j - f ≤ 8 then scanV s (some (f, j, 3, j)) else scanV s none)
  else if classF (bs s) j = 5 then (if endAt (bs s) (j + 1) ∧ 1 ≤ j - f ∧ j - f ≤ 8 then scanV s (some (f, j, k, j + 1)) else scanV s none)
  else scanV s none

theorem scK_goto {W0 : World} {N : Nat} {Q : AExit → ASt → Prop} {l : Nat} {st : ASt} (hl : l < 4) (h : Scp Try.prog W0 scB Q N (scL l) st) : ScK W0 N Q (.goto l) st := by
  show (match findLabel scB l with | some rest => Scp Try.prog W0 scB Q N rest st | none => Q (.goto l) st)
  rw [scB_find l hl]
  exact h

set_option maxRecDepth 20000 in
set_option maxHeartbeats 4000000 in
theorem nameStep (W0 : World) {nx : Nat} {H : Heap} {n : Nat} {tm : Nat → Value} {s : ByteArray} {k : Int} {f i : Nat} (hn : n = 63) (hs : (bs s).length ≤ 1000000) (e0 : tm 0 = .string s) (e4 : tm 4 = .pointer (some ⟨nx, 0, none⟩)) (e7 : tm 7 = .int .i64 k) (e8 : tm 8 = .int .i64 i) (e9 : tm 9 = .int .i64 f)
    (hf : f ≤ i) (hi : i ≤ (bs s).length) (N : Nat)
    (hnext : classF (bs s) i = 2 → ∀ tm' : Nat → Value, tm' 0 = .string s → tm' 4 = .pointer (some ⟨nx, 0, none⟩) → tm' 7 = .int .i64 k → tm' 8 = .int .i64 ((i + 1 : Nat) : Int) → tm' 9 = .int .i64 f → Scp Try.prog W0 scB (ScQ nx H (nameV s k f (i + runF (bs s) i))) (N + 1) (scL 1) ⟨tm', n, boxAt nx H, nx + 1⟩) :
    Trip Try.prog W0 (tlC (scL 1)) ⟨tm, n, boxAt nx H, nx + 1⟩ (ScK W0 (N + 1) (ScQ nx H (nameV s k f (i + runF (bs s) i)))) := by
  unfold ScK
  repeat (first | (refine OpsL.p (by subst_vars; decide) (by (first | (exact aop_move (by (first | (simp only [ASt.ev, tmPut, ↓reduceIte, reduceIte, Nat.reduceEqDiff, plain1, *]; rfl) | fail))) | fail)) ?_) | (refine Trip.seq ?_) | (refine Trip.ops ?_) | fail)
  refine OpsL.call2 (by subst_vars; decide) (by (first | (simp only [ASt.ev, tmPut, ↓reduceIte, reduceIte, Nat.reduceEqDiff, plain1, *]; rfl) | fail)) (by (first | (simp only [ASt.ev, tmPut, ↓reduceIte, reduceIte, Nat.reduceEqDiff, plain1, *]; rfl) | fail)) entersClass (classC W0) ?_
  rintro v nx1 H1 ⟨rfl, rfl, rfl⟩
  repeat' (first | (refine OpsL.p (by subst_vars; decide) (by (first | (exact aop_move (by (first | (simp only [ASt.ev, tmPut, ↓reduceIte, reduceIte, Nat.reduceEqDiff, plain1, *]; rfl) | fail))) | (exact aop_assign (by (first | (simp only [ASt.ev, tmPut, ↓reduceIte, reduceIte, Nat.reduceEqDiff, plain1, *]; rfl) | fail))) | (exact aop_eql (by (first | (simp only [ASt.ev, tmPut, ↓reduceIte, reduceIte, Nat.reduceEqDiff, plain1, *]; rfl) | fail)) (by (first | (simp only [ASt.ev, tmPut, ↓reduceIte, reduceIte, Nat.reduceEqDiff, plain1, *]; rfl) | fail))) | (exact aop_add (by (first | (simp only [ASt.ev, tmPut, ↓reduceIte, reduceIte, Nat.reduceEqDiff, plain1, *]; rfl) | fail)) (by (first | (simp only [ASt.ev, tmPut, ↓reduceIte, reduceIte, Nat.reduceEqDiff, plain1, *]; rfl) | fail)) (by omega)) | fail)) ?_) | (refine Trip.seq ?_) | (refine Trip.ops ?_) | (refine Trip.ite (by (first | (simp only [ASt.ev, tmPut, ↓reduceIte, reduceIte, Nat.reduceEqDiff, plain1, *]; rfl) | fail)) (fun _ => ?_) (fun _ => ?_)) | (refine Trip.skip ?_; ((repeat (first | refine blockExit_eq ?_ | refine blockExit_ne (by decide) ?_ | refine blockExit_normal ?_ | refine blockExit_ret ?_ | refine blockExit_goto ?_)); first | (change Trip _ _ _ _ _) | dsimp only | skip)) | (refine OpsL.nil ?_; ((repeat (first | refine blockExit_eq ?_ | refine blockExit_ne (by decide) ?_ | refine blockExit_normal ?_ | refine blockExit_ret ?_ | refine blockExit_goto ?_)); first | (change Trip _ _ _ _ _) | dsimp only | skip)) | fail)
  · rename_i hc
    refine Trip.goto (scK_goto (l := 1) (by omega) (hnext hc _ ?_ ?_ ?_ ?_ ?_))
    all_goals simp [tmPut, *]
  · rename_i hc hk
    have hj : i + runF (bs s) i = i := by rw [runF_other hc]; rfl
    refine Trip.goto (scK_goto (l := 3) (by omega) ?_)
    refine Scp.of (Trip.seq (Trip.skip ?_))
    rw [hj]
    unfold nameV
    rw [if_pos hk]
    refine behindT W0 (s := s) (k := 3) (i := i) (f := f) (t := i) hn ?_ ?_ ?_ ?_ ?_ ?_ hf hi hs N
    all_goals simp [tmPut, *]
  · rename_i hc hk
    have hj : i + runF (bs s) i = i := by rw [runF_other hc]; rfl
    refine OpsL.call2 (by subst_vars; decide) (by (first | (simp only [ASt.ev, tmPut, ↓reduceIte, reduceIte, Nat.reduceEqDiff, plain1, *]; rfl) | fail)) (by (first | (simp only [ASt.ev, tmPut, ↓reduceIte, reduceIte, Nat.reduceEqDiff, plain1, *]; rfl) | fail)) entersClass (classC W0) ?_
    rintro v nx1 H1 ⟨rfl, rfl, rfl⟩
    repeat' (first | (refine OpsL.p (by subst_vars; decide) (by (first | (exact aop_move (by (first | (simp only [ASt.ev, tmPut, ↓reduceIte, reduceIte, Nat.reduceEqDiff, plain1, *]; rfl) | fail))) | (exact aop_assign (by (first | (simp only [ASt.ev, tmPut, ↓reduceIte, reduceIte, Nat.reduceEqDiff, plain1, *]; rfl) | fail))) | (exact aop_neq (by (first | (simp only [ASt.ev, tmPut, ↓reduceIte, reduceIte, Nat.reduceEqDiff, plain1, *]; rfl) | fail)) (by (first | (simp only [ASt.ev, tmPut, ↓reduceIte, reduceIte, Nat.reduceEqDiff, plain1, *]; rfl) | fail))) | (exact aop_add (by (first | (simp only [ASt.ev, tmPut, ↓reduceIte, reduceIte, Nat.reduceEqDiff, plain1, *]; rfl) | fail)) (by (first | (simp only [ASt.ev, tmPut, ↓reduceIte, reduceIte, Nat.reduceEqDiff, plain1, *]; rfl) | fail)) (by omega)) | fail)) ?_) | (refine Trip.seq ?_) | (refine Trip.ops ?_) | (refine Trip.ite (by (first | (simp only [ASt.ev, tmPut, ↓reduceIte, reduceIte, Nat.reduceEqDiff, plain1, *]; rfl) | fail)) (fun _ => ?_) (fun _ => ?_)) | (refine Trip.skip ?_; ((repeat (first | refine blockExit_eq ?_ | refine blockExit_ne (by decide) ?_ | refine blockExit_normal ?_ | refine blockExit_ret ?_ | refine blockExit_goto ?_)); first | (change Trip _ _ _ _ _) | dsimp only | skip)) | (refine OpsL.nil ?_; ((repeat (first | refine blockExit_eq ?_ | refine blockExit_ne (by decide) ?_ | refine blockExit_normal ?_ | refine blockExit_ret ?_ | refine blockExit_goto ?_)); first | (change Trip _ _ _ _ _) | dsimp only | skip)) | fail)
    · rename_i hr
      refine Trip.goto (scK_goto (l := 2) (by omega) ?_)
      rw [hj]
      unfold nameV
      rw [if_neg hk, if_neg hr]
      refine wrongL W0 hn ?_ s N
      simp [tmPut, *]
    · rename_i hr
      have hr5 : classF (bs s) i = 5 := Decidable.not_not.1 hr
      have hlt : i < (bs s).length := by
        unfold classF at hr5
        cases hb : (bs s)[i]? with
        | none => rw [hb] at hr5; simp at hr5
        | some b => exact (List.getElem?_eq_some_iff.1 hb).1
      refine Trip.label ?_
      ((repeat (first | refine blockExit_eq ?_ | refine blockExit_ne (by decide) ?_ | refine blockExit_normal ?_ | refine blockExit_ret ?_ | refine blockExit_goto ?_)); first | (change Trip _ _ _ _ _) | dsimp only | skip)
      rw [hj]
      unfold nameV
      rw [if_neg hk, if_pos hr5]
      refine behindT W0 (s := s) (k := k) (i := i + 1) (f := f) (t := i) hn ?_ ?_ ?_ ?_ ?_ ?_ hf hi hs (N + 1)
      all_goals simp [tmPut, *]

theorem nameL (W0 : World) {nx : Nat} {H : Heap} {n : Nat} {s : ByteArray} {k : Int} {f : Nat} (hn : n = 63) (hs : (bs s).length ≤ 1000000) : ∀ (m : Nat) (i : Nat) (tm : Nat → Value), (bs s).length - i ≤ m → tm 0 = .string s → tm 4 = .pointer (some ⟨nx, 0, none⟩) → tm 7 = .int .i64 k → tm 8 = .int .i64 i → tm 9 = .int .i64 f →
    f ≤ i → i ≤ (bs s).length → Scp Try.prog W0 scB (ScQ nx H (nameV s k f (i + runF (bs s) i))) (m + 2) (scL 1) ⟨tm, n, boxAt nx H, nx + 1⟩ := by
  intro m
  induction m with
  | zero =>
    intro i tm hm e0 e4 e7 e8 e9 hf hi
    refine Scp.of (Trip.seq (Trip.skip (nameStep W0 hn hs e0 e4 e7 e8 e9 hf hi 0 fun hc => ?_)))
    have := (runF_letter hc).1
    omega
  | succ m ih =>
    intro i tm hm e0 e4 e7 e8 e9 hf hi
    refine Scp.of (Trip.seq (Trip.skip (nameStep W0 hn hs e0 e4 e7 e8 e9 hf hi (m + 1) fun hc tm' f0 f4 f7 f8 f9 => ?_)))
    obtain ⟨hlt, hr⟩ := runF_letter hc
    have := ih (i + 1) tm' (by omega) f0 f4 f7 f8 f9 (by omega) (by omega)
    rwa [show i + 1 + runF (bs s) (i + 1) = i + runF (bs s) i by omega] at this

/-- Letters from here on, by the code that stands behind the label. -/
theorem nameT (W0 : World) {nx : Nat} {H : Heap} {n : Nat} {tm : Nat → Value} {s : ByteArray} {k : Int} {f i : Nat} (hn : n = 63) (hs : (bs s).length ≤ 1000000) (e0 : tm 0 = .string s) (e4 : tm 4 = .pointer (some ⟨nx, 0, none⟩)) (e7 : tm 7 = .int .i64 k) (e8 : tm 8 = .int .i64 i) (e9 : tm 9 = .int .i64 f)
    (hf : f ≤ i) (hi : i ≤ (bs s).length) : Trip Try.prog W0 (tlC (scL 1)) ⟨tm, n, boxAt nx H, nx + 1⟩ (ScK W0 ((bs s).length + 2) (ScQ nx H (nameV s k f (i + runF (bs s) i)))) := by
  refine nameStep W0 hn hs e0 e4 e7 e8 e9 hf hi ((bs s).length + 1) fun hc tm' f0 f4 f7 f8 f9 => ?_
  obtain ⟨hlt, hr⟩ := runF_letter hc
  have := nameL W0 (H := H) (k := k) (f := f) hn hs (bs s).length (i + 1) tm' (by omega) f0 f4 f7 f8 f9 (by omega) (by omega)
  rwa [show i + 1 + runF (bs s) (i + 1) = i + runF (bs s) i by omega] at this

/-- What is told behind a '<'. -/
def brackV (s : ByteArray) (i : Nat) : Value := if classF (bs s) i = 4 then nameV s 2 (i + 1) (i + 1 + runF (bs s) (i + 1)) else nameV s 1 i (i + runF (bs s) i)

theorem classF_lt {l : List Int} {i : Nat} {c : Int} (h : classF l i = c) (hc : c ≠ 6) : i < l.length := by
  unfold classF at h
  cases hb : l[i]? with
  | none => rw [hb] at h; exact absurd h.symm hc
  | some b => exact (List.getElem?_eq_some_iff.1 hb).1

set_option maxRecDepth 20000 in
set_option maxHeartbeats 4000000 in
theorem brackT (W0 : World) {nx : Nat} {H : Heap} {n : Nat} {tm : Nat → Value} {s : ByteArray} {i : Nat} (hn : n = 63) (hs : (bs s).length ≤ 1000000) (e0 : tm 0 = .string s) (e4 : tm 4 = .pointer (some ⟨nx, 0, none⟩)) (e8 : tm 8 = .int .i64 i) (hi : i ≤ (bs s).length) :
    Trip Try.prog W0 (tlC (scL 0)) ⟨tm, n, boxAt nx H, nx + 1⟩ (ScK W0 ((bs s).length + 2) (ScQ nx H (brackV s i))) := by
  unfold ScK
  repeat (first | (refine OpsL.p (by subst_vars; decide) (by (first | (exact aop_move (by (first | (simp only [ASt.ev, tmPut, ↓reduceIte, reduceIte, Nat.reduceEqDiff, plain1, *]; rfl) | fail))) | (exact aop_assign (by (first | (simp only [ASt.ev, tmPut, ↓reduceIte, reduceIte, Nat.reduceEqDiff, plain1, *]; rfl) | fail))) | fail)) ?_) | (refine Trip.seq ?_) | (refine Trip.ops ?_) | (refine OpsL.nil ?_; ((repeat (first | refine blockExit_eq ?_ | refine blockExit_ne (by decide) ?_ | refine blockExit_normal ?_ | refine blockExit_ret ?_ | refine blockExit_goto ?_)); first | (change Trip _ _ _ _ _) | dsimp only | skip)) | fail)
  refine OpsL.call2 (by subst_vars; decide) (by (first | (simp only [ASt.ev, tmPut, ↓reduceIte, reduceIte, Nat.reduceEqDiff, plain1, *]; rfl) | fail)) (by (first | (simp only [ASt.ev, tmPut, ↓reduceIte, reduceIte, Nat.reduceEqDiff, plain1, *]; rfl) | fail)) entersClass (classC W0) ?_
  rintro v nx1 H1 ⟨rfl, rfl, rfl⟩
  repeat' (first | (refine OpsL.p (by subst_vars; decide) (by (first | (exact aop_move (by (first | (simp only [ASt.ev, tmPut, ↓reduceIte, reduceIte, Nat.reduceEqDiff, plain1, *]; rfl) | fail))) | (exact aop_assign (by (first | (simp only [ASt.ev, tmPut, ↓reduceIte, reduceIte, Nat.reduceEqDiff, plain1, *]; rfl) | fail))) | (exact aop_eql (by (first | (simp only [ASt.ev, tmPut, ↓reduceIte, reduceIte, Nat.reduceEqDiff, plain1, *]; rfl) | fail)) (by (first | (simp only [ASt.ev, tmPut, ↓reduceIte, reduceIte, Nat.reduceEqDiff, plain1, *]; rfl) | fail))) | (exact aop_add (by (first | (simp only [ASt.ev, tmPut, ↓reduceIte, reduceIte, Nat.reduceEqDiff, plain1, *]; rfl) | fail)) (by (first | (simp only [ASt.ev, tmPut, ↓reduceIte, reduceIte, Nat.reduceEqDiff, plain1, *]; rfl) | fail)) (by omega)) | fail)) ?_) | (refine Trip.seq ?_) | (refine Trip.ops ?_) | (refine Trip.ite (by (first | (simp only [ASt.ev, tmPut, ↓reduceIte, reduceIte, Nat.reduceEqDiff, plain1, *]; rfl) | fail)) (fun _ => ?_) (fun _ => ?_)) | (refine Trip.skip ?_; ((repeat (first | refine blockExit_eq ?_ | refine blockExit_ne (by decide) ?_ | refine blockExit_normal ?_ | refine blockExit_ret ?_ | refine blockExit_goto ?_)); first | (change Trip _ _ _ _ _) | dsimp only | skip)) | (refine OpsL.nil ?_; ((repeat (first | refine blockExit_eq ?_ | refine blockExit_ne (by decide) ?_ | refine blockExit_normal ?_ | refine blockExit_ret ?_ | refine blockExit_goto ?_)); first | (change Trip _ _ _ _ _) | dsimp only | skip)) | fail)
  · rename_i hc
    have hlt := classF_lt hc (by decide)
    refine Trip.label ?_
    ((repeat (first | refine blockExit_eq ?_ | refine blockExit_ne (by decide) ?_ | refine blockExit_normal ?_ | refine blockExit_ret ?_ | refine blockExit_goto ?_)); first | (change Trip _ _ _ _ _) | dsimp only | skip)
    unfold brackV
    rw [if_pos hc]
    refine nameT W0 (s := s) (k := 2) (i := i + 1) (f := i + 1) hn hs ?_ ?_ ?_ ?_ ?_ (by omega) (by omega)
    all_goals simp [tmPut, *]
  · rename_i hc
    refine Trip.label ?_
    ((repeat (first | refine blockExit_eq ?_ | refine blockExit_ne (by decide) ?_ | refine blockExit_normal ?_ | refine blockExit_ret ?_ | refine blockExit_goto ?_)); first | (change Trip _ _ _ _ _) | dsimp only | skip)
    unfold brackV
    rw [if_neg hc]
    refine nameT W0 (s := s) (k := 1) (i := i) (f := i) hn hs ?_ ?_ ?_ ?_ ?_ (by omega) (by omega)
    all_goals simp [tmPut, *]

theorem scanF_left {s : ByteArray} {i : Nat} (h : classF (bs s) i = 3) : brackV s (i + 1) = scanV s (scanF (bs s) i) := by
  unfold brackV scanF
  rw [if_pos h]
  by_cases c : classF (bs s) (i + 1) = 4
  · rw [if_pos c, if_pos c]
    have e : i + 1 + 1 = i + 2 := rfl
    rw [e]
    unfold nameV
    rw [if_neg (show ¬ (2 : Int) = 3 by decide)]
    by_cases c5 : classF (bs s) (i + 2 + runF (bs s) (i + 2)) = 5
    · rw [if_pos c5]
      by_cases ce : endAt (bs s) (i + 2 + runF (bs s) (i + 2) + 1) ∧ 1 ≤ runF (bs s) (i + 2) ∧ runF (bs s) (i + 2) ≤ 8
      · rw [if_pos ⟨ce.1, by omega, by omega⟩, if_pos ⟨c5, ce⟩]
      · rw [if_neg (fun q => ce ⟨q.1, by omega, by omega⟩), if_neg (fun q => ce q.2)]
    · rw [if_neg c5, if_neg (fun q => c5 q.1)]
  · rw [if_neg c, if_neg c]
    unfold nameV
    rw [if_neg (show ¬ (1 : Int) = 3 by decide)]
    by_cases c5 : classF (bs s) (i + 1 + runF (bs s) (i + 1)) = 5
    · rw [if_pos c5]
      by_cases ce : endAt (bs s) (i + 1 + runF (bs s) (i + 1) + 1) ∧ 1 ≤ runF (bs s) (i + 1) ∧ runF (bs s) (i + 1) ≤ 8
      · rw [if_pos ⟨ce.1, by omega, by omega⟩, if_pos ⟨c5, ce⟩]
      · rw [if_neg (fun q => ce ⟨q.1, by omega, by omega⟩), if_neg (fun q => ce q.2)]
    · rw [if_neg c5, if_neg (fun q => c5 q.1)]

theorem scanF_letter {s : ByteArray} {i : Nat} (h : classF (bs s) i = 2) : nameV s 3 i (i + runF (bs s) i) = scanV s (scanF (bs s) i) := by
  unfold scanF
  rw [if_neg (show ¬ classF (bs s) i = 3 by rw [h]; decide), if_pos h]
  unfold nameV
  rw [if_pos (show (3 : Int) = 3 from rfl)]
  by_cases ce : endAt (bs s) (i + runF (bs s) i) ∧ 1 ≤ runF (bs s) i ∧ runF (bs s) i ≤ 8
  · rw [if_pos ⟨ce.1, by omega, by omega⟩, if_pos ce]
  · rw [if_neg (fun q => ce ⟨q.1, by omega, by omega⟩), if_neg ce]

theorem scanF_other {l : List Int} {i : Nat} (h : classF l i ≠ 3) (h2 : classF l i ≠ 2) : scanF l i = none := by
  unfold scanF
  rw [if_neg h, if_neg h2]

theorem entersScan : Enters Try.prog 28 := ⟨Try.f28, Try.func28, by kernel_rfl, by kernel_rfl⟩

set_option maxRecDepth 20000 in
set_option maxHeartbeats 4000000 in
theorem scanC (W0 : World) {nx : Nat} {H : Heap} {s : ByteArray} {i : Nat} (hs : (bs s).length ≤ 1000000) (hi : i ≤ (bs s).length) :
    ACalls Try.prog W0 28 [.string s, .int .i64 i] nx H fun v nx' H' => v = scanV s (scanF (bs s) i) ∧ nx' = nx + 1 ∧ Ext nx H (nx + 1) H' := by
  refine ACalls.by_trip (fn := Try.f28) (c := _) Try.func28 rfl (fun tm n hn0 htm => ?_)
  have e0 : tm 0 = .string s := htm 0
  have e1 : tm 1 = .int .i64 i := htm 1
  clear htm
  replace hn0 : n = 63 := hn0
  refine Trip.seq (Trip.ops ?_)
  refine OpsL.new (by subst_vars; decide) (aop_alloc (by exact rfl)) ?_
  repeat (first | (refine OpsL.p (by subst_vars; decide) (by (first | (exact aop_assign (by (first | (simp only [ASt.ev, tmPut, ↓reduceIte, reduceIte, Nat.reduceEqDiff, plain1, *]; rfl) | fail))) | fail)) ?_) | (refine OpsL.nil ?_; ((repeat (first | refine blockExit_eq ?_ | refine blockExit_ne (by decide) ?_ | refine blockExit_normal ?_ | refine blockExit_ret ?_ | refine blockExit_goto ?_)); first | (change Trip _ _ _ _ _) | dsimp only | skip)) | fail)
  refine Trip.scope ((bs s).length + 4) ?_
  show Scp Try.prog W0 scB (ScQ nx H (scanV s (scanF (bs s) i))) ((bs s).length + 4) scB ⟨_, n, boxAt nx H, nx + 1⟩
  refine Scp.of ?_
  repeat (first | (refine OpsL.p (by subst_vars; decide) (by (first | (exact aop_move (by (first | (simp only [ASt.ev, tmPut, ↓reduceIte, reduceIte, Nat.reduceEqDiff, plain1, *]; rfl) | fail))) | (exact aop_assign (by (first | (simp only [ASt.ev, tmPut, ↓reduceIte, reduceIte, Nat.reduceEqDiff, plain1, *]; rfl) | fail))) | fail)) ?_) | (refine Trip.seq ?_) | (refine Trip.ops ?_) | (refine OpsL.nil ?_; ((repeat (first | refine blockExit_eq ?_ | refine blockExit_ne (by decide) ?_ | refine blockExit_normal ?_ | refine blockExit_ret ?_ | refine blockExit_goto ?_)); first | (change Trip _ _ _ _ _) | dsimp only | skip)) | fail)
  refine OpsL.call2 (by subst_vars; decide) (by (first | (simp only [ASt.ev, tmPut, ↓reduceIte, reduceIte, Nat.reduceEqDiff, plain1, *]; rfl) | fail)) (by (first | (simp only [ASt.ev, tmPut, ↓reduceIte, reduceIte, Nat.reduceEqDiff, plain1, *]; rfl) | fail)) entersClass (classC W0) ?_
  rintro v nx1 H1 ⟨rfl, rfl, rfl⟩
  repeat' (first | (refine OpsL.p (by subst_vars; decide) (by (first | (exact aop_move (by (first | (simp only [ASt.ev, tmPut, ↓reduceIte, reduceIte, Nat.reduceEqDiff, plain1, *]; rfl) | fail))) | (exact aop_assign (by (first | (simp only [ASt.ev, tmPut, ↓reduceIte, reduceIte, Nat.reduceEqDiff, plain1, *]; rfl) | fail))) | (exact aop_eql (by (first | (simp only [ASt.ev, tmPut, ↓reduceIte, reduceIte, Nat.reduceEqDiff, plain1, *]; rfl) | fail)) (by (first | (simp only [ASt.ev, tmPut, ↓reduceIte, reduceIte, Nat.reduceEqDiff, plain1, *]; rfl) | fail))) | (exact aop_add (by (first | (simp only [ASt.ev, tmPut, ↓reduceIte, reduceIte, Nat.reduceEqDiff, plain1, *]; rfl) | fail)) (by (first | (simp only [ASt.ev, tmPut, ↓reduceIte, reduceIte, Nat.reduceEqDiff, plain1, *]; rfl) | fail)) (by omega)) | fail)) ?_) | (refine Trip.seq ?_) | (refine Trip.ops ?_) | (refine Trip.block ?_) | (refine Trip.ite (by (first | (simp only [ASt.ev, tmPut, ↓reduceIte, reduceIte, Nat.reduceEqDiff, plain1, *]; rfl) | fail)) (fun _ => ?_) (fun _ => ?_)) | (refine Trip.skip ?_; ((repeat (first | refine blockExit_eq ?_ | refine blockExit_ne (by decide) ?_ | refine blockExit_normal ?_ | refine blockExit_ret ?_ | refine blockExit_goto ?_)); first | (change Trip _ _ _ _ _) | dsimp only | skip)) | (refine OpsL.nil ?_; ((repeat (first | refine blockExit_eq ?_ | refine blockExit_ne (by decide) ?_ | refine blockExit_normal ?_ | refine blockExit_ret ?_ | refine blockExit_goto ?_)); first | (change Trip _ _ _ _ _) | dsimp only | skip)) | fail)
  · rename_i hc
    have hlt := classF_lt hc (by decide)
    refine Trip.goto (blockExit_goto ?_)
    refine scK_goto (N := (bs s).length + 3) (Q := ScQ nx H (scanV s (scanF (bs s) i))) (l := 0) (by omega) (Scp.of (Trip.seq (Trip.skip ?_)))
    rw [← scanF_left hc]
    refine brackT W0 (i := i + 1) hn0 hs ?_ ?_ ?_ (by omega)
    all_goals simp [tmPut, *]
  · rename_i hc3 hc
    refine Trip.goto (blockExit_goto ?_)
    refine scK_goto (N := (bs s).length + 3) (Q := ScQ nx H (scanV s (scanF (bs s) i))) (l := 1) (by omega) (Scp.of (Trip.seq (Trip.skip ?_)))
    rw [← scanF_letter hc]
    refine nameT W0 (k := 3) (i := i) (f := i) hn0 hs ?_ ?_ ?_ ?_ ?_ (by omega) hi
    all_goals simp [tmPut, *]
  · rename_i hc3 hc
    refine Trip.goto ?_
    refine scK_goto (N := (bs s).length + 3) (Q := ScQ nx H (scanV s (scanF (bs s) i))) (l := 2) (by omega) ?_
    rw [scanF_other hc3 hc]
    refine wrongL W0 hn0 ?_ s _
    simp [tmPut, *]

end Go.Proofs.Ytngekapiemkgnaa
/-
  Chapter 1: the program's Parse is the plain one.
-/
namespace Go.Proofs.Ytngekapiemkgnaa
set_option linter.unusedSimpArgs false
set_option linter.unusedVariables false
open Go.Am Go.RowKit
attribute [local irreducible] aop OpsL Trip blockExit OpsD

theorem res_tmp3 {P : Program} {st : ASt} {s t u : Tmp} : aResults P st #[.tmp s, .tmp t, .tmp u] = some (.tuple #[st.tm s, st.tm t, st.tm u]) := rfl

/-- The place, the error of a text; the word. -/
def Parsed (nx : Nat) (r : List Int × Int × Int) (v : Value) (nx' : Nat) (H' : Heap) : Prop :=
  ∃ wv ob, v = .tuple #[wv, .int .i64 r.2.1, .int .i64 r.2.2] ∧ OwnInts H' ob 3 wv r.1 ∧ ∀ b t, ob = some (b, t) → nx ≤ b ∧ b < nx'

theorem own_nil {H : Heap} : OwnInts H none 3 (.slice none 0 0) [] := ⟨rfl, rfl, rfl⟩

theorem bs_sub (s : ByteArray) (a b : Nat) : bs (esubstr s a b) = ((bs s).drop a).take (b - a) := by
  simp [bs, esubstr, List.map_drop, List.map_take]

theorem findI_cases (x : List Int × Int) (ss : List (ByteArray × Int)) : (findGo x (kss ss) 0 = none ∧ findI x ss = -1) ∨ ∃ j : Nat, findGo x (kss ss) 0 = some j ∧ findI x ss = j := by
  unfold findI
  cases findGo x (kss ss) 0 with
  | none => exact .inl ⟨rfl, rfl⟩
  | some j => exact .inr ⟨j, rfl, rfl⟩

theorem parsed_nil {nx nx' : Nat} {H' : Heap} {j e : Int} {v : Value} (h : v = .tuple #[.slice none 0 0, .int .i64 j, .int .i64 e]) : Parsed nx ([], j, e) v nx' H' := ⟨_, none, h, own_nil, fun _ _ h => by cases h⟩

set_option maxRecDepth 20000 in
set_option maxHeartbeats 8000000 in
theorem parseC (W0 : World) {nx : Nat} {H : Heap} {lv : Value} {ss : List (ByteArray × Int)} {s : ByteArray} (hl : SymsR H lv ss) (hn : ss.length ≤ 1000) (hs : (bs s).length ≤ 1000000) :
    ACalls Try.prog W0 12 [lv, .string s] nx H fun v nx' H' => Parsed nx (parseF (kss ss) (bs s)) v nx' H' ∧ Ext nx H nx' H' := by
  obtain ⟨la, lc, rfl⟩ := hl.slice
  refine ACalls.by_trip (fn := Try.f12) (c := _) Try.func12 rfl (fun tm n hn0 htm => ?_)
  have e0 : tm 0 = .slice la ss.length lc := htm 0
  have e1 : tm 1 = .string s := htm 1
  clear htm
  replace hn0 : n = 46 := hn0
  refine Trip.ok fun hok => ?_
  replace hok : ∀ id o, H id = some o → id < nx := hok
  repeat' (first | (refine OpsL.p (by subst_vars; decide) (by (first | (exact aop_move (by (first | (simp only [ASt.ev, tmPut, ↓reduceIte, reduceIte, Nat.reduceEqDiff, plain1, *]; rfl) | fail))) | (exact aop_assign (by (first | (simp only [ASt.ev, tmPut, ↓reduceIte, reduceIte, Nat.reduceEqDiff, plain1, *]; rfl) | fail))) | (exact aop_gtr (by (first | (simp only [ASt.ev, tmPut, ↓reduceIte, reduceIte, Nat.reduceEqDiff, plain1, *]; rfl) | fail)) (by (first | (simp only [ASt.ev, tmPut, ↓reduceIte, reduceIte, Nat.reduceEqDiff, plain1, *]; rfl) | fail))) | (exact aop_lenB (by (first | (simp only [ASt.ev, tmPut, ↓reduceIte, reduceIte, Nat.reduceEqDiff, plain1, *]; rfl) | fail)) (by exact rfl)) | fail)) ?_) | (refine Trip.seq ?_) | (refine Trip.ops ?_) | (refine Trip.ite (by (first | (simp only [ASt.ev, tmPut, ↓reduceIte, reduceIte, Nat.reduceEqDiff, plain1, *]; rfl) | fail)) (fun _ => ?_) (fun _ => ?_)) | (refine Trip.skip ?_; ((repeat (first | refine blockExit_eq ?_ | refine blockExit_ne (by decide) ?_ | refine blockExit_normal ?_ | refine blockExit_ret ?_ | refine blockExit_goto ?_)); first | (change Trip _ _ _ _ _) | dsimp only | skip)) | (refine Trip.ret ?_; ((repeat (first | refine blockExit_eq ?_ | refine blockExit_ne (by decide) ?_ | refine blockExit_normal ?_ | refine blockExit_ret ?_ | refine blockExit_goto ?_)); first | (change Trip _ _ _ _ _) | dsimp only | skip)) | (refine OpsL.nil ?_; ((repeat (first | refine blockExit_eq ?_ | refine blockExit_ne (by decide) ?_ | refine blockExit_normal ?_ | refine blockExit_ret ?_ | refine blockExit_goto ?_)); first | (change Trip _ _ _ _ _) | dsimp only | skip)) | fail)
  · rename_i hlong
    have hlen : 2000 < (bs s).length := by omega
    have hp : parseF (kss ss) (bs s) = ([], 0, 2) := by unfold parseF; rw [if_pos hlen]
    rw [hp]
    exact ⟨.inr rfl, _, res_tmp3, ⟨_, none, by simp [tmPut], own_nil, fun _ _ h => by cases h⟩, Ext.refl⟩
  · rename_i hlong
    have hp : parseF (kss ss) (bs s) = parseAt (kss ss) (bs s) 0 [] := by unfold parseF parseAt; rw [if_neg (by omega)]
    rw [hp]
    refine OpsL.call2 (by subst_vars; decide) (by (first | (simp only [ASt.ev, tmPut, ↓reduceIte, reduceIte, Nat.reduceEqDiff, plain1, *]; rfl) | fail)) (by (first | (simp only [ASt.ev, tmPut, ↓reduceIte, reduceIte, Nat.reduceEqDiff, plain1, *]; rfl) | fail)) entersSkip (skipC W0 (i := 0) (by omega) (by omega)) ?_
    rintro v nx1 H1 ⟨rfl, rfl, rfl⟩
    repeat (first | (refine OpsL.p (by subst_vars; decide) (by (first | (exact aop_assign (by (first | (simp only [ASt.ev, tmPut, ↓reduceIte, reduceIte, Nat.reduceEqDiff, plain1, *]; rfl) | fail))) | fail)) ?_) | (refine Trip.block ?_) | (refine OpsL.nil ?_; ((repeat (first | refine blockExit_eq ?_ | refine blockExit_ne (by decide) ?_ | refine blockExit_normal ?_ | refine blockExit_ret ?_ | refine blockExit_goto ?_)); first | (change Trip _ _ _ _ _) | dsimp only | skip)) | fail)
    refine Trip.inv (fun (j : Nat) st => ∃ (tm : Nat → Value) (nx' : Nat) (H' : Heap) (ob : Option (Nat × Nat)) (wv : Value) (w : List Int), st = ⟨tm, n, H', nx'⟩ ∧ Ext nx1 H1 nx' H' ∧ OwnInts H' ob 3 wv w ∧ (∀ b t, ob = some (b, t) → nx1 ≤ b ∧ b < nx') ∧
      tm 0 = .slice la ss.length lc ∧ tm 1 = .string s ∧ tm 7 = wv ∧ tm 8 = .int .i64 j ∧ j ≤ (bs s).length ∧ classF (bs s) j ≠ 1 ∧ parseAt (kss ss) (bs s) j w = parseAt (kss ss) (bs s) 0 [] ∧ w.length ≤ j) (fun j => (bs s).length - j) (skipF (bs s) 0) ?_ ?_
    · exact ⟨_, _, _, none, _, [], rfl, Ext.refl, own_nil, fun _ _ h => (by cases h), e0, e1, rfl, rfl, (skipF_le (by omega)).2, skipF_end 0, parseAt_skip 0, by simp⟩
    · rintro j st ⟨tm, nx', H', ob, wv, w, rfl, hext, hown, hob, e0, e1, e7, e8, hj, hcl, hpa, hwl⟩
      refine Trip.ok fun hok' => ?_
      replace hok' : ∀ id o, H' id = some o → id < nx' := hok'
      repeat' (first | (refine OpsL.p (by subst_vars; decide) (by (first | (exact aop_move (by (first | (simp only [ASt.ev, tmPut, ↓reduceIte, reduceIte, Nat.reduceEqDiff, plain1, *]; rfl) | fail))) | (exact aop_assign (by (first | (simp only [ASt.ev, tmPut, ↓reduceIte, reduceIte, Nat.reduceEqDiff, plain1, *]; rfl) | fail))) | (exact aop_lss (by (first | (simp only [ASt.ev, tmPut, ↓reduceIte, reduceIte, Nat.reduceEqDiff, plain1, *]; rfl) | fail)) (by (first | (simp only [ASt.ev, tmPut, ↓reduceIte, reduceIte, Nat.reduceEqDiff, plain1, *]; rfl) | fail))) | (exact aop_lenB (by (first | (simp only [ASt.ev, tmPut, ↓reduceIte, reduceIte, Nat.reduceEqDiff, plain1, *]; rfl) | fail)) (by exact rfl)) | fail)) ?_) | (refine Trip.seq ?_) | (refine Trip.ops ?_) | (refine Trip.block ?_) | (refine Trip.ite (by (first | (simp only [ASt.ev, tmPut, ↓reduceIte, reduceIte, Nat.reduceEqDiff, plain1, *]; rfl) | fail)) (fun _ => ?_) (fun _ => ?_)) | (refine Trip.skip ?_; ((repeat (first | refine blockExit_eq ?_ | refine blockExit_ne (by decide) ?_ | refine blockExit_normal ?_ | refine blockExit_ret ?_ | refine blockExit_goto ?_)); first | (change Trip _ _ _ _ _) | dsimp only | skip)) | (refine Trip.exit ?_; ((repeat (first | refine blockExit_eq ?_ | refine blockExit_ne (by decide) ?_ | refine blockExit_normal ?_ | refine blockExit_ret ?_ | refine blockExit_goto ?_)); first | (change Trip _ _ _ _ _) | dsimp only | skip)) | (refine Trip.ret ?_; ((repeat (first | refine blockExit_eq ?_ | refine blockExit_ne (by decide) ?_ | refine blockExit_normal ?_ | refine blockExit_ret ?_ | refine blockExit_goto ?_)); first | (change Trip _ _ _ _ _) | dsimp only | skip)) | (refine OpsL.nil ?_; ((repeat (first | refine blockExit_eq ?_ | refine blockExit_ne (by decide) ?_ | refine blockExit_normal ?_ | refine blockExit_ret ?_ | refine blockExit_goto ?_)); first | (change Trip _ _ _ _ _) | dsimp only | skip)) | fail)
      · rename_i hlt
        refine OpsL.call2 (by subst_vars; decide) (by (first | (simp only [ASt.ev, tmPut, ↓reduceIte, reduceIte, Nat.reduceEqDiff, plain1, *]; done) | fail)) (by (first | (simp only [ASt.ev, tmPut, ↓reduceIte, reduceIte, Nat.reduceEqDiff, plain1, *]; done) | fail)) entersScan (scanC W0 hs hj) ?_
        rintro v2 nx2 H2 ⟨rfl, rfl, hx2⟩
        have hrd := scan_read (bs s) j
        have hjl : j < (bs s).length := by omega
        obtain ⟨b0, hb0, hb32⟩ : ∃ b, (bs s)[j]? = some b ∧ b ≠ 32 := by
          refine ⟨(bs s)[j], List.getElem?_eq_getElem hjl, fun e => hcl ?_⟩
          unfold classF
          rw [List.getElem?_eq_getElem hjl]
          exact classI_blank.2 e
        have hstep := parseAt_piece (ss := kss ss) (w := w) hb0 hb32
        cases hsc : scanF (bs s) j with
        | none =>
          rw [hsc] at hrd
          rw [hrd] at hstep
          simp only [scanV]
          repeat (first | (refine OpsL.p (by subst_vars; decide) (by (first | (exact aop_move (by (first | (simp only [ASt.ev, tmPut, ↓reduceIte, reduceIte, Nat.reduceEqDiff, plain1, *]; rfl) | fail))) | (exact aop_extract (by (first | (simp only [ASt.ev, tmPut, ↓reduceIte, reduceIte, Nat.reduceEqDiff, plain1, *]; rfl) | fail)) (by exact rfl)) | fail)) ?_) | fail)
          refine OpsL.new (by subst_vars; decide) (aop_alloc (by exact rfl)) ?_
          repeat fail
          refine OpsL.upd (aop_store (u := .agg #[.string ⟨#[]⟩, .int .i64 0]) (by (first | (simp only [ASt.ev, tmPut, ↓reduceIte, reduceIte, Nat.reduceEqDiff, plain1, *]; rfl) | fail)) (by (first | (simp only [ASt.ev, tmPut, ↓reduceIte, reduceIte, Nat.reduceEqDiff, plain1, *]; rfl) | fail)) (by exact rfl) rfl (by simp [setc, Heap.put_eq, Value.cells]; exact ⟨⟨rfl, rfl⟩, rfl⟩)) ?_
          repeat (first | (refine OpsL.p (by subst_vars; decide) (by (first | (exact aop_move (by (first | (simp only [ASt.ev, tmPut, ↓reduceIte, reduceIte, Nat.reduceEqDiff, plain1, *]; rfl) | fail))) | (exact aop_assign (by (first | (simp only [ASt.ev, tmPut, ↓reduceIte, reduceIte, Nat.reduceEqDiff, plain1, *]; rfl) | fail))) | (exact aop_not (by (first | (simp only [ASt.ev, tmPut, ↓reduceIte, reduceIte, Nat.reduceEqDiff, plain1, *]; rfl) | fail))) | fail)) ?_) | (refine Trip.seq ?_) | (refine Trip.ops ?_) | (refine OpsL.nil ?_; ((repeat (first | refine blockExit_eq ?_ | refine blockExit_ne (by decide) ?_ | refine blockExit_normal ?_ | refine blockExit_ret ?_ | refine blockExit_goto ?_)); first | (change Trip _ _ _ _ _) | dsimp only | skip)) | fail)
          refine Trip.iteB (b := true) (by (first | (simp only [ASt.ev, tmPut, ↓reduceIte, reduceIte, Nat.reduceEqDiff, decide_true, decide_false, not_true_eq_false, not_false_eq_true, Bool.not_true, Bool.not_false, *]; done) | fail)) (fun _ => ?_) (fun h => absurd h (by decide))
          repeat (first | (refine OpsL.p (by subst_vars; decide) (by (first | (exact aop_move (by (first | (simp only [ASt.ev, tmPut, ↓reduceIte, reduceIte, Nat.reduceEqDiff, plain1, *]; rfl) | fail))) | (exact aop_assign (by (first | (simp only [ASt.ev, tmPut, ↓reduceIte, reduceIte, Nat.reduceEqDiff, plain1, *]; rfl) | fail))) | fail)) ?_) | (refine Trip.seq ?_) | (refine Trip.ops ?_) | (refine Trip.ret ?_; ((repeat (first | refine blockExit_eq ?_ | refine blockExit_ne (by decide) ?_ | refine blockExit_normal ?_ | refine blockExit_ret ?_ | refine blockExit_goto ?_)); first | (change Trip _ _ _ _ _) | dsimp only | skip)) | (refine OpsL.nil ?_; ((repeat (first | refine blockExit_eq ?_ | refine blockExit_ne (by decide) ?_ | refine blockExit_normal ?_ | refine blockExit_ret ?_ | refine blockExit_goto ?_)); first | (change Trip _ _ _ _ _) | dsimp only | skip)) | fail)
          refine ⟨.inr rfl, _, res_tmp3, ?_, ?_⟩
          · rw [← hpa, hstep]
            exact parsed_nil (by simp [tmPut])
          · exact ((hext.trans hx2).up (by omega)).put (by have := hext.1; omega) |>.put (by have := hext.1; omega)
        | some q =>
          obtain ⟨a, b, k, c⟩ := q
          rw [hsc] at hrd
          obtain ⟨hr1, hr2, hr3, hr4, hr5, hr6, hr7⟩ := hrd
          rw [hr1] at hstep
          simp only [scanV]
          repeat (first | (refine OpsL.p (by subst_vars; decide) (by (first | (exact aop_move (by (first | (simp only [ASt.ev, tmPut, ↓reduceIte, reduceIte, Nat.reduceEqDiff, plain1, *]; rfl) | fail))) | (exact aop_extract (by (first | (simp only [ASt.ev, tmPut, ↓reduceIte, reduceIte, Nat.reduceEqDiff, plain1, *]; rfl) | fail)) (by exact rfl)) | fail)) ?_) | fail)
          refine OpsL.new (by subst_vars; decide) (aop_alloc (by exact rfl)) ?_
          repeat fail
          refine OpsL.upd (aop_store (u := .agg #[.string (esubstr s a b), .int .i64 k]) (by (first | (simp only [ASt.ev, tmPut, ↓reduceIte, reduceIte, Nat.reduceEqDiff, plain1, *]; rfl) | fail)) (by (first | (simp only [ASt.ev, tmPut, ↓reduceIte, reduceIte, Nat.reduceEqDiff, plain1, *]; rfl) | fail)) (by exact rfl) rfl (by simp [setc, Heap.put_eq, Value.cells]; exact ⟨⟨rfl, rfl⟩, rfl⟩)) ?_
          (first | (refine OpsL.p (by subst_vars; decide) (by (first | (exact aop_assign (by (first | (simp only [ASt.ev, tmPut, ↓reduceIte, reduceIte, Nat.reduceEqDiff, plain1, *]; rfl) | fail))) | fail)) ?_) | fail)
          (first | (refine OpsL.p (by subst_vars; decide) (by (first | (exact aop_assign (by (first | (simp only [ASt.ev, tmPut, ↓reduceIte, reduceIte, Nat.reduceEqDiff, plain1, *]; rfl) | fail))) | fail)) ?_) | fail)
          (first | (refine OpsL.nil ?_; ((repeat (first | refine blockExit_eq ?_ | refine blockExit_ne (by decide) ?_ | refine blockExit_normal ?_ | refine blockExit_ret ?_ | refine blockExit_goto ?_)); first | (change Trip _ _ _ _ _) | dsimp only | skip)) | fail)
          refine Trip.ok fun hok2 => ?_
          have hext2 : Ext nx1 H1 (nx' + 1 + 1) ((H2.put (nx' + 1) (AObj.cells (Value.agg #[Value.string ⟨#[]⟩, Value.int IntKind.i64 0]).cells.toList 0 none false (some 45))).put (nx' + 1) (AObj.cells [Value.string (esubstr s a b), Value.int IntKind.i64 k] 0 none false (some 45))) :=
            ((((hext.trans hx2).up (by omega)).put (by have := hext.1; omega)).put (by have := hext.1; omega))
          have hown2 := (OwnRow.ext hx2 (fun b t hb => (hob b t hb).2) hown)
          repeat (first | (refine OpsL.p (by subst_vars; decide) (by (first | (exact aop_move (by (first | (simp only [ASt.ev, tmPut, ↓reduceIte, reduceIte, Nat.reduceEqDiff, plain1, *]; rfl) | fail))) | (exact aop_not (by (first | (simp only [ASt.ev, tmPut, ↓reduceIte, reduceIte, Nat.reduceEqDiff, plain1, *]; rfl) | fail))) | fail)) ?_) | (refine Trip.seq ?_) | (refine Trip.ops ?_) | (refine OpsL.nil ?_; ((repeat (first | refine blockExit_eq ?_ | refine blockExit_ne (by decide) ?_ | refine blockExit_normal ?_ | refine blockExit_ret ?_ | refine blockExit_goto ?_)); first | (change Trip _ _ _ _ _) | dsimp only | skip)) | fail)
          refine Trip.iteB (b := false) (by (first | (simp only [ASt.ev, tmPut, ↓reduceIte, reduceIte, Nat.reduceEqDiff, decide_true, decide_false, not_true_eq_false, not_false_eq_true, Bool.not_true, Bool.not_false, *]; done) | fail)) (fun h => absurd h (by decide)) (fun _ => ?_)
          repeat (first | (refine OpsL.p (by subst_vars; decide) (by (first | (exact aop_move (by (first | (simp only [ASt.ev, tmPut, ↓reduceIte, reduceIte, Nat.reduceEqDiff, plain1, *]; rfl) | fail))) | fail)) ?_) | (refine Trip.seq ?_) | (refine Trip.ops ?_) | (refine Trip.skip ?_; ((repeat (first | refine blockExit_eq ?_ | refine blockExit_ne (by decide) ?_ | refine blockExit_normal ?_ | refine blockExit_ret ?_ | refine blockExit_goto ?_)); first | (change Trip _ _ _ _ _) | dsimp only | skip)) | fail)
          refine OpsL.p (by subst_vars; decide) (aop_loadAgg (k := 2) (vs := [.string (esubstr s a b), .int .i64 k]) (by (first | (simp only [ASt.ev, tmPut, ↓reduceIte, reduceIte, Nat.reduceEqDiff, plain1, *]; rfl) | fail)) (by exact rfl) rfl (by exact rfl) (by exact getc_own (by show 0 + 2 ≤ 2; decide))) ?_
          refine OpsL.call2 (by subst_vars; decide) (by (first | (simp only [ASt.ev, tmPut, ↓reduceIte, reduceIte, Nat.reduceEqDiff, plain1, *]; done) | fail)) (by (first | (simp only [ASt.ev, tmPut, ↓reduceIte, reduceIte, Nat.reduceEqDiff, plain1, *]; rfl) | fail)) entersIndex (indexC W0 (esubstr s a b, k) (hl.ext hext2 hok) (by omega) hok2) ?_
          rintro v3 nx3 H3 ⟨rfl, rfl, rfl⟩
          have hfc := findI_cases (bs (esubstr s a b), k) ss
          rw [← bs_sub s a b] at hstep
          have hrange := findI_range (bs (esubstr s a b), k) ss
          repeat' (first | (refine OpsL.p (by subst_vars; decide) (by (first | (exact aop_move (by (first | (simp only [ASt.ev, tmPut, ↓reduceIte, reduceIte, Nat.reduceEqDiff, plain1, *]; rfl) | fail))) | (exact aop_assign (by (first | (simp only [ASt.ev, tmPut, ↓reduceIte, reduceIte, Nat.reduceEqDiff, plain1, *]; rfl) | fail))) | (exact aop_lss (by (first | (simp only [ASt.ev, tmPut, ↓reduceIte, reduceIte, Nat.reduceEqDiff, plain1, *]; rfl) | fail)) (by (first | (simp only [ASt.ev, tmPut, ↓reduceIte, reduceIte, Nat.reduceEqDiff, plain1, *]; rfl) | fail))) | fail)) ?_) | (refine Trip.seq ?_) | (refine Trip.ops ?_) | (refine Trip.ite (by (first | (simp only [ASt.ev, tmPut, ↓reduceIte, reduceIte, Nat.reduceEqDiff, plain1, *]; rfl) | fail)) (fun _ => ?_) (fun _ => ?_)) | (refine Trip.skip ?_; ((repeat (first | refine blockExit_eq ?_ | refine blockExit_ne (by decide) ?_ | refine blockExit_normal ?_ | refine blockExit_ret ?_ | refine blockExit_goto ?_)); first | (change Trip _ _ _ _ _) | dsimp only | skip)) | (refine Trip.ret ?_; ((repeat (first | refine blockExit_eq ?_ | refine blockExit_ne (by decide) ?_ | refine blockExit_normal ?_ | refine blockExit_ret ?_ | refine blockExit_goto ?_)); first | (change Trip _ _ _ _ _) | dsimp only | skip)) | (refine OpsL.nil ?_; ((repeat (first | refine blockExit_eq ?_ | refine blockExit_ne (by decide) ?_ | refine blockExit_normal ?_ | refine blockExit_ret ?_ | refine blockExit_goto ?_)); first | (change Trip _ _ _ _ _) | dsimp only | skip)) | fail)
          · rename_i hneg
            rcases hfc with ⟨hf, _⟩ | ⟨q, _, hq⟩
            · simp only [hf] at hstep
              refine ⟨.inr rfl, _, res_tmp3, ?_, ?_⟩
              · rw [← hpa, hstep]
                exact parsed_nil (by simp [tmPut])
              · exact hext2.trans ext_put
            · exfalso; omega
          · rename_i hneg
            rcases hfc with ⟨_, hq⟩ | ⟨q, hf, hq⟩
            · exfalso; omega
            · simp only [hf] at hstep
              rw [hq] at *
              have hextc : Ext nx' H' (nx' + 1 + 1 + 1) (((H2.put (nx' + 1) (AObj.cells (Value.agg #[Value.string ⟨#[]⟩, Value.int IntKind.i64 0]).cells.toList 0 none false (some 45))).put (nx' + 1) (AObj.cells [Value.string (esubstr s a b), Value.int IntKind.i64 k] 0 none false (some 45))).put (nx' + 1 + 1) (boxO (esubstr s a b, k))) :=
                ((((hx2.up (show nx' + 1 ≤ nx' + 1 + 1 + 1 by omega)).put (k := nx' + 1) (by omega)).put (k := nx' + 1) (by omega)).put (k := nx' + 1 + 1) (by omega))
              have hownc := OwnRow.ext hextc (fun b t hb => (hob b t hb).2) hown
              refine OpsL.appendI (by subst_vars; decide) (by subst_vars; decide) (by (first | (simp only [ASt.ev, tmPut, ↓reduceIte, reduceIte, Nat.reduceEqDiff, plain1, *]; rfl) | fail)) (by decide) (by (simp only [tmPut, ↓reduceIte, reduceIte, Option.some.injEq, Nat.reduceEqDiff, *])) hownc (fun b t hb => by have := (hob b t hb).2; omega) (by exact rfl) (by exact rfl) (by exact rfl) (by exact rfl) (by omega) ?_
              rintro v' ob' H'' hown' ⟨b', rfl, hb'⟩ hsame
              have hpos := pieceF_pos hb0 hb32
              repeat (first | (refine OpsL.p (by subst_vars; decide) (by (first | (exact aop_move (by (first | (simp only [ASt.ev, tmPut, ↓reduceIte, reduceIte, Nat.reduceEqDiff, plain1, *]; rfl) | fail))) | (exact aop_assign (by (first | (simp only [ASt.ev, tmPut, ↓reduceIte, reduceIte, Nat.reduceEqDiff, plain1, *]; rfl) | fail))) | fail)) ?_) | (refine Trip.ops ?_) | (refine OpsL.nil ?_; ((repeat (first | refine blockExit_eq ?_ | refine blockExit_ne (by decide) ?_ | refine blockExit_normal ?_ | refine blockExit_ret ?_ | refine blockExit_goto ?_)); first | (change Trip _ _ _ _ _) | dsimp only | skip)) | fail)
              refine OpsL.call2 (by subst_vars; decide) (by (first | (simp only [ASt.ev, tmPut, ↓reduceIte, reduceIte, Nat.reduceEqDiff, plain1, *]; rfl) | fail)) (by (first | (simp only [ASt.ev, tmPut, ↓reduceIte, reduceIte, Nat.reduceEqDiff, plain1, *]; rfl) | fail)) entersSkip (skipC W0 (i := c) (by omega) (by omega)) ?_
              rintro v4 nx4 H4 ⟨rfl, rfl, rfl⟩
              have hskl := skipF_le (l := bs s) (i := c) (by omega)
              repeat (first | (refine OpsL.p (by subst_vars; decide) (by (first | (exact aop_assign (by (first | (simp only [ASt.ev, tmPut, ↓reduceIte, reduceIte, Nat.reduceEqDiff, plain1, *]; rfl) | fail))) | fail)) ?_) | (refine OpsL.nil ?_; ((repeat (first | refine blockExit_eq ?_ | refine blockExit_ne (by decide) ?_ | refine blockExit_normal ?_ | refine blockExit_ret ?_ | refine blockExit_goto ?_)); first | (change Trip _ _ _ _ _) | dsimp only | skip)) | fail)
              refine ⟨skipF (bs s) c, ⟨_, _, _, some (b', nx' + 1 + 1 + 1 + 1), v', w ++ [(q : Int)], rfl, ?_, hown', ?_, ?_, ?_, ?_, ?_, hskl.2, skipF_end c, ?_, ?_⟩, by omega⟩
              · have hcur := hext2.trans (ext_put (nx := nx' + 1 + 1) (o := boxO (esubstr s a b, k)))
                exact ⟨by have := hext.1; omega, fun i hi => by rw [hsame i (by have := hext.1; omega) (fun b t hb => by have := (hob b t hb).1; omega), hcur.2 i hi]⟩
              · intro b2 t2 hb2
                cases hb2
                rcases hb' with rfl | ⟨t, hb'⟩
                · exact ⟨by have := hext.1; omega, by omega⟩
                · have := hob _ _ hb'; exact ⟨by omega, by omega⟩
              · simp [tmPut, *]
              · simp [tmPut, *]
              · simp [tmPut, *]
              · simp [tmPut, *]
              · rw [parseAt_skip, ← hpa, hstep, hr2]
              · simp; omega
      · refine ⟨.inr rfl, _, res_tmp3, ?_, hext⟩
        rw [← hpa, parseAt_end (by omega)]
        exact ⟨wv, ob, by simp [tmPut], hown, hob⟩

end Go.Proofs.Ytngekapiemkgnaa
