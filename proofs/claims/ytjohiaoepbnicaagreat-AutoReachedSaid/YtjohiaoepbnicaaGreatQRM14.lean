import Derived.Test.YtjohiaoepbnicaaGreatQRM13
namespace Go.Am
set_option linter.unusedSimpArgs false
set_option linter.unusedVariables false
open Go.RowKit
section
variable {P : Program} {H : Heap} {nx : Nat} {ev : Operand → Option Value} {dst : Option Tmp} {type : TypeId} {pos : String} {after : Array Edge} {guard : Option (Nat × Bool)}
theorem aop_remE {t u : TypeId} {x y : Operand} {a b : Int} (hx : ev x = some (.int .i64 a)) (hy : ev y = some (.int .i64 b)) (h0 : 0 ≤ a) (hb : 0 < b) :
  aop P H nx ev ⟨dst, .binOp .rem t x y u, type, pos, after, guard⟩ = some (.int .i64 (a % b), .none) := by
 have e : a.tmod b = a % b := Int.tmod_eq_emod_of_nonneg h0
 have hb0 : ¬ b = 0 := by omega
 simp [aop, hx, hy, aBin, intArith, hb0, e]
theorem aop_quoE {t u : TypeId} {x y : Operand} {a b : Int} (hx : ev x = some (.int .i64 a)) (hy : ev y = some (.int .i64 b)) (h0 : 0 ≤ a) (hb : 0 < b) (hm : a ≤ 4611686018427387904) :
  aop P H nx ev ⟨dst, .binOp .quo t x y u, type, pos, after, guard⟩ = some (.int .i64 (a / b), .none) := by
 have e : a.tdiv b = a / b := Int.tdiv_eq_ediv_of_nonneg h0
 have hb0 : ¬ b = 0 := by omega
 have h1 := Int.ediv_nonneg h0 (show 0 ≤ b by omega)
 have h2 := Int.ediv_le_self b h0
 have w : IntKind.i64.wrap (a / b) = a / b := by rw [wrap_i64]; omega
 simp [aop, hx, hy, aBin, intArith, hb0, e, w]
theorem aop_quo7 {t u : TypeId} {x y : Operand} {a : Int} (hx : ev x = some (.int .i64 a)) (hy : ev y = some (.int .i64 7)) (h0 : -9223372036854775808 ≤ a) (h1 : a ≤ 9223372036854775807) :
  aop P H nx ev ⟨dst, .binOp .quo t x y u, type, pos, after, guard⟩ = some (.int .i64 (a.tdiv 7), .none) := by
 have w : IntKind.i64.wrap (a.tdiv 7) = a.tdiv 7 := by
  have e : -9223372036854775808 ≤ a.tdiv 7 ∧ a.tdiv 7 ≤ 9223372036854775807 := by
   rcases Int.le_total 0 a with h | h
   ·rw [Int.tdiv_eq_ediv_of_nonneg h]; omega
   ·obtain ⟨b, rfl⟩ : ∃ b : Int, a = -b := ⟨-a, by omega⟩
    rw [Int.neg_tdiv, Int.tdiv_eq_ediv_of_nonneg (by omega : 0 ≤ b)]; omega
  rw [wrap_i64]
  omega
 simp [aop, hx, hy, aBin, intArith, w]
end
end Go.Am
namespace Go.Proofs.YtjohiaoepbnicaaGreat
set_option linter.unusedSimpArgs false
set_option linter.unusedVariables false
open Go.Am Go.RowKit
attribute [local irreducible] aop OpsL Trip blockExit OpsD OpsK OpsR
theorem mixed3M : Tryz.prog.follows .mixedOrders = true := by kernel_rfl
theorem entersPick : Am.Enters Tryz.prog 25 := ⟨Tryz.f25, Tryz.func25, by kernel_rfl, by kernel_rfl⟩
theorem entersMake : Am.Enters Tryz.prog 9 := ⟨Tryz.f9, Tryz.func9, by kernel_rfl, by kernel_rfl⟩
theorem within3C (W0 : World) {nx : Nat} {H : Heap} (a m : Int) (h0 : 0 < m) (h1 : m ≤ 4611686018427387904) : ACalls Tryz.prog W0 24 [.int .i64 a, .int .i64 m] nx H fun v nx' H' => v = .int .i64 (a % m) ∧ nx' = nx ∧ H' = H :=
 (within_told W0 a m _ h0 h1 rfl).2 nx H
set_option maxRecDepth 20000 in
set_option maxHeartbeats 4000000 in
theorem pickC (W0 : World) {nx : Nat} {H : Heap} {lv : Value} {ss : List (ByteArray × Int)} (k x : Int) (hl : SymsAt H lv ss) (hss : ss.length ≤ 1000) (h0 : 0 ≤ x) :
  ACalls Tryz.prog W0 25 [lv, .int .i64 k, .int .i64 x] nx H fun v nx' H' => v = .int .i64 (pickF ss k x) ∧ Ext nx H nx' H' := by
 obtain ⟨la, lc, rfl, hl⟩ := hl
 refine ACalls.by_trip (fn := Tryz.f25) (c := _) Tryz.func25 rfl (fun tm n hn0 htm => ?_)
 have e0 : tm 0 = .slice (some la) ss.length lc := htm 0
 have e1 : tm 1 = .int .i64 k := htm 1
 have e2 : tm 2 = .int .i64 x := htm 2
 clear htm
 replace hn0 : n = 36 := hn0
 refine Trip.ok fun hok => ?_
 replace hok : ∀ id o, H id = some o → id < nx := hok
 repeat (first | refine OpsL.q (by exact oasg) ?_ | refine Trip.seq ?_ | refine Trip.ops ?_ | refine Trip.block ?_ | (refine OpsL.nil ?_; (change Trip _ _ _ _ _)))
 refine Trip.inv (fun (i : Nat) s => ∃ (tm : Nat → Value) (nx' : Nat) (H' : Heap) (ob : Option (Nat × Nat)) (v : Value), s = ⟨tm, n, H', nx'⟩ ∧ Ext nx H nx' H' ∧ OwnInts H' ob 3 v (kindsI ss k i) ∧ (∀ b t, ob = some (b, t) → nx ≤ b ∧ b < nx') ∧
   tm 0 = .slice (some la) ss.length lc ∧ tm 1 = .int .i64 k ∧ tm 2 = .int .i64 x ∧ tm 7 = v ∧ tm 8 = .int .i64 i ∧ i ≤ ss.length) (fun i => ss.length - i) 0 ?_ ?_
 ·exact ⟨_, _, _, none, _, rfl, Ext.refl, ⟨rfl, rfl, rfl⟩, fun _ _ h => (by cases h), e0, e1, e2, rfl, rfl, by omega⟩
 ·clear e0 e1 e2
  rintro i s ⟨tm, nx', H', ob, v, rfl, hext, hown, hob, e0, e1, e2, e7, e8, hi⟩
  have hkl := kindsI_len ss k i
  repeat (first | (refine OpsL.q (by first | exact omv | exact olss | exact olen | exact oixa | exact ofa) ?_) | refine Trip.seq ?_ | refine Trip.ops ?_ | refine Trip.block ?_ | refine Trip.itA (fun _ => ?_) (fun _ => ?_) | (refine Trip.skip ?_; (change Trip _ _ _ _ _)) | (refine OpsL.nil ?_; (change Trip _ _ _ _ _)))
  ·have hlt : i < ss.length := by omega
   have hc1 := cellAt_of_getc (hl i hlt)
   dsimp only at hc1
   have hc2 : cellAt H' ⟨la.block, la.off + (i : Int).toNat * 2 + 1, la.spot⟩ (.int .i64 ss[i].2) := by
    have := cell_ext hext hok hc1
    simpa using this
   have hsucc := kindsI_succ ss k hlt
   repeat (refine OpsL.q (by first | exact omv | exact old) ?_)
   by_cases hk : ss[i].2 = k
   ·refine OpsL.eqlT ?_ (c := hk)
    repeat (refine OpsL.nil ?_; (change Trip _ _ _ _ _))
    refine Trip.ifT ?_
    repeat (first | refine OpsL.q (by exact omv) ?_ | refine Trip.ops ?_)
    refine OpsL.appendI (by subst_vars; decide) (by subst_vars; decide) (by simp only [ASt.ev, tmPut, ↓reduceIte, Nat.reduceEqDiff, *]; rfl) (by decide) (by (simp only [tmPut, ↓reduceIte, reduceIte, Option.some.injEq, Nat.reduceEqDiff, *])) hown (fun b t hb => (hob b t hb).2) (by exact rfl) (by exact rfl) (by exact rfl) (by exact rfl) (by omega) ?_
    rintro v' ob' H'' hown' ⟨b, rfl, hb⟩ hsame
    repeat (first | (refine OpsL.q (by first | exact omv | exact oasg | exact oadd) ?_) | refine Trip.ops ?_ | (refine OpsL.nil ?_; ((repeat (refine blockExit_normal ?_)); first | (change Trip _ _ _ _ _) | (dsimp only))))
    rw [if_pos hk] at hsucc
    refine ⟨i + 1, ⟨_, _, _, some (b, nx' + 1), v', rfl, ?_, by rw [hsucc]; exact hown', ?_, by simp [tmPut, *], by simp [tmPut, *], by simp [tmPut, *], by simp [tmPut, *], by simp [tmPut, *], by omega⟩, by omega⟩
    ·exact ⟨by have := hext.1; omega, fun j hj => by rw [hsame j (by have := hext.1; omega) (fun b t hb => by have := (hob b t hb).1; omega), hext.2 j hj]⟩
    ·intro b' t' hb'
     cases hb'
     rcases hb with rfl | ⟨t, hb⟩
     ·exact ⟨by have := hext.1; omega, by omega⟩
     ·have := hob b t hb; exact ⟨by omega, by omega⟩
   ·refine OpsL.eqlF ?_ (c := hk)
    repeat (refine OpsL.nil ?_; (change Trip _ _ _ _ _))
    refine Trip.ifF ?_
    repeat (first | (refine OpsL.q (by first | exact omv | exact oasg | exact oadd) ?_) | refine Trip.ops ?_ | (refine Trip.skip ?_; ((repeat (refine blockExit_normal ?_)); change Trip _ _ _ _ _)) | (refine OpsL.nil ?_; (dsimp only)))
    rw [if_neg hk] at hsucc
    exact ⟨i + 1, ⟨_, _, _, ob, v, rfl, hext, by rw [hsucc]; exact hown, hob, by simp [tmPut, *], by simp [tmPut, *], by simp [tmPut, *], by simp [tmPut, *], by simp [tmPut, *], by omega⟩, by omega⟩
  ·have hi2 : i = ss.length := by omega
   subst hi2
   have hat := hown.at
   obtain ⟨ka, kc, rfl⟩ := hat.slice
   repeat (first | (refine OpsL.q (by first | exact omv | exact olen) ?_) | refine Trip.seq ?_ | refine Trip.ops ?_ | (refine Trip.exit ?_; ((repeat (refine blockExit_eq ?_)); change Trip _ _ _ _ _)))
   by_cases hz : (kindsI ss k ss.length).length = 0
   ·refine OpsL.eqlT ?_
    repeat (refine OpsL.nil ?_; (change Trip _ _ _ _ _))
    refine Trip.ifT ?_
    repeat (first | refine OpsL.q (by exact oasg) ?_ | refine Trip.seq ?_ | refine Trip.ops ?_ | (refine Trip.ret ?_; (dsimp only)) | (refine OpsL.nil ?_; (change Trip _ _ _ _ _)))
    refine ⟨.inr rfl, _, res_tmp, ?_, hext⟩
    unfold pickF
    rw [List.eq_nil_of_length_eq_zero hz]
    rfl
   ·refine OpsL.eqlF ?_
    repeat (refine OpsL.nil ?_; (change Trip _ _ _ _ _))
    refine Trip.ifF ?_
    repeat (first | (refine OpsL.q (by first | exact omv | exact olen) ?_) | refine Trip.seq ?_ | refine Trip.ops ?_ | (refine Trip.skip ?_; (change Trip _ _ _ _ _)))
    have m1 := Int.emod_nonneg x (show ((kindsI ss k ss.length).length : Int) ≠ 0 by omega)
    have m2 := Int.emod_lt_of_pos x (show (0 : Int) < (kindsI ss k ss.length).length by omega)
    refine OpsL.q (aop_remE (by simp only [ASt.ev, tmPut, ↓reduceIte, Nat.reduceEqDiff, *]; done) (by simp only [ASt.ev, tmPut, ↓reduceIte, Nat.reduceEqDiff, *]; rfl) h0 (by omega)) ?_
    obtain ⟨j, hj⟩ : ∃ j : Nat, x % ((kindsI ss k ss.length).length : Int) = j := ⟨(x % ((kindsI ss k ss.length).length : Int)).toNat, by omega⟩
    have hjl : j < (kindsI ss k ss.length).length := by omega
    obtain ⟨q, rfl, hc⟩ := intsAt_at hat hjl
    have hp : pickF ss k x = (kindsI ss k ss.length)[j] := by
     unfold pickF
     rw [hj, Int.toNat_natCast, List.getElem?_eq_getElem hjl]
    rw [hj]
    repeat (first | (refine OpsL.q (by first | exact oasg | exact oixa | exact old) ?_) | (refine Trip.ret ?_; (dsimp only)) | (refine OpsL.nil ?_; (change Trip _ _ _ _ _)))
    exact ⟨.inr rfl, _, res_tmp, by rw [hp]; simp [tmPut], hext⟩
def zeroA : List Value := [.int .i64 0, .int .i64 0, .slice none 0 0, .slice none 0 0, .slice none 0 0, .slice none 0 0, .slice none 0 0]
set_option maxRecDepth 20000 in
set_option maxHeartbeats 16000000 in
theorem makeC (W0 : World) {nx : Nat} {H : Heap} {lv nv : Value} {ss : List (ByteArray × Int)} {ns : List Int} {size most : Int} (hl : SymsAt H lv ss) (hss : ss.length ≤ 1000) (hn : IntsAt H nv ns) (h1 : 1 ≤ most) (h2 : most ≤ 100) (hs0 : -9223372036854775808 ≤ size) (hs1 : size ≤ 9223372036854775807) :
  ACalls Tryz.prog W0 9 [lv, .int .i64 size, nv, .int .i64 most] nx H fun v nx' H' => ∃ (A : Nat) (l : List (Option (Nat × Nat))) (vi vf vo vc vn : Value), v = .agg (autV (makeM ss size most ns) vi vf vo vc vn).toArray ∧ MkIn H' nx A nx' (makeM ss size most ns) l vi vf vo vc vn ∧ Ext nx H nx' H' := by
 have hl0 := hl
 obtain ⟨la, lc, rfl, hl⟩ := hl
 obtain ⟨na, nc, rfl⟩ := hn.slice
 refine ACalls.by_trip (fn := Tryz.f9) (c := _) Tryz.func9 rfl (fun tm n hn0 htm => ?_)
 have e0 : tm 0 = .slice (some la) ss.length lc := htm 0
 have e1 : tm 1 = .int .i64 size := htm 1
 have e2 : tm 2 = .slice na ns.length nc := htm 2
 have e3 : tm 3 = .int .i64 most := htm 3
 clear htm
 replace hn0 : n = 142 := hn0
 refine Trip.ok fun hok => ?_
 replace hok : ∀ id o, H id = some o → id < nx := hok
 have r1 := Int.emod_nonneg size (show most ≠ 0 by omega)
 have r2 := Int.emod_lt_of_pos size (show 0 < most by omega)
 have r3 := Int.emod_nonneg (size.tdiv 7) (show (2 : Int) ≠ 0 by omega)
 have r4 := Int.emod_lt_of_pos (size.tdiv 7) (show (0 : Int) < 2 by omega)
 repeat (first | refine Trip.seq ?_ | refine Trip.ops ?_)
 refine OpsL.new (by subst_vars; decide) (aop_alloc (l := zeroA) (by kernel_rfl)) ?_
 repeat (first | refine OpsL.q (by exact omv) ?_ | refine Trip.seq ?_ | refine Trip.ops ?_ | (refine OpsL.nil ?_; (change Trip _ _ _ _ _)))
 refine OpsL.c2 (hf := entersWithin) (hc := (within3C W0 _ _ (by omega) (by omega))) (h := ?_)
 rintro v2 n2 H2 ⟨rfl, rfl, rfl⟩
 repeat (refine OpsL.q (by first | exact omv | exact oadd) ?_)
 refine OpsL.q (aop_quo7 (by simp only [ASt.ev, tmPut, ↓reduceIte, Nat.reduceEqDiff, *]; done) (by simp only [ASt.ev, tmPut, ↓reduceIte, Nat.reduceEqDiff, *]; rfl) hs0 hs1) ?_
 repeat fail
 refine OpsL.c2 (hf := entersWithin) (hc := (within3C W0 _ _ (by omega) (by omega))) (h := ?_)
 rintro v2 n2 H2 ⟨rfl, rfl, rfl⟩
 repeat (refine OpsL.q (by exact oadd) ?_)
 refine OpsL.q (aop_build (v := .agg (autV (startM size most) (.slice none 0 0) (.slice none 0 0) (.slice none 0 0) (.slice none 0 0) (.slice none 0 0)).toArray) (l := [(0, .int .i64 (1 + size % most)), (1, .int .i64 (1 + size.tdiv 7 % 2))]) (by simp only [evParts, ASt.ev, tmPut, ↓reduceIte, reduceIte, Option.some.injEq, Nat.reduceEqDiff, *]) (by kernel_rfl)) ?_
 refine OpsL.new (by subst_vars; decide) (aop_alloc (l := zeroA) (by kernel_rfl)) ?_
 refine OpsL.upd (aop_store (k := 7) (by simp only [ASt.ev, tmPut, ↓reduceIte, Nat.reduceEqDiff, *]; rfl) (by simp only [ASt.ev, tmPut, ↓reduceIte, Nat.reduceEqDiff, *]; rfl) (by exact rfl) rfl (o := .cells (autV (startM size most) (.slice none 0 0) (.slice none 0 0) (.slice none 0 0) (.slice none 0 0) (.slice none 0 0)) 0 none false (some 30)) (by simp [setc, Heap.put, Value.cells, autV, zeroA, Value.oneCell'])) ?_
 repeat (first | refine OpsL.q (by exact oasg) ?_ | refine Trip.seq ?_ | refine Trip.ops ?_ | refine Trip.block ?_ | (refine OpsL.nil ?_; (change Trip _ _ _ _ _)))
 refine Trip.inv (fun (i : Nat) s => ∃ (tm : Nat → Value) (nx' : Nat) (H' : Heap) (a : Aut) (l : List (Option (Nat × Nat))) (vi vf vo vc vn : Value), s = ⟨tm, n, H', nx'⟩ ∧ foldM ss size most ns i = a ∧ MkIn H' (nx + 1) (nx + 1) nx' a l vi vf vo vc vn ∧ Ext nx H nx' H' ∧ H' nx = some (.cells zeroA 0 none false (some 30)) ∧
   tm 0 = .slice (some la) ss.length lc ∧ tm 2 = .slice na ns.length nc ∧ tm 8 = .pointer (some ⟨nx, 0, none⟩) ∧ tm 9 = .pointer (some ⟨nx + 1, 0, none⟩) ∧ tm 10 = .int .i64 i ∧ i ≤ ns.length ∧ i ≤ 24) (fun i => ns.length - i) 0 ?_ ?_
 ·refine ⟨_, _, _, startM size most, [none, none, none, none, none], _, _, _, _, _, rfl, rfl, ⟨Heap.put_eq, rfl, ⟨none, rfl, .inl ⟨rfl, rfl, rfl⟩⟩, ⟨none, rfl, rfl, rfl, rfl⟩, ⟨none, rfl, rfl, rfl, rfl⟩, ⟨none, rfl, rfl, rfl, rfl⟩, ⟨none, rfl, rfl, rfl, rfl⟩, ⟨fun j b t hj => ?_, fun j k b t b' t' _ hj => ?_⟩, by omega, by omega⟩, ?_, ?_, by simp [tmPut, *], by simp [tmPut, *], by simp [tmPut, *], by simp [tmPut, *], by simp [tmPut, *], by omega, by omega⟩
  ·exfalso
   rcases j with _ | _ | _ | _ | _ | j <;> simp at hj
  ·exfalso
   rcases j with _ | _ | _ | _ | _ | j <;> simp at hj
  ·exact ⟨by omega, fun i hi => by rw [Heap.put_ne (show i ≠ nx + 1 by omega), Heap.put_ne (show i ≠ nx + 1 by omega), Heap.put_ne (show i ≠ nx by omega)]⟩
  ·rw [Heap.put_ne (show nx ≠ nx + 1 by omega), Heap.put_ne (show nx ≠ nx + 1 by omega), Heap.put_eq]
 clear e0 e1 e2 e3
 rintro i s ⟨tm, nx', H', a, l, vi, vf, vo, vc, vn, rfl, hfa, hmk, hext, hz, e0, e2, e8, e9, e10, hi, hi24⟩
 refine Trip.ok fun hok' => ?_
 replace hok' : ∀ id o, H' id = some o → id < nx' := hok'
 have hgood := GoodM.fold ss (size := size) h1 ns i hi
 rw [hfa] at hgood
 have hAn := hmk.hA
 have c0 : cellAt H' ⟨nx + 1, 0, none⟩ (.int .i64 a.N) := cell_of hmk.cell rfl
 have c1 : cellAt H' ⟨nx + 1, 1, none⟩ (.int .i64 a.G) := cell_of hmk.cell rfl
 have c2 : cellAt H' ⟨nx + 1, 2, none⟩ vi := cell_of hmk.cell rfl
 have c3 : cellAt H' ⟨nx + 1, 3, none⟩ vf := cell_of hmk.cell rfl
 have c4 : cellAt H' ⟨nx + 1, 4, none⟩ vo := cell_of hmk.cell rfl
 have c5 : cellAt H' ⟨nx + 1, 5, none⟩ vc := cell_of hmk.cell rfl
 have c6 : cellAt H' ⟨nx + 1, 6, none⟩ vn := cell_of hmk.cell rfl
 have G1 := hgood.N0
 have G2 := hgood.N1
 have G3 := hgood.G0
 have G4 := hgood.G1
 have G5 := hgood.len
 by_cases hlt : i < ns.length
 ·by_cases hlt24 : i < 24
  ·obtain ⟨q, rfl, hc⟩ := intsAt_at hn hlt
   replace hc := cell_ext hext hok hc
   repeat (first | (refine OpsL.q (by first | exact omv | exact olen) ?_) | refine Trip.seq ?_ | refine Trip.ops ?_)
   refine OpsL.lssT ?_
   repeat (first | refine OpsL.q (by exact omv) ?_ | refine OpsL.ung ?_)
   refine OpsL.lssT ?_
   repeat (first | refine OpsL.q (by exact opkT) ?_ | (refine OpsL.nil ?_; (change Trip _ _ _ _ _)))
   refine Trip.ifT ?_
   repeat (first | (refine OpsL.q (by first | exact omv | exact oixa | exact old) ?_) | refine Trip.seq ?_ | refine Trip.ops ?_ | refine Trip.block ?_ | (refine Trip.skip ?_; (change Trip _ _ _ _ _)))
   refine OpsL.c2 (hf := entersWithin) (hc := (within3C W0 _ _ (by omega) (by omega))) (h := ?_)
   rintro v2 n2 H2 ⟨rfl, h2', h3'⟩
   subst h2'; subst h3'
   have y0 := Int.emod_nonneg ns[i] (show (1099511627776 : Int) ≠ 0 by omega)
   have y1 := Int.emod_lt_of_pos ns[i] (show (0 : Int) < 1099511627776 by omega)
   have hsucc := foldM_succ ss size most ns hlt
   rw [hfa] at hsucc
   generalize hy : ns[i] % 1099511627776 = y at *
   repeat (first | refine OpsL.q (by exact oasg) ?_ | refine Trip.seq ?_ | (refine OpsL.nil ?_; (change Trip _ _ _ _ _)))
   refine Trip.mono (Q := fun e st => e = .normal ∧ ∃ tm' : Nat → Value, st = ⟨tm', n, H2, n2⟩ ∧ tm' 0 = .slice (some la) ss.length lc ∧ tm' 2 = .slice (some q) ns.length nc ∧ tm' 8 = .pointer (some ⟨nx, 0, none⟩) ∧ tm' 9 = .pointer (some ⟨nx + 1, 0, none⟩) ∧ tm' 10 = .int .i64 i ∧ tm' 11 = .int .i64 y ∧ tm' 12 = .int .i64 (y / 8 % a.N) ∧ tm' 13 = .int .i64 (y / 80 % a.N)) ?_ ?_
   ·refine OpsR.drawn [] (K := fun _ _ => True) mixed3M (by kernel_rfl) (by kernel_rfl) [0, 1, 2, 3, 4, 5, 6, 7, 8, 9, 10, 11] (by kernel_rfl) trivial ?_
    refine OpsR.one rfl rfl rfl (by kernel_rfl) ?_
    repeat (first | refine OpsL.q (by exact omv) ?_ | (refine OpsL.nil ?_; (dsimp only)))
    refine OpsR.one rfl rfl rfl (by kernel_rfl) ?_
    refine OpsL.q (aop_quoE (by simp only [ASt.ev, tmPut, ↓reduceIte, Nat.reduceEqDiff, *]; rfl) (by simp only [ASt.ev, tmPut, ↓reduceIte, Nat.reduceEqDiff, *]; rfl) (by omega) (by omega) (by omega)) ?_
    repeat (refine OpsL.nil ?_; (skip))
    refine OpsR.one rfl rfl rfl (by kernel_rfl) ?_
    repeat (first | refine OpsL.q (by exact ofa) ?_ | (refine OpsL.nil ?_; (dsimp only)))
    refine OpsR.one rfl rfl rfl (by kernel_rfl) ?_
    repeat (first | refine OpsL.q (by exact old) ?_ | (refine OpsL.nil ?_; (skip)))
    refine OpsR.one rfl rfl rfl (by kernel_rfl) ?_
    refine OpsL.q (aop_remE (by simp only [ASt.ev, tmPut, ↓reduceIte, Nat.reduceEqDiff, *]; rfl) (by simp only [ASt.ev, tmPut, ↓reduceIte, Nat.reduceEqDiff, *]; rfl) (by omega) (by omega)) ?_
    repeat (refine OpsL.nil ?_; (skip))
    refine OpsR.one rfl rfl rfl (by kernel_rfl) ?_
    repeat (first | refine OpsL.q (by exact omv) ?_ | (refine OpsL.nil ?_; (skip)))
    refine OpsR.one rfl rfl rfl (by kernel_rfl) ?_
    refine OpsL.q (aop_quoE (by simp only [ASt.ev, tmPut, ↓reduceIte, Nat.reduceEqDiff, *]; rfl) (by simp only [ASt.ev, tmPut, ↓reduceIte, Nat.reduceEqDiff, *]; rfl) (by omega) (by omega) (by omega)) ?_
    repeat (refine OpsL.nil ?_; (skip))
    refine OpsR.one rfl rfl rfl (by kernel_rfl) ?_
    repeat (first | refine OpsL.q (by exact ofa) ?_ | (refine OpsL.nil ?_; (dsimp only)))
    refine OpsR.one rfl rfl rfl (by kernel_rfl) ?_
    repeat (first | refine OpsL.q (by exact old) ?_ | (refine OpsL.nil ?_; (skip)))
    refine OpsR.one rfl rfl rfl (by kernel_rfl) ?_
    refine OpsL.q (aop_remE (by simp only [ASt.ev, tmPut, ↓reduceIte, Nat.reduceEqDiff, *]; rfl) (by simp only [ASt.ev, tmPut, ↓reduceIte, Nat.reduceEqDiff, *]; rfl) (by omega) (by omega)) ?_
    repeat (refine OpsL.nil ?_; (skip))
    refine OpsR.one rfl rfl rfl (by kernel_rfl) ?_
    repeat (first | refine OpsL.q (by exact oasg) ?_ | (refine OpsL.nil ?_; (skip)))
    refine OpsR.one rfl rfl rfl (by kernel_rfl) ?_
    repeat (first | refine OpsL.q (by exact oasg) ?_ | (refine OpsL.nil ?_; (skip)))
    refine OpsR.nil ?_
    exact ⟨rfl, _, rfl, by simp [tmPut, *], by simp [tmPut, *], by simp [tmPut, *], by simp [tmPut, *], by simp [tmPut, *], by simp [tmPut, *], by simp [tmPut, *], by simp [tmPut, *]⟩
   clear e0 e2 e8 e9 e10
   rintro e st ⟨rfl, tm1, rfl, e0, e2, e8, e9, e10, e11, e12, e13⟩
   have hst : foldM ss size most ns (i + 1) = stepM ss a ns[i] := hsucc
   unfold stepM at hst
   simp only [hy] at hst
   generalize hp : y / 8 % a.N = p at *
   generalize hq : y / 80 % a.N = qq at *
   clear hsucc
   repeat (first | refine OpsL.q (by exact omv) ?_ | refine Trip.seq ?_ | refine Trip.ops ?_)
   refine OpsL.q (aop_remE (by simp only [ASt.ev, tmPut, ↓reduceIte, Nat.reduceEqDiff, *]; rfl) (by simp only [ASt.ev, tmPut, ↓reduceIte, Nat.reduceEqDiff, *]; rfl) (by omega) (by omega)) ?_
   repeat (first | refine Trip.seq ?_ | refine Trip.ops ?_ | refine Trip.block ?_ | (refine OpsL.nil ?_; (change Trip _ _ _ _ _)))
   by_cases m0 : y % 8 = 0
   ·refine OpsL.eqlT ?_ (c := m0)
    rw [if_pos m0] at hst
    repeat (first | refine OpsL.q (by exact oasg) ?_ | (refine OpsL.nil ?_; (change Trip _ _ _ _ _)))
    refine Trip.ifT ?_
    repeat (first | (refine OpsL.q (by first | exact omv | exact ofa | exact old) ?_) | refine Trip.ops ?_)
    obtain ⟨ob, hj, hown⟩ := hmk.init
    have hbl : ∀ b t, ob = some (b, t) → nx + 1 ≤ b ∧ b ≠ nx + 1 ∧ b < n2 := fun b t hb => hmk.sep.1 0 b t (by rw [hj, hb])
    refine OpsL.appendA (by subst_vars; decide) (by subst_vars; decide) (by simp only [ASt.ev, tmPut, ↓reduceIte, Nat.reduceEqDiff, *]; rfl) (by decide) (by (simp only [tmPut, ↓reduceIte, reduceIte, Option.some.injEq, Nat.reduceEqDiff, *])) hown (fun b t hb => (hbl b t hb).2.2) (by exact rfl) (by exact rfl) (by exact rfl) (by exact rfl) (by omega) ?_
    rintro v' ob' H3 hown' ⟨b, rfl, hb⟩ hsame
    have hm2 := hmk.putI (p := p) (nx1 := n2 + 1 + 1) hj (.inl hown') (by rcases hb with hb | hb; exact .inl (by omega); exact .inr hb) (by rcases hb with rfl | ⟨t, hb⟩; omega; have := hbl b t hb; omega) (by omega) hsame
    have hcA : H3 (nx + 1) = _ := (hsame (nx + 1) hAn (fun b t hb e => (hbl b t hb).2.1 e.symm)).trans hmk.cell
    repeat (refine OpsL.q (by exact ofa) ?_)
    refine OpsL.storeAt 2 (cs' := autV (putI a p) v' vf vo vc vn) (by simp only [ASt.ev, tmPut, ↓reduceIte, Nat.reduceEqDiff, *]; rfl) (by simp only [ASt.ev, tmPut, ↓reduceIte, Nat.reduceEqDiff, *]; rfl) (by exact rfl) (by rw [hown'.1]; rfl) (by rw [hown'.1]; rfl) hcA rfl (by simp [autV]) rfl ?_
    have hx5 : Ext nx H (n2 + 1 + 1) (H3.put (nx + 1) (.cells (autV (putI a p) v' vf vo vc vn) 0 none false (some 30))) := ⟨by have := hext.1; omega, fun j hj => by rw [Heap.put_ne (show j ≠ nx + 1 by omega), hsame j (by omega) (fun b t hb => by have := hbl b t hb; omega), hext.2 j hj]⟩
    have hz5 : (H3.put (nx + 1) (.cells (autV (putI a p) v' vf vo vc vn) 0 none false (some 30))) nx = some (.cells zeroA 0 none false (some 30)) := by rw [Heap.put_ne (show nx ≠ nx + 1 by omega), hsame nx (by omega) (fun b t hb => by have := hbl b t hb; omega)]; exact hz
    repeat (first | (refine OpsL.q (by first | exact omv | exact oasg | exact oadd) ?_) | refine Trip.ops ?_ | (refine OpsL.nil ?_; ((repeat (refine blockExit_normal ?_)); first | (change Trip _ _ _ _ _) | (dsimp only))))
    exact ⟨i + 1, ⟨_, _, _, _, _, _, _, _, _, _, rfl, hst, hm2, hx5, hz5, by simp [tmPut, *], by simp [tmPut, *], by simp [tmPut, *], by simp [tmPut, *], by simp [tmPut, *], by omega, by omega⟩, by omega⟩
   refine OpsL.eqlF ?_ (c := m0)
   rw [if_neg m0] at hst
   repeat (first | refine OpsL.q (by exact oasg) ?_ | (refine OpsL.nil ?_; (change Trip _ _ _ _ _)))
   refine Trip.ifF ?_
   repeat (first | refine Trip.seq ?_ | refine Trip.ops ?_)
   by_cases m1 : y % 8 = 1
   ·refine OpsL.eqlT ?_ (c := m1)
    rw [if_pos m1] at hst
    repeat (first | refine OpsL.q (by exact oasg) ?_ | (refine OpsL.nil ?_; (change Trip _ _ _ _ _)))
    refine Trip.ifT ?_
    repeat (first | (refine OpsL.q (by first | exact omv | exact ofa | exact old) ?_) | refine Trip.ops ?_)
    obtain ⟨ob, hj, hown⟩ := hmk.final
    have hbl : ∀ b t, ob = some (b, t) → nx + 1 ≤ b ∧ b ≠ nx + 1 ∧ b < n2 := fun b t hb => hmk.sep.1 1 b t (by rw [hj, hb])
    refine OpsL.appendI (by subst_vars; decide) (by subst_vars; decide) (by simp only [ASt.ev, tmPut, ↓reduceIte, Nat.reduceEqDiff, *]; rfl) (by decide) (by (simp only [tmPut, ↓reduceIte, reduceIte, Option.some.injEq, Nat.reduceEqDiff, *])) hown (fun b t hb => (hbl b t hb).2.2) (by exact rfl) (by exact rfl) (by exact rfl) (by exact rfl) (by omega) ?_
    rintro v' ob' H3 hown' ⟨b, rfl, hb⟩ hsame
    have hm2 := hmk.putF (p := p) (nx1 := n2 + 1 + 1) hj hown' (by rcases hb with hb | hb; exact .inl (by omega); exact .inr hb) (by rcases hb with rfl | ⟨t, hb⟩; omega; have := hbl b t hb; omega) (by omega) hsame
    have hcA : H3 (nx + 1) = _ := (hsame (nx + 1) hAn (fun b t hb e => (hbl b t hb).2.1 e.symm)).trans hmk.cell
    repeat (refine OpsL.q (by exact ofa) ?_)
    refine OpsL.storeAt 3 (cs' := autV (putF a p) vi v' vo vc vn) (by simp only [ASt.ev, tmPut, ↓reduceIte, Nat.reduceEqDiff, *]; rfl) (by simp only [ASt.ev, tmPut, ↓reduceIte, Nat.reduceEqDiff, *]; rfl) (by exact rfl) (by rw [hown'.1]; rfl) (by rw [hown'.1]; rfl) hcA rfl (by simp [autV]) rfl ?_
    have hx5 : Ext nx H (n2 + 1 + 1) (H3.put (nx + 1) (.cells (autV (putF a p) vi v' vo vc vn) 0 none false (some 30))) := ⟨by have := hext.1; omega, fun j hj => by rw [Heap.put_ne (show j ≠ nx + 1 by omega), hsame j (by omega) (fun b t hb => by have := hbl b t hb; omega), hext.2 j hj]⟩
    have hz5 : (H3.put (nx + 1) (.cells (autV (putF a p) vi v' vo vc vn) 0 none false (some 30))) nx = some (.cells zeroA 0 none false (some 30)) := by rw [Heap.put_ne (show nx ≠ nx + 1 by omega), hsame nx (by omega) (fun b t hb => by have := hbl b t hb; omega)]; exact hz
    repeat (first | (refine OpsL.q (by first | exact omv | exact oasg | exact oadd) ?_) | refine Trip.ops ?_ | (refine OpsL.nil ?_; ((repeat (refine blockExit_normal ?_)); first | (change Trip _ _ _ _ _) | (dsimp only))))
    exact ⟨i + 1, ⟨_, _, _, _, _, _, _, _, _, _, rfl, hst, hm2, hx5, hz5, by simp [tmPut, *], by simp [tmPut, *], by simp [tmPut, *], by simp [tmPut, *], by simp [tmPut, *], by omega, by omega⟩, by omega⟩
   refine OpsL.eqlF ?_ (c := m1)
   rw [if_neg m1] at hst
   repeat (first | refine OpsL.q (by exact oasg) ?_ | (refine OpsL.nil ?_; (change Trip _ _ _ _ _)))
   refine Trip.ifF ?_
   repeat (first | refine Trip.seq ?_ | refine Trip.ops ?_)
   by_cases mA2 : y % 8 = 2
   ·refine OpsL.eqlT ?_ (c := mA2)
    rw [if_pos (Or.inl mA2)] at hst
    repeat (first | refine OpsL.q (by exact oasg) ?_ | (refine OpsL.nil ?_; (change Trip _ _ _ _ _)))
    refine Trip.ifT ?_
    repeat (refine Trip.skip ?_; (change Trip _ _ _ _ _))
    refine Trip.ifT ?_
    repeat (first | refine OpsL.q (by exact omv) ?_ | refine Trip.seq ?_ | refine Trip.ops ?_)
    refine OpsL.q (aop_quoE (by simp only [ASt.ev, tmPut, ↓reduceIte, Nat.reduceEqDiff, *]; rfl) (by simp only [ASt.ev, tmPut, ↓reduceIte, Nat.reduceEqDiff, *]; rfl) (by omega) (by omega) (by omega)) ?_
    refine OpsL.q (aop_remE (by simp only [ASt.ev, tmPut, ↓reduceIte, Nat.reduceEqDiff, *]; rfl) (by simp only [ASt.ev, tmPut, ↓reduceIte, Nat.reduceEqDiff, *]; rfl) (by omega) (by omega)) ?_
    repeat fail
    refine OpsL.c3 (hf := entersPick) (hc := (pickC W0 1 _ (hl0.ext hext hok) hss (by omega))) (h := ?_)
    rintro v nx3 H3 ⟨rfl, x3⟩
    have hmk3 := hmk.ext x3
    have hA3 := hmk3.hA
    have d1 : cellAt H3 ⟨nx + 1, 1, none⟩ (.int .i64 a.G) := cell_of hmk3.cell rfl
    have d2 : cellAt H3 ⟨nx + 1, 4, none⟩ vo := cell_of hmk3.cell rfl
    have hx3 := hext.trans x3
    have hz3 : H3 nx = _ := (x3.2 nx (by omega)).trans hz
    generalize hpk : pickF ss 1 (y / 800 % 7) = z at *
    repeat (first | (refine OpsL.q (by first | exact oasg | exact omv) ?_) | refine Trip.seq ?_ | refine Trip.ops ?_ | (refine OpsL.nil ?_; (change Trip _ _ _ _ _)))
    repeat fail
    by_cases hk : 0 ≤ z
    ·refine OpsL.geqT ?_ (c := hk)
     rw [if_pos hk] at hst
     repeat (refine OpsL.nil ?_; (change Trip _ _ _ _ _))
     refine Trip.ifT ?_
     repeat fail
     have b1 := Int.emod_nonneg (y / 8000) (show a.G ≠ 0 by omega)
     have b2 := Int.emod_lt_of_pos (y / 8000) (show 0 < a.G by omega)
     have b3 := Int.emod_nonneg (y / 8000) (show a.G + 1 ≠ 0 by omega)
     have b4 := Int.emod_lt_of_pos (y / 8000) (show 0 < a.G + 1 by omega)
     refine OpsR.drawn [1, 12, 13, 15] (K := fun _ H1 => cellAt H1 ⟨nx + 1, 1, none⟩ (.int .i64 a.G)) mixed3M (by kernel_rfl) (by kernel_rfl) [0, 2, 3, 4, 5, 6, 7, 8, 9, 10, 11, 1, 12, 13, 14, 15] (by kernel_rfl) d1 ?_
     refine OpsR.one rfl rfl rfl (by kernel_rfl) ?_
     repeat (first | refine OpsL.q (by exact ofa) ?_ | (refine OpsL.nil ?_; (dsimp only)))
     refine OpsR.one rfl rfl rfl (by kernel_rfl) ?_
     repeat (first | refine OpsL.q (by exact omv) ?_ | (refine OpsL.nil ?_; (skip)))
     refine OpsR.one rfl rfl rfl (by kernel_rfl) ?_
     repeat (first | refine OpsL.q (by exact omv) ?_ | (refine OpsL.nil ?_; (skip)))
     refine OpsR.one rfl rfl rfl (by kernel_rfl) ?_
     repeat (first | refine OpsL.q (by exact omv) ?_ | (refine OpsL.nil ?_; (skip)))
     refine OpsR.one rfl rfl rfl (by kernel_rfl) ?_
     repeat (first | refine OpsL.q (by exact omv) ?_ | (refine OpsL.nil ?_; (skip)))
     refine OpsR.one rfl rfl rfl (by kernel_rfl) ?_
     refine OpsL.q (aop_quoE (by simp only [ASt.ev, tmPut, ↓reduceIte, Nat.reduceEqDiff, *]; rfl) (by simp only [ASt.ev, tmPut, ↓reduceIte, Nat.reduceEqDiff, *]; rfl) (by omega) (by omega) (by omega)) ?_
     repeat (refine OpsL.nil ?_; (skip))
     refine OpsR.one rfl rfl rfl (by kernel_rfl) ?_
     repeat (first | refine OpsL.q (by exact ofa) ?_ | (refine OpsL.nil ?_; (dsimp only)))
     refine OpsR.sp (v := .int .i64 a.G) rfl (by kernel_rfl) (by subst_vars; decide) d1 (fun H2 nx2 hK => aop_load (by simp only [ASt.ev, tmPut, ↓reduceIte, Nat.reduceEqDiff, *]; rfl) (by exact rfl) rfl hK) ?_
     refine OpsR.one rfl rfl rfl (by kernel_rfl) ?_
     refine OpsL.q (aop_remE (by simp only [ASt.ev, tmPut, ↓reduceIte, Nat.reduceEqDiff, *]; rfl) (by simp only [ASt.ev, tmPut, ↓reduceIte, Nat.reduceEqDiff, *]; rfl) (by omega) (by omega)) ?_
     repeat (refine OpsL.nil ?_; (skip))
     refine OpsR.one rfl rfl rfl (by kernel_rfl) ?_
     repeat (first | refine OpsL.q (by exact oadd) ?_ | (refine OpsL.nil ?_; (skip)))
     refine OpsR.one rfl rfl rfl (by kernel_rfl) ?_
     refine OpsL.q (aop_build (v := .agg (e4 (p, z, qq, 1 + y / 8000 % a.G)).toArray) (l := [(0, .int .i64 p), (1, .int .i64 z), (2, .int .i64 qq), (3, .int .i64 (1 + y / 8000 % a.G))]) (by simp only [evParts, ASt.ev, tmPut, ↓reduceIte, reduceIte, Option.some.injEq, Nat.reduceEqDiff, *]) (by kernel_rfl)) ?_
     repeat (refine OpsL.nil ?_; (skip))
     refine OpsR.act2 (by kernel_rfl) (ActStep.walk rfl rfl ?_) (ActStep.walk rfl rfl ?_)
     ·skip
      refine OpsL.q (aop_load (by simp only [ASt.ev, tmPut, ↓reduceIte, Nat.reduceEqDiff, *]; rfl) (by exact rfl) rfl d2) ?_
      refine OpsL.nil ⟨d1, ?_⟩
      refine OpsR.act (by kernel_rfl) (ActStep.walk rfl rfl ?_)
      refine bsO (by subst_vars; decide) (by simp only [ASt.ev, tmPut, ↓reduceIte, Nat.reduceEqDiff, *]; rfl) fun G3 x4 hone => ?_
      refine OpsL.nil ⟨cell_of ((x4.2 (nx + 1) hA3).trans hmk3.cell) rfl, ?_⟩
      refine OpsR.act (by kernel_rfl) (ActStep.walk rfl rfl ?_)
      refine appO hmk3 (by omega) x4 hone (by subst_vars; decide) (by simp only [ASt.ev, tmPut, ↓reduceIte, Nat.reduceEqDiff, *]; done) (by simp only [ASt.ev, tmPut, ↓reduceIte, Nat.reduceEqDiff, *]; done) fun v' nx5 H5 l5 hcA hm2 hsame hle5 w1 w2 => ?_
      refine OpsL.nil ⟨cell_of hcA rfl, ?_⟩
      refine OpsR.one rfl rfl rfl (by kernel_rfl) ?_
      repeat (first | refine OpsL.q (by exact ofa) ?_ | (refine OpsL.nil ?_; (dsimp only)))
      refine OpsR.act (by kernel_rfl) (ActStep.walk rfl rfl ?_)
      refine OpsL.storeAt 4 (cs' := autV (putO a (p, z, qq, 1 + y / 8000 % a.G)) vi vf v' vc vn) (by simp only [ASt.ev, tmPut, ↓reduceIte, Nat.reduceEqDiff, *]; rfl) (by simp only [ASt.ev, tmPut, ↓reduceIte, Nat.reduceEqDiff, *]; done) (by exact rfl) w1 w2 hcA rfl (by simp [autV]) rfl ?_
      refine OpsL.nil ⟨cell_of Heap.put_eq rfl, ?_⟩
      refine OpsR.nil ?_
      ((repeat (refine blockExit_normal ?_)); change Trip _ _ _ _ _)
      repeat (first | (refine OpsL.q (by first | exact omv | exact oasg | exact oadd) ?_) | refine Trip.ops ?_ | (refine OpsL.nil ?_; (dsimp only)))
      exact ⟨i + 1, ⟨_, _, _, _, _, _, _, _, _, _, rfl, hst, hm2, ⟨by have := hx3.1; omega, fun j hj => by rw [Heap.put_ne (show j ≠ nx + 1 by omega), hsame j (by omega) (by omega), hx3.2 j hj]⟩, by rw [Heap.put_ne (show nx ≠ nx + 1 by omega), hsame nx (by omega) (by omega)]; exact hz3, by simp [tmPut, *], by simp [tmPut, *], by simp [tmPut, *], by simp [tmPut, *], by simp [tmPut, *], by omega, by omega⟩, by omega⟩
     ·skip
      refine bsO (by subst_vars; decide) (by simp only [ASt.ev, tmPut, ↓reduceIte, Nat.reduceEqDiff, *]; rfl) fun G3 x4 hone => ?_
      refine OpsL.nil ⟨cell_of ((x4.2 (nx + 1) hA3).trans hmk3.cell) rfl, ?_⟩
      refine OpsR.act (by kernel_rfl) (ActStep.walk rfl rfl ?_)
      refine OpsL.q (aop_load (by simp only [ASt.ev, tmPut, ↓reduceIte, Nat.reduceEqDiff, *]; rfl) (by exact rfl) rfl (cell_of ((x4.2 (nx + 1) hA3).trans hmk3.cell) rfl)) ?_
      refine OpsL.nil ⟨cell_of ((x4.2 (nx + 1) hA3).trans hmk3.cell) rfl, ?_⟩
      refine OpsR.act (by kernel_rfl) (ActStep.walk rfl rfl ?_)
      refine appO hmk3 (by omega) x4 hone (by subst_vars; decide) (by simp only [ASt.ev, tmPut, ↓reduceIte, Nat.reduceEqDiff, *]; done) (by simp only [ASt.ev, tmPut, ↓reduceIte, Nat.reduceEqDiff, *]; done) fun v' nx5 H5 l5 hcA hm2 hsame hle5 w1 w2 => ?_
      refine OpsL.nil ⟨cell_of hcA rfl, ?_⟩
      refine OpsR.one rfl rfl rfl (by kernel_rfl) ?_
      repeat (first | refine OpsL.q (by exact ofa) ?_ | (refine OpsL.nil ?_; (dsimp only)))
      refine OpsR.act (by kernel_rfl) (ActStep.walk rfl rfl ?_)
      refine OpsL.storeAt 4 (cs' := autV (putO a (p, z, qq, 1 + y / 8000 % a.G)) vi vf v' vc vn) (by simp only [ASt.ev, tmPut, ↓reduceIte, Nat.reduceEqDiff, *]; rfl) (by simp only [ASt.ev, tmPut, ↓reduceIte, Nat.reduceEqDiff, *]; done) (by exact rfl) w1 w2 hcA rfl (by simp [autV]) rfl ?_
      refine OpsL.nil ⟨cell_of Heap.put_eq rfl, ?_⟩
      refine OpsR.nil ?_
      ((repeat (refine blockExit_normal ?_)); change Trip _ _ _ _ _)
      repeat (first | (refine OpsL.q (by first | exact omv | exact oasg | exact oadd) ?_) | refine Trip.ops ?_ | (refine OpsL.nil ?_; (dsimp only)))
      exact ⟨i + 1, ⟨_, _, _, _, _, _, _, _, _, _, rfl, hst, hm2, ⟨by have := hx3.1; omega, fun j hj => by rw [Heap.put_ne (show j ≠ nx + 1 by omega), hsame j (by omega) (by omega), hx3.2 j hj]⟩, by rw [Heap.put_ne (show nx ≠ nx + 1 by omega), hsame nx (by omega) (by omega)]; exact hz3, by simp [tmPut, *], by simp [tmPut, *], by simp [tmPut, *], by simp [tmPut, *], by simp [tmPut, *], by omega, by omega⟩, by omega⟩
    ·refine OpsL.geqF ?_ (c := hk)
     rw [if_neg hk] at hst
     repeat (refine OpsL.nil ?_; (change Trip _ _ _ _ _))
     refine Trip.ifF ?_
     repeat (first | (refine OpsL.q (by first | exact omv | exact oasg | exact oadd) ?_) | refine Trip.ops ?_ | (refine Trip.skip ?_; ((repeat (refine blockExit_normal ?_)); change Trip _ _ _ _ _)) | (refine OpsL.nil ?_; (dsimp only)))
     exact ⟨i + 1, ⟨_, _, _, _, _, _, _, _, _, _, rfl, hst, hmk3, hx3, hz3, by simp [tmPut, *], by simp [tmPut, *], by simp [tmPut, *], by simp [tmPut, *], by simp [tmPut, *], by omega, by omega⟩, by omega⟩
   refine OpsL.eqlF ?_ (c := mA2)
   repeat (first | refine OpsL.q (by exact oasg) ?_ | (refine OpsL.nil ?_; (change Trip _ _ _ _ _)))
   refine Trip.ifF ?_
   repeat (refine Trip.ops ?_)
   by_cases mA3 : y % 8 = 3
   ·refine OpsL.eqlT ?_ (c := mA3)
    rw [if_pos (Or.inr mA3)] at hst
    repeat (first | refine OpsL.q (by exact oasg) ?_ | (refine OpsL.nil ?_; (change Trip _ _ _ _ _)))
    refine Trip.ifT ?_
    repeat (first | refine OpsL.q (by exact omv) ?_ | refine Trip.seq ?_ | refine Trip.ops ?_)
    refine OpsL.q (aop_quoE (by simp only [ASt.ev, tmPut, ↓reduceIte, Nat.reduceEqDiff, *]; rfl) (by simp only [ASt.ev, tmPut, ↓reduceIte, Nat.reduceEqDiff, *]; rfl) (by omega) (by omega) (by omega)) ?_
    refine OpsL.q (aop_remE (by simp only [ASt.ev, tmPut, ↓reduceIte, Nat.reduceEqDiff, *]; rfl) (by simp only [ASt.ev, tmPut, ↓reduceIte, Nat.reduceEqDiff, *]; rfl) (by omega) (by omega)) ?_
    repeat fail
    refine OpsL.c3 (hf := entersPick) (hc := (pickC W0 1 _ (hl0.ext hext hok) hss (by omega))) (h := ?_)
    rintro v nx3 H3 ⟨rfl, x3⟩
    have hmk3 := hmk.ext x3
    have hA3 := hmk3.hA
    have d1 : cellAt H3 ⟨nx + 1, 1, none⟩ (.int .i64 a.G) := cell_of hmk3.cell rfl
    have d2 : cellAt H3 ⟨nx + 1, 4, none⟩ vo := cell_of hmk3.cell rfl
    have hx3 := hext.trans x3
    have hz3 : H3 nx = _ := (x3.2 nx (by omega)).trans hz
    generalize hpk : pickF ss 1 (y / 800 % 7) = z at *
    repeat (first | (refine OpsL.q (by first | exact oasg | exact omv) ?_) | refine Trip.seq ?_ | refine Trip.ops ?_ | (refine OpsL.nil ?_; (change Trip _ _ _ _ _)))
    repeat fail
    by_cases hk : 0 ≤ z
    ·refine OpsL.geqT ?_ (c := hk)
     rw [if_pos hk] at hst
     repeat (refine OpsL.nil ?_; (change Trip _ _ _ _ _))
     refine Trip.ifT ?_
     repeat fail
     have b1 := Int.emod_nonneg (y / 8000) (show a.G ≠ 0 by omega)
     have b2 := Int.emod_lt_of_pos (y / 8000) (show 0 < a.G by omega)
     have b3 := Int.emod_nonneg (y / 8000) (show a.G + 1 ≠ 0 by omega)
     have b4 := Int.emod_lt_of_pos (y / 8000) (show 0 < a.G + 1 by omega)
     refine OpsR.drawn [1, 12, 13, 15] (K := fun _ H1 => cellAt H1 ⟨nx + 1, 1, none⟩ (.int .i64 a.G)) mixed3M (by kernel_rfl) (by kernel_rfl) [0, 2, 3, 4, 5, 6, 7, 8, 9, 10, 11, 1, 12, 13, 14, 15] (by kernel_rfl) d1 ?_
     refine OpsR.one rfl rfl rfl (by kernel_rfl) ?_
     repeat (first | refine OpsL.q (by exact ofa) ?_ | (refine OpsL.nil ?_; (dsimp only)))
     refine OpsR.one rfl rfl rfl (by kernel_rfl) ?_
     repeat (first | refine OpsL.q (by exact omv) ?_ | (refine OpsL.nil ?_; (skip)))
     refine OpsR.one rfl rfl rfl (by kernel_rfl) ?_
     repeat (first | refine OpsL.q (by exact omv) ?_ | (refine OpsL.nil ?_; (skip)))
     refine OpsR.one rfl rfl rfl (by kernel_rfl) ?_
     repeat (first | refine OpsL.q (by exact omv) ?_ | (refine OpsL.nil ?_; (skip)))
     refine OpsR.one rfl rfl rfl (by kernel_rfl) ?_
     repeat (first | refine OpsL.q (by exact omv) ?_ | (refine OpsL.nil ?_; (skip)))
     refine OpsR.one rfl rfl rfl (by kernel_rfl) ?_
     refine OpsL.q (aop_quoE (by simp only [ASt.ev, tmPut, ↓reduceIte, Nat.reduceEqDiff, *]; rfl) (by simp only [ASt.ev, tmPut, ↓reduceIte, Nat.reduceEqDiff, *]; rfl) (by omega) (by omega) (by omega)) ?_
     repeat (refine OpsL.nil ?_; (skip))
     refine OpsR.one rfl rfl rfl (by kernel_rfl) ?_
     repeat (first | refine OpsL.q (by exact ofa) ?_ | (refine OpsL.nil ?_; (dsimp only)))
     refine OpsR.sp (v := .int .i64 a.G) rfl (by kernel_rfl) (by subst_vars; decide) d1 (fun H2 nx2 hK => aop_load (by simp only [ASt.ev, tmPut, ↓reduceIte, Nat.reduceEqDiff, *]; rfl) (by exact rfl) rfl hK) ?_
     refine OpsR.one rfl rfl rfl (by kernel_rfl) ?_
     refine OpsL.q (aop_remE (by simp only [ASt.ev, tmPut, ↓reduceIte, Nat.reduceEqDiff, *]; rfl) (by simp only [ASt.ev, tmPut, ↓reduceIte, Nat.reduceEqDiff, *]; rfl) (by omega) (by omega)) ?_
     repeat (refine OpsL.nil ?_; (skip))
     refine OpsR.one rfl rfl rfl (by kernel_rfl) ?_
     repeat (first | refine OpsL.q (by exact oadd) ?_ | (refine OpsL.nil ?_; (skip)))
     refine OpsR.one rfl rfl rfl (by kernel_rfl) ?_
     refine OpsL.q (aop_build (v := .agg (e4 (p, z, qq, 1 + y / 8000 % a.G)).toArray) (l := [(0, .int .i64 p), (1, .int .i64 z), (2, .int .i64 qq), (3, .int .i64 (1 + y / 8000 % a.G))]) (by simp only [evParts, ASt.ev, tmPut, ↓reduceIte, reduceIte, Option.some.injEq, Nat.reduceEqDiff, *]) (by kernel_rfl)) ?_
     repeat (refine OpsL.nil ?_; (skip))
     refine OpsR.act2 (by kernel_rfl) (ActStep.walk rfl rfl ?_) (ActStep.walk rfl rfl ?_)
     ·skip
      refine OpsL.q (aop_load (by simp only [ASt.ev, tmPut, ↓reduceIte, Nat.reduceEqDiff, *]; rfl) (by exact rfl) rfl d2) ?_
      refine OpsL.nil ⟨d1, ?_⟩
      refine OpsR.act (by kernel_rfl) (ActStep.walk rfl rfl ?_)
      refine bsO (by subst_vars; decide) (by simp only [ASt.ev, tmPut, ↓reduceIte, Nat.reduceEqDiff, *]; rfl) fun G3 x4 hone => ?_
      refine OpsL.nil ⟨cell_of ((x4.2 (nx + 1) hA3).trans hmk3.cell) rfl, ?_⟩
      refine OpsR.act (by kernel_rfl) (ActStep.walk rfl rfl ?_)
      refine appO hmk3 (by omega) x4 hone (by subst_vars; decide) (by simp only [ASt.ev, tmPut, ↓reduceIte, Nat.reduceEqDiff, *]; done) (by simp only [ASt.ev, tmPut, ↓reduceIte, Nat.reduceEqDiff, *]; done) fun v' nx5 H5 l5 hcA hm2 hsame hle5 w1 w2 => ?_
      refine OpsL.nil ⟨cell_of hcA rfl, ?_⟩
      refine OpsR.one rfl rfl rfl (by kernel_rfl) ?_
      repeat (first | refine OpsL.q (by exact ofa) ?_ | (refine OpsL.nil ?_; (dsimp only)))
      refine OpsR.act (by kernel_rfl) (ActStep.walk rfl rfl ?_)
      refine OpsL.storeAt 4 (cs' := autV (putO a (p, z, qq, 1 + y / 8000 % a.G)) vi vf v' vc vn) (by simp only [ASt.ev, tmPut, ↓reduceIte, Nat.reduceEqDiff, *]; rfl) (by simp only [ASt.ev, tmPut, ↓reduceIte, Nat.reduceEqDiff, *]; done) (by exact rfl) w1 w2 hcA rfl (by simp [autV]) rfl ?_
      refine OpsL.nil ⟨cell_of Heap.put_eq rfl, ?_⟩
      refine OpsR.nil ?_
      ((repeat (refine blockExit_normal ?_)); change Trip _ _ _ _ _)
      repeat (first | (refine OpsL.q (by first | exact omv | exact oasg | exact oadd) ?_) | refine Trip.ops ?_ | (refine OpsL.nil ?_; (dsimp only)))
      exact ⟨i + 1, ⟨_, _, _, _, _, _, _, _, _, _, rfl, hst, hm2, ⟨by have := hx3.1; omega, fun j hj => by rw [Heap.put_ne (show j ≠ nx + 1 by omega), hsame j (by omega) (by omega), hx3.2 j hj]⟩, by rw [Heap.put_ne (show nx ≠ nx + 1 by omega), hsame nx (by omega) (by omega)]; exact hz3, by simp [tmPut, *], by simp [tmPut, *], by simp [tmPut, *], by simp [tmPut, *], by simp [tmPut, *], by omega, by omega⟩, by omega⟩
     ·skip
      refine bsO (by subst_vars; decide) (by simp only [ASt.ev, tmPut, ↓reduceIte, Nat.reduceEqDiff, *]; rfl) fun G3 x4 hone => ?_
      refine OpsL.nil ⟨cell_of ((x4.2 (nx + 1) hA3).trans hmk3.cell) rfl, ?_⟩
      refine OpsR.act (by kernel_rfl) (ActStep.walk rfl rfl ?_)
      refine OpsL.q (aop_load (by simp only [ASt.ev, tmPut, ↓reduceIte, Nat.reduceEqDiff, *]; rfl) (by exact rfl) rfl (cell_of ((x4.2 (nx + 1) hA3).trans hmk3.cell) rfl)) ?_
      refine OpsL.nil ⟨cell_of ((x4.2 (nx + 1) hA3).trans hmk3.cell) rfl, ?_⟩
      refine OpsR.act (by kernel_rfl) (ActStep.walk rfl rfl ?_)
      refine appO hmk3 (by omega) x4 hone (by subst_vars; decide) (by simp only [ASt.ev, tmPut, ↓reduceIte, Nat.reduceEqDiff, *]; done) (by simp only [ASt.ev, tmPut, ↓reduceIte, Nat.reduceEqDiff, *]; done) fun v' nx5 H5 l5 hcA hm2 hsame hle5 w1 w2 => ?_
      refine OpsL.nil ⟨cell_of hcA rfl, ?_⟩
      refine OpsR.one rfl rfl rfl (by kernel_rfl) ?_
      repeat (first | refine OpsL.q (by exact ofa) ?_ | (refine OpsL.nil ?_; (dsimp only)))
      refine OpsR.act (by kernel_rfl) (ActStep.walk rfl rfl ?_)
      refine OpsL.storeAt 4 (cs' := autV (putO a (p, z, qq, 1 + y / 8000 % a.G)) vi vf v' vc vn) (by simp only [ASt.ev, tmPut, ↓reduceIte, Nat.reduceEqDiff, *]; rfl) (by simp only [ASt.ev, tmPut, ↓reduceIte, Nat.reduceEqDiff, *]; done) (by exact rfl) w1 w2 hcA rfl (by simp [autV]) rfl ?_
      refine OpsL.nil ⟨cell_of Heap.put_eq rfl, ?_⟩
      refine OpsR.nil ?_
      ((repeat (refine blockExit_normal ?_)); change Trip _ _ _ _ _)
      repeat (first | (refine OpsL.q (by first | exact omv | exact oasg | exact oadd) ?_) | refine Trip.ops ?_ | (refine OpsL.nil ?_; (dsimp only)))
      exact ⟨i + 1, ⟨_, _, _, _, _, _, _, _, _, _, rfl, hst, hm2, ⟨by have := hx3.1; omega, fun j hj => by rw [Heap.put_ne (show j ≠ nx + 1 by omega), hsame j (by omega) (by omega), hx3.2 j hj]⟩, by rw [Heap.put_ne (show nx ≠ nx + 1 by omega), hsame nx (by omega) (by omega)]; exact hz3, by simp [tmPut, *], by simp [tmPut, *], by simp [tmPut, *], by simp [tmPut, *], by simp [tmPut, *], by omega, by omega⟩, by omega⟩
    ·refine OpsL.geqF ?_ (c := hk)
     rw [if_neg hk] at hst
     repeat (refine OpsL.nil ?_; (change Trip _ _ _ _ _))
     refine Trip.ifF ?_
     repeat (first | (refine OpsL.q (by first | exact omv | exact oasg | exact oadd) ?_) | refine Trip.ops ?_ | (refine Trip.skip ?_; ((repeat (refine blockExit_normal ?_)); change Trip _ _ _ _ _)) | (refine OpsL.nil ?_; (dsimp only)))
     exact ⟨i + 1, ⟨_, _, _, _, _, _, _, _, _, _, rfl, hst, hmk3, hx3, hz3, by simp [tmPut, *], by simp [tmPut, *], by simp [tmPut, *], by simp [tmPut, *], by simp [tmPut, *], by omega, by omega⟩, by omega⟩
   refine OpsL.eqlF ?_ (c := mA3)
   rw [if_neg (by omega)] at hst
   repeat (first | refine OpsL.q (by exact oasg) ?_ | (refine OpsL.nil ?_; (change Trip _ _ _ _ _)))
   refine Trip.ifF ?_
   repeat (first | refine Trip.seq ?_ | refine Trip.ops ?_)
   by_cases mA4 : y % 8 = 4
   ·refine OpsL.eqlT ?_ (c := mA4)
    rw [if_pos (Or.inl mA4)] at hst
    repeat (first | refine OpsL.q (by exact oasg) ?_ | (refine OpsL.nil ?_; (change Trip _ _ _ _ _)))
    refine Trip.ifT ?_
    repeat (refine Trip.skip ?_; (change Trip _ _ _ _ _))
    refine Trip.ifT ?_
    repeat (first | refine OpsL.q (by exact omv) ?_ | refine Trip.seq ?_ | refine Trip.ops ?_)
    refine OpsL.q (aop_quoE (by simp only [ASt.ev, tmPut, ↓reduceIte, Nat.reduceEqDiff, *]; rfl) (by simp only [ASt.ev, tmPut, ↓reduceIte, Nat.reduceEqDiff, *]; rfl) (by omega) (by omega) (by omega)) ?_
    refine OpsL.q (aop_remE (by simp only [ASt.ev, tmPut, ↓reduceIte, Nat.reduceEqDiff, *]; rfl) (by simp only [ASt.ev, tmPut, ↓reduceIte, Nat.reduceEqDiff, *]; rfl) (by omega) (by omega)) ?_
    repeat fail
    refine OpsL.c3 (hf := entersPick) (hc := (pickC W0 2 _ (hl0.ext hext hok) hss (by omega))) (h := ?_)
    rintro v nx3 H3 ⟨rfl, x3⟩
    have hmk3 := hmk.ext x3
    have hA3 := hmk3.hA
    have d1 : cellAt H3 ⟨nx + 1, 1, none⟩ (.int .i64 a.G) := cell_of hmk3.cell rfl
    have d2 : cellAt H3 ⟨nx + 1, 5, none⟩ vc := cell_of hmk3.cell rfl
    have hx3 := hext.trans x3
    have hz3 : H3 nx = _ := (x3.2 nx (by omega)).trans hz
    generalize hpk : pickF ss 2 (y / 800 % 7) = z at *
    repeat (first | (refine OpsL.q (by first | exact oasg | exact omv) ?_) | refine Trip.seq ?_ | refine Trip.ops ?_ | (refine OpsL.nil ?_; (change Trip _ _ _ _ _)))
    repeat fail
    by_cases hk : 0 ≤ z
    ·refine OpsL.geqT ?_ (c := hk)
     rw [if_pos hk] at hst
     repeat (refine OpsL.nil ?_; (change Trip _ _ _ _ _))
     refine Trip.ifT ?_
     repeat fail
     have b1 := Int.emod_nonneg (y / 8000) (show a.G ≠ 0 by omega)
     have b2 := Int.emod_lt_of_pos (y / 8000) (show 0 < a.G by omega)
     have b3 := Int.emod_nonneg (y / 8000) (show a.G + 1 ≠ 0 by omega)
     have b4 := Int.emod_lt_of_pos (y / 8000) (show 0 < a.G + 1 by omega)
     refine OpsR.drawn [1, 12, 13, 15] (K := fun _ H1 => cellAt H1 ⟨nx + 1, 1, none⟩ (.int .i64 a.G)) mixed3M (by kernel_rfl) (by kernel_rfl) [0, 2, 3, 4, 5, 6, 7, 8, 9, 10, 11, 1, 12, 13, 14, 15] (by kernel_rfl) d1 ?_
     refine OpsR.one rfl rfl rfl (by kernel_rfl) ?_
     repeat (first | refine OpsL.q (by exact ofa) ?_ | (refine OpsL.nil ?_; (dsimp only)))
     refine OpsR.one rfl rfl rfl (by kernel_rfl) ?_
     repeat (first | refine OpsL.q (by exact omv) ?_ | (refine OpsL.nil ?_; (skip)))
     refine OpsR.one rfl rfl rfl (by kernel_rfl) ?_
     repeat (first | refine OpsL.q (by exact omv) ?_ | (refine OpsL.nil ?_; (skip)))
     refine OpsR.one rfl rfl rfl (by kernel_rfl) ?_
     repeat (first | refine OpsL.q (by exact omv) ?_ | (refine OpsL.nil ?_; (skip)))
     refine OpsR.one rfl rfl rfl (by kernel_rfl) ?_
     refine OpsL.q (aop_quoE (by simp only [ASt.ev, tmPut, ↓reduceIte, Nat.reduceEqDiff, *]; rfl) (by simp only [ASt.ev, tmPut, ↓reduceIte, Nat.reduceEqDiff, *]; rfl) (by omega) (by omega) (by omega)) ?_
     repeat (refine OpsL.nil ?_; (skip))
     refine OpsR.one rfl rfl rfl (by kernel_rfl) ?_
     repeat (first | refine OpsL.q (by exact ofa) ?_ | (refine OpsL.nil ?_; (dsimp only)))
     refine OpsR.sp (v := .int .i64 a.G) rfl (by kernel_rfl) (by subst_vars; decide) d1 (fun H2 nx2 hK => aop_load (by simp only [ASt.ev, tmPut, ↓reduceIte, Nat.reduceEqDiff, *]; rfl) (by exact rfl) rfl hK) ?_
     refine OpsR.one rfl rfl rfl (by kernel_rfl) ?_
     repeat (first | refine OpsL.q (by exact oadd) ?_ | (refine OpsL.nil ?_; (skip)))
     refine OpsR.one rfl rfl rfl (by kernel_rfl) ?_
     refine OpsL.q (aop_remE (by simp only [ASt.ev, tmPut, ↓reduceIte, Nat.reduceEqDiff, *]; rfl) (by simp only [ASt.ev, tmPut, ↓reduceIte, Nat.reduceEqDiff, *]; rfl) (by omega) (by omega)) ?_
     repeat (refine OpsL.nil ?_; (skip))
     refine OpsR.one rfl rfl rfl (by kernel_rfl) ?_
     repeat (first | refine OpsL.q (by exact omv) ?_ | (refine OpsL.nil ?_; (skip)))
     refine OpsR.one rfl rfl rfl (by kernel_rfl) ?_
     refine OpsL.q (aop_build (v := .agg (e4 (p, z, y / 8000 % (a.G + 1), qq)).toArray) (l := [(0, .int .i64 p), (1, .int .i64 z), (2, .int .i64 (y / 8000 % (a.G + 1))), (3, .int .i64 qq)]) (by simp only [evParts, ASt.ev, tmPut, ↓reduceIte, reduceIte, Option.some.injEq, Nat.reduceEqDiff, *]) (by kernel_rfl)) ?_
     repeat (refine OpsL.nil ?_; (skip))
     refine OpsR.act2 (by kernel_rfl) (ActStep.walk rfl rfl ?_) (ActStep.walk rfl rfl ?_)
     ·skip
      refine OpsL.q (aop_load (by simp only [ASt.ev, tmPut, ↓reduceIte, Nat.reduceEqDiff, *]; rfl) (by exact rfl) rfl d2) ?_
      refine OpsL.nil ⟨d1, ?_⟩
      refine OpsR.act (by kernel_rfl) (ActStep.walk rfl rfl ?_)
      refine bsC (by subst_vars; decide) (by simp only [ASt.ev, tmPut, ↓reduceIte, Nat.reduceEqDiff, *]; rfl) fun G3 x4 hone => ?_
      refine OpsL.nil ⟨cell_of ((x4.2 (nx + 1) hA3).trans hmk3.cell) rfl, ?_⟩
      refine OpsR.act (by kernel_rfl) (ActStep.walk rfl rfl ?_)
      refine appC hmk3 (by omega) x4 hone (by subst_vars; decide) (by simp only [ASt.ev, tmPut, ↓reduceIte, Nat.reduceEqDiff, *]; done) (by simp only [ASt.ev, tmPut, ↓reduceIte, Nat.reduceEqDiff, *]; done) fun v' nx5 H5 l5 hcA hm2 hsame hle5 w1 w2 => ?_
      refine OpsL.nil ⟨cell_of hcA rfl, ?_⟩
      refine OpsR.one rfl rfl rfl (by kernel_rfl) ?_
      repeat (first | refine OpsL.q (by exact ofa) ?_ | (refine OpsL.nil ?_; (dsimp only)))
      refine OpsR.act (by kernel_rfl) (ActStep.walk rfl rfl ?_)
      refine OpsL.storeAt 5 (cs' := autV (putC a (p, z, y / 8000 % (a.G + 1), qq)) vi vf vo v' vn) (by simp only [ASt.ev, tmPut, ↓reduceIte, Nat.reduceEqDiff, *]; rfl) (by simp only [ASt.ev, tmPut, ↓reduceIte, Nat.reduceEqDiff, *]; done) (by exact rfl) w1 w2 hcA rfl (by simp [autV]) rfl ?_
      refine OpsL.nil ⟨cell_of Heap.put_eq rfl, ?_⟩
      refine OpsR.nil ?_
      ((repeat (refine blockExit_normal ?_)); change Trip _ _ _ _ _)
      repeat (first | (refine OpsL.q (by first | exact omv | exact oasg | exact oadd) ?_) | refine Trip.ops ?_ | (refine OpsL.nil ?_; (dsimp only)))
      exact ⟨i + 1, ⟨_, _, _, _, _, _, _, _, _, _, rfl, hst, hm2, ⟨by have := hx3.1; omega, fun j hj => by rw [Heap.put_ne (show j ≠ nx + 1 by omega), hsame j (by omega) (by omega), hx3.2 j hj]⟩, by rw [Heap.put_ne (show nx ≠ nx + 1 by omega), hsame nx (by omega) (by omega)]; exact hz3, by simp [tmPut, *], by simp [tmPut, *], by simp [tmPut, *], by simp [tmPut, *], by simp [tmPut, *], by omega, by omega⟩, by omega⟩
     ·skip
      refine bsC (by subst_vars; decide) (by simp only [ASt.ev, tmPut, ↓reduceIte, Nat.reduceEqDiff, *]; rfl) fun G3 x4 hone => ?_
      refine OpsL.nil ⟨cell_of ((x4.2 (nx + 1) hA3).trans hmk3.cell) rfl, ?_⟩
      refine OpsR.act (by kernel_rfl) (ActStep.walk rfl rfl ?_)
      refine OpsL.q (aop_load (by simp only [ASt.ev, tmPut, ↓reduceIte, Nat.reduceEqDiff, *]; rfl) (by exact rfl) rfl (cell_of ((x4.2 (nx + 1) hA3).trans hmk3.cell) rfl)) ?_
      refine OpsL.nil ⟨cell_of ((x4.2 (nx + 1) hA3).trans hmk3.cell) rfl, ?_⟩
      refine OpsR.act (by kernel_rfl) (ActStep.walk rfl rfl ?_)
      refine appC hmk3 (by omega) x4 hone (by subst_vars; decide) (by simp only [ASt.ev, tmPut, ↓reduceIte, Nat.reduceEqDiff, *]; done) (by simp only [ASt.ev, tmPut, ↓reduceIte, Nat.reduceEqDiff, *]; done) fun v' nx5 H5 l5 hcA hm2 hsame hle5 w1 w2 => ?_
      refine OpsL.nil ⟨cell_of hcA rfl, ?_⟩
      refine OpsR.one rfl rfl rfl (by kernel_rfl) ?_
      repeat (first | refine OpsL.q (by exact ofa) ?_ | (refine OpsL.nil ?_; (dsimp only)))
      refine OpsR.act (by kernel_rfl) (ActStep.walk rfl rfl ?_)
      refine OpsL.storeAt 5 (cs' := autV (putC a (p, z, y / 8000 % (a.G + 1), qq)) vi vf vo v' vn) (by simp only [ASt.ev, tmPut, ↓reduceIte, Nat.reduceEqDiff, *]; rfl) (by simp only [ASt.ev, tmPut, ↓reduceIte, Nat.reduceEqDiff, *]; done) (by exact rfl) w1 w2 hcA rfl (by simp [autV]) rfl ?_
      refine OpsL.nil ⟨cell_of Heap.put_eq rfl, ?_⟩
      refine OpsR.nil ?_
      ((repeat (refine blockExit_normal ?_)); change Trip _ _ _ _ _)
      repeat (first | (refine OpsL.q (by first | exact omv | exact oasg | exact oadd) ?_) | refine Trip.ops ?_ | (refine OpsL.nil ?_; (dsimp only)))
      exact ⟨i + 1, ⟨_, _, _, _, _, _, _, _, _, _, rfl, hst, hm2, ⟨by have := hx3.1; omega, fun j hj => by rw [Heap.put_ne (show j ≠ nx + 1 by omega), hsame j (by omega) (by omega), hx3.2 j hj]⟩, by rw [Heap.put_ne (show nx ≠ nx + 1 by omega), hsame nx (by omega) (by omega)]; exact hz3, by simp [tmPut, *], by simp [tmPut, *], by simp [tmPut, *], by simp [tmPut, *], by simp [tmPut, *], by omega, by omega⟩, by omega⟩
    ·refine OpsL.geqF ?_ (c := hk)
     rw [if_neg hk] at hst
     repeat (refine OpsL.nil ?_; (change Trip _ _ _ _ _))
     refine Trip.ifF ?_
     repeat (first | (refine OpsL.q (by first | exact omv | exact oasg | exact oadd) ?_) | refine Trip.ops ?_ | (refine Trip.skip ?_; ((repeat (refine blockExit_normal ?_)); change Trip _ _ _ _ _)) | (refine OpsL.nil ?_; (dsimp only)))
     exact ⟨i + 1, ⟨_, _, _, _, _, _, _, _, _, _, rfl, hst, hmk3, hx3, hz3, by simp [tmPut, *], by simp [tmPut, *], by simp [tmPut, *], by simp [tmPut, *], by simp [tmPut, *], by omega, by omega⟩, by omega⟩
   refine OpsL.eqlF ?_ (c := mA4)
   repeat (first | refine OpsL.q (by exact oasg) ?_ | (refine OpsL.nil ?_; (change Trip _ _ _ _ _)))
   refine Trip.ifF ?_
   repeat (refine Trip.ops ?_)
   by_cases mA5 : y % 8 = 5
   ·refine OpsL.eqlT ?_ (c := mA5)
    rw [if_pos (Or.inr mA5)] at hst
    repeat (first | refine OpsL.q (by exact oasg) ?_ | (refine OpsL.nil ?_; (change Trip _ _ _ _ _)))
    refine Trip.ifT ?_
    repeat (first | refine OpsL.q (by exact omv) ?_ | refine Trip.seq ?_ | refine Trip.ops ?_)
    refine OpsL.q (aop_quoE (by simp only [ASt.ev, tmPut, ↓reduceIte, Nat.reduceEqDiff, *]; rfl) (by simp only [ASt.ev, tmPut, ↓reduceIte, Nat.reduceEqDiff, *]; rfl) (by omega) (by omega) (by omega)) ?_
    refine OpsL.q (aop_remE (by simp only [ASt.ev, tmPut, ↓reduceIte, Nat.reduceEqDiff, *]; rfl) (by simp only [ASt.ev, tmPut, ↓reduceIte, Nat.reduceEqDiff, *]; rfl) (by omega) (by omega)) ?_
    repeat fail
    refine OpsL.c3 (hf := entersPick) (hc := (pickC W0 2 _ (hl0.ext hext hok) hss (by omega))) (h := ?_)
    rintro v nx3 H3 ⟨rfl, x3⟩
    have hmk3 := hmk.ext x3
    have hA3 := hmk3.hA
    have d1 : cellAt H3 ⟨nx + 1, 1, none⟩ (.int .i64 a.G) := cell_of hmk3.cell rfl
    have d2 : cellAt H3 ⟨nx + 1, 5, none⟩ vc := cell_of hmk3.cell rfl
    have hx3 := hext.trans x3
    have hz3 : H3 nx = _ := (x3.2 nx (by omega)).trans hz
    generalize hpk : pickF ss 2 (y / 800 % 7) = z at *
    repeat (first | (refine OpsL.q (by first | exact oasg | exact omv) ?_) | refine Trip.seq ?_ | refine Trip.ops ?_ | (refine OpsL.nil ?_; (change Trip _ _ _ _ _)))
    repeat fail
    by_cases hk : 0 ≤ z
    ·refine OpsL.geqT ?_ (c := hk)
     rw [if_pos hk] at hst
     repeat (refine OpsL.nil ?_; (change Trip _ _ _ _ _))
     refine Trip.ifT ?_
     repeat fail
     have b1 := Int.emod_nonneg (y / 8000) (show a.G ≠ 0 by omega)
     have b2 := Int.emod_lt_of_pos (y / 8000) (show 0 < a.G by omega)
     have b3 := Int.emod_nonneg (y / 8000) (show a.G + 1 ≠ 0 by omega)
     have b4 := Int.emod_lt_of_pos (y / 8000) (show 0 < a.G + 1 by omega)
     refine OpsR.drawn [1, 12, 13, 15] (K := fun _ H1 => cellAt H1 ⟨nx + 1, 1, none⟩ (.int .i64 a.G)) mixed3M (by kernel_rfl) (by kernel_rfl) [0, 2, 3, 4, 5, 6, 7, 8, 9, 10, 11, 1, 12, 13, 14, 15] (by kernel_rfl) d1 ?_
     refine OpsR.one rfl rfl rfl (by kernel_rfl) ?_
     repeat (first | refine OpsL.q (by exact ofa) ?_ | (refine OpsL.nil ?_; (dsimp only)))
     refine OpsR.one rfl rfl rfl (by kernel_rfl) ?_
     repeat (first | refine OpsL.q (by exact omv) ?_ | (refine OpsL.nil ?_; (skip)))
     refine OpsR.one rfl rfl rfl (by kernel_rfl) ?_
     repeat (first | refine OpsL.q (by exact omv) ?_ | (refine OpsL.nil ?_; (skip)))
     refine OpsR.one rfl rfl rfl (by kernel_rfl) ?_
     repeat (first | refine OpsL.q (by exact omv) ?_ | (refine OpsL.nil ?_; (skip)))
     refine OpsR.one rfl rfl rfl (by kernel_rfl) ?_
     refine OpsL.q (aop_quoE (by simp only [ASt.ev, tmPut, ↓reduceIte, Nat.reduceEqDiff, *]; rfl) (by simp only [ASt.ev, tmPut, ↓reduceIte, Nat.reduceEqDiff, *]; rfl) (by omega) (by omega) (by omega)) ?_
     repeat (refine OpsL.nil ?_; (skip))
     refine OpsR.one rfl rfl rfl (by kernel_rfl) ?_
     repeat (first | refine OpsL.q (by exact ofa) ?_ | (refine OpsL.nil ?_; (dsimp only)))
     refine OpsR.sp (v := .int .i64 a.G) rfl (by kernel_rfl) (by subst_vars; decide) d1 (fun H2 nx2 hK => aop_load (by simp only [ASt.ev, tmPut, ↓reduceIte, Nat.reduceEqDiff, *]; rfl) (by exact rfl) rfl hK) ?_
     refine OpsR.one rfl rfl rfl (by kernel_rfl) ?_
     repeat (first | refine OpsL.q (by exact oadd) ?_ | (refine OpsL.nil ?_; (skip)))
     refine OpsR.one rfl rfl rfl (by kernel_rfl) ?_
     refine OpsL.q (aop_remE (by simp only [ASt.ev, tmPut, ↓reduceIte, Nat.reduceEqDiff, *]; rfl) (by simp only [ASt.ev, tmPut, ↓reduceIte, Nat.reduceEqDiff, *]; rfl) (by omega) (by omega)) ?_
     repeat (refine OpsL.nil ?_; (skip))
     refine OpsR.one rfl rfl rfl (by kernel_rfl) ?_
     repeat (first | refine OpsL.q (by exact omv) ?_ | (refine OpsL.nil ?_; (skip)))
     refine OpsR.one rfl rfl rfl (by kernel_rfl) ?_
     refine OpsL.q (aop_build (v := .agg (e4 (p, z, y / 8000 % (a.G + 1), qq)).toArray) (l := [(0, .int .i64 p), (1, .int .i64 z), (2, .int .i64 (y / 8000 % (a.G + 1))), (3, .int .i64 qq)]) (by simp only [evParts, ASt.ev, tmPut, ↓reduceIte, reduceIte, Option.some.injEq, Nat.reduceEqDiff, *]) (by kernel_rfl)) ?_
     repeat (refine OpsL.nil ?_; (skip))
     refine OpsR.act2 (by kernel_rfl) (ActStep.walk rfl rfl ?_) (ActStep.walk rfl rfl ?_)
     ·skip
      refine OpsL.q (aop_load (by simp only [ASt.ev, tmPut, ↓reduceIte, Nat.reduceEqDiff, *]; rfl) (by exact rfl) rfl d2) ?_
      refine OpsL.nil ⟨d1, ?_⟩
      refine OpsR.act (by kernel_rfl) (ActStep.walk rfl rfl ?_)
      refine bsC (by subst_vars; decide) (by simp only [ASt.ev, tmPut, ↓reduceIte, Nat.reduceEqDiff, *]; rfl) fun G3 x4 hone => ?_
      refine OpsL.nil ⟨cell_of ((x4.2 (nx + 1) hA3).trans hmk3.cell) rfl, ?_⟩
      refine OpsR.act (by kernel_rfl) (ActStep.walk rfl rfl ?_)
      refine appC hmk3 (by omega) x4 hone (by subst_vars; decide) (by simp only [ASt.ev, tmPut, ↓reduceIte, Nat.reduceEqDiff, *]; done) (by simp only [ASt.ev, tmPut, ↓reduceIte, Nat.reduceEqDiff, *]; done) fun v' nx5 H5 l5 hcA hm2 hsame hle5 w1 w2 => ?_
      refine OpsL.nil ⟨cell_of hcA rfl, ?_⟩
      refine OpsR.one rfl rfl rfl (by kernel_rfl) ?_
      repeat (first | refine OpsL.q (by exact ofa) ?_ | (refine OpsL.nil ?_; (dsimp only)))
      refine OpsR.act (by kernel_rfl) (ActStep.walk rfl rfl ?_)
      refine OpsL.storeAt 5 (cs' := autV (putC a (p, z, y / 8000 % (a.G + 1), qq)) vi vf vo v' vn) (by simp only [ASt.ev, tmPut, ↓reduceIte, Nat.reduceEqDiff, *]; rfl) (by simp only [ASt.ev, tmPut, ↓reduceIte, Nat.reduceEqDiff, *]; done) (by exact rfl) w1 w2 hcA rfl (by simp [autV]) rfl ?_
      refine OpsL.nil ⟨cell_of Heap.put_eq rfl, ?_⟩
      refine OpsR.nil ?_
      ((repeat (refine blockExit_normal ?_)); change Trip _ _ _ _ _)
      repeat (first | (refine OpsL.q (by first | exact omv | exact oasg | exact oadd) ?_) | refine Trip.ops ?_ | (refine OpsL.nil ?_; (dsimp only)))
      exact ⟨i + 1, ⟨_, _, _, _, _, _, _, _, _, _, rfl, hst, hm2, ⟨by have := hx3.1; omega, fun j hj => by rw [Heap.put_ne (show j ≠ nx + 1 by omega), hsame j (by omega) (by omega), hx3.2 j hj]⟩, by rw [Heap.put_ne (show nx ≠ nx + 1 by omega), hsame nx (by omega) (by omega)]; exact hz3, by simp [tmPut, *], by simp [tmPut, *], by simp [tmPut, *], by simp [tmPut, *], by simp [tmPut, *], by omega, by omega⟩, by omega⟩
     ·skip
      refine bsC (by subst_vars; decide) (by simp only [ASt.ev, tmPut, ↓reduceIte, Nat.reduceEqDiff, *]; rfl) fun G3 x4 hone => ?_
      refine OpsL.nil ⟨cell_of ((x4.2 (nx + 1) hA3).trans hmk3.cell) rfl, ?_⟩
      refine OpsR.act (by kernel_rfl) (ActStep.walk rfl rfl ?_)
      refine OpsL.q (aop_load (by simp only [ASt.ev, tmPut, ↓reduceIte, Nat.reduceEqDiff, *]; rfl) (by exact rfl) rfl (cell_of ((x4.2 (nx + 1) hA3).trans hmk3.cell) rfl)) ?_
      refine OpsL.nil ⟨cell_of ((x4.2 (nx + 1) hA3).trans hmk3.cell) rfl, ?_⟩
      refine OpsR.act (by kernel_rfl) (ActStep.walk rfl rfl ?_)
      refine appC hmk3 (by omega) x4 hone (by subst_vars; decide) (by simp only [ASt.ev, tmPut, ↓reduceIte, Nat.reduceEqDiff, *]; done) (by simp only [ASt.ev, tmPut, ↓reduceIte, Nat.reduceEqDiff, *]; done) fun v' nx5 H5 l5 hcA hm2 hsame hle5 w1 w2 => ?_
      refine OpsL.nil ⟨cell_of hcA rfl, ?_⟩
      refine OpsR.one rfl rfl rfl (by kernel_rfl) ?_
      repeat (first | refine OpsL.q (by exact ofa) ?_ | (refine OpsL.nil ?_; (dsimp only)))
      refine OpsR.act (by kernel_rfl) (ActStep.walk rfl rfl ?_)
      refine OpsL.storeAt 5 (cs' := autV (putC a (p, z, y / 8000 % (a.G + 1), qq)) vi vf vo v' vn) (by simp only [ASt.ev, tmPut, ↓reduceIte, Nat.reduceEqDiff, *]; rfl) (by simp only [ASt.ev, tmPut, ↓reduceIte, Nat.reduceEqDiff, *]; done) (by exact rfl) w1 w2 hcA rfl (by simp [autV]) rfl ?_
      refine OpsL.nil ⟨cell_of Heap.put_eq rfl, ?_⟩
      refine OpsR.nil ?_
      ((repeat (refine blockExit_normal ?_)); change Trip _ _ _ _ _)
      repeat (first | (refine OpsL.q (by first | exact omv | exact oasg | exact oadd) ?_) | refine Trip.ops ?_ | (refine OpsL.nil ?_; (dsimp only)))
      exact ⟨i + 1, ⟨_, _, _, _, _, _, _, _, _, _, rfl, hst, hm2, ⟨by have := hx3.1; omega, fun j hj => by rw [Heap.put_ne (show j ≠ nx + 1 by omega), hsame j (by omega) (by omega), hx3.2 j hj]⟩, by rw [Heap.put_ne (show nx ≠ nx + 1 by omega), hsame nx (by omega) (by omega)]; exact hz3, by simp [tmPut, *], by simp [tmPut, *], by simp [tmPut, *], by simp [tmPut, *], by simp [tmPut, *], by omega, by omega⟩, by omega⟩
    ·refine OpsL.geqF ?_ (c := hk)
     rw [if_neg hk] at hst
     repeat (refine OpsL.nil ?_; (change Trip _ _ _ _ _))
     refine Trip.ifF ?_
     repeat (first | (refine OpsL.q (by first | exact omv | exact oasg | exact oadd) ?_) | refine Trip.ops ?_ | (refine Trip.skip ?_; ((repeat (refine blockExit_normal ?_)); change Trip _ _ _ _ _)) | (refine OpsL.nil ?_; (dsimp only)))
     exact ⟨i + 1, ⟨_, _, _, _, _, _, _, _, _, _, rfl, hst, hmk3, hx3, hz3, by simp [tmPut, *], by simp [tmPut, *], by simp [tmPut, *], by simp [tmPut, *], by simp [tmPut, *], by omega, by omega⟩, by omega⟩
   refine OpsL.eqlF ?_ (c := mA5)
   rw [if_neg (by omega)] at hst
   repeat (first | refine OpsL.q (by exact oasg) ?_ | (refine OpsL.nil ?_; (change Trip _ _ _ _ _)))
   refine Trip.ifF ?_
   repeat (first | refine OpsL.q (by exact omv) ?_ | refine Trip.seq ?_ | refine Trip.ops ?_)
   refine OpsL.q (aop_quoE (by simp only [ASt.ev, tmPut, ↓reduceIte, Nat.reduceEqDiff, *]; rfl) (by simp only [ASt.ev, tmPut, ↓reduceIte, Nat.reduceEqDiff, *]; rfl) (by omega) (by omega) (by omega)) ?_
   refine OpsL.q (aop_remE (by simp only [ASt.ev, tmPut, ↓reduceIte, Nat.reduceEqDiff, *]; rfl) (by simp only [ASt.ev, tmPut, ↓reduceIte, Nat.reduceEqDiff, *]; rfl) (by omega) (by omega)) ?_
   repeat fail
   refine OpsL.c3 (hf := entersPick) (hc := (pickC W0 3 _ (hl0.ext hext hok) hss (by omega))) (h := ?_)
   rintro v nx3 H3 ⟨rfl, x3⟩
   have hmk3 := hmk.ext x3
   have hA3 := hmk3.hA
   have d1 : cellAt H3 ⟨nx + 1, 1, none⟩ (.int .i64 a.G) := cell_of hmk3.cell rfl
   have d2 : cellAt H3 ⟨nx + 1, 6, none⟩ vn := cell_of hmk3.cell rfl
   have hx3 := hext.trans x3
   have hz3 : H3 nx = _ := (x3.2 nx (by omega)).trans hz
   generalize hpk : pickF ss 3 (y / 800 % 7) = z at *
   repeat (first | (refine OpsL.q (by first | exact oasg | exact omv) ?_) | refine Trip.seq ?_ | refine Trip.ops ?_ | (refine OpsL.nil ?_; (change Trip _ _ _ _ _)))
   repeat fail
   by_cases hk : 0 ≤ z
   ·refine OpsL.geqT ?_ (c := hk)
    rw [if_pos hk] at hst
    repeat (refine OpsL.nil ?_; (change Trip _ _ _ _ _))
    refine Trip.ifT ?_
    repeat (first | (refine OpsL.q (by first | exact omv | exact ofa | exact old) ?_) | refine Trip.ops ?_)
    have b1 := Int.emod_nonneg (y / 8000) (show a.G ≠ 0 by omega)
    have b2 := Int.emod_lt_of_pos (y / 8000) (show 0 < a.G by omega)
    have b3 := Int.emod_nonneg (y / 8000) (show a.G + 1 ≠ 0 by omega)
    have b4 := Int.emod_lt_of_pos (y / 8000) (show 0 < a.G + 1 by omega)
    refine OpsL.q (aop_build (v := .agg (e3 (p, z, qq)).toArray) (l := [(0, .int .i64 p), (1, .int .i64 z), (2, .int .i64 qq)]) (by simp only [evParts, ASt.ev, tmPut, ↓reduceIte, reduceIte, Option.some.injEq, Nat.reduceEqDiff, *]) (by kernel_rfl)) ?_
    refine bsN (by subst_vars; decide) (by simp only [ASt.ev, tmPut, ↓reduceIte, Nat.reduceEqDiff, *]; rfl) fun G3 x4 hone => ?_
    refine appN hmk3 (by omega) x4 hone (by subst_vars; decide) (by simp only [ASt.ev, tmPut, ↓reduceIte, Nat.reduceEqDiff, *]; done) (by simp only [ASt.ev, tmPut, ↓reduceIte, Nat.reduceEqDiff, *]; done) fun v' nx5 H5 l5 hcA hm2 hsame hle5 w1 w2 => ?_
    repeat (refine OpsL.q (by exact ofa) ?_)
    refine OpsL.storeAt 6 (cs' := autV (putN a (p, z, qq)) vi vf vo vc v') (by simp only [ASt.ev, tmPut, ↓reduceIte, Nat.reduceEqDiff, *]; rfl) (by simp only [ASt.ev, tmPut, ↓reduceIte, Nat.reduceEqDiff, *]; done) (by exact rfl) w1 w2 hcA rfl (by simp [autV]) rfl ?_
    repeat (first | (refine OpsL.q (by first | exact omv | exact oasg | exact oadd) ?_) | refine Trip.ops ?_ | (refine OpsL.nil ?_; ((repeat (refine blockExit_normal ?_)); first | (change Trip _ _ _ _ _) | (dsimp only))))
    exact ⟨i + 1, ⟨_, _, _, _, _, _, _, _, _, _, rfl, hst, hm2, ⟨by have := hx3.1; omega, fun j hj => by rw [Heap.put_ne (show j ≠ nx + 1 by omega), hsame j (by omega) (by omega), hx3.2 j hj]⟩, by rw [Heap.put_ne (show nx ≠ nx + 1 by omega), hsame nx (by omega) (by omega)]; exact hz3, by simp [tmPut, *], by simp [tmPut, *], by simp [tmPut, *], by simp [tmPut, *], by simp [tmPut, *], by omega, by omega⟩, by omega⟩
   ·refine OpsL.geqF ?_ (c := hk)
    rw [if_neg hk] at hst
    repeat (refine OpsL.nil ?_; (change Trip _ _ _ _ _))
    refine Trip.ifF ?_
    repeat (first | (refine OpsL.q (by first | exact omv | exact oasg | exact oadd) ?_) | refine Trip.ops ?_ | (refine Trip.skip ?_; ((repeat (refine blockExit_normal ?_)); change Trip _ _ _ _ _)) | (refine OpsL.nil ?_; (dsimp only)))
    exact ⟨i + 1, ⟨_, _, _, _, _, _, _, _, _, _, rfl, hst, hmk3, hx3, hz3, by simp [tmPut, *], by simp [tmPut, *], by simp [tmPut, *], by simp [tmPut, *], by simp [tmPut, *], by omega, by omega⟩, by omega⟩
  ·have hfin : foldM ss size most ns 24 = a := by rw [← hfa, show i = 24 by omega]
   repeat (first | (refine OpsL.q (by first | exact omv | exact olen) ?_) | refine Trip.seq ?_ | refine Trip.ops ?_)
   refine OpsL.lssT ?_
   repeat (first | refine OpsL.q (by exact omv) ?_ | refine OpsL.ung ?_)
   refine OpsL.lssF ?_
   repeat (first | refine OpsL.q (by exact opkT) ?_ | (refine OpsL.nil ?_; (change Trip _ _ _ _ _)))
   refine Trip.ifF ?_
   repeat (first | (refine OpsL.q (by first | exact ofa | exact old) ?_) | refine Trip.seq ?_ | refine Trip.ops ?_ | (refine Trip.exit ?_; ((repeat (refine blockExit_eq ?_)); change Trip _ _ _ _ _)))
   obtain ⟨ob, hj, hown⟩ := hmk.init
   obtain ⟨ia, ic, rfl⟩ := hown.at.slice
   repeat (refine OpsL.q (by exact olen) ?_)
   by_cases hz0 : a.init.length = 0
   ·refine OpsL.eqlT ?_
    repeat (refine OpsL.nil ?_; (change Trip _ _ _ _ _))
    refine Trip.ifT ?_
    repeat (refine Trip.ops ?_)
    have hnil : a.init = [] := List.eq_nil_of_length_eq_zero hz0
    have hmake : makeM ss size most ns = putI a 0 := by unfold makeM lastM; rw [hfin, if_pos hnil]
    rw [hmake]
    have hone : ((autV (putI a 0) (.slice (some ⟨nx', 0, none⟩) 1 1) vf vo vc vn).all (·.oneCell')) = true := by
     obtain ⟨b1, _, w1⟩ := hmk.final
     obtain ⟨b2, _, w2⟩ := hmk.opens
     obtain ⟨b3, _, w3⟩ := hmk.closes
     obtain ⟨b4, _, w4⟩ := hmk.inners
     obtain ⟨_, _, z1⟩ := w1.at.slice
     obtain ⟨_, _, z2⟩ := (w2.at e4_len).slice
     obtain ⟨_, _, z3⟩ := (w3.at e4_len).slice
     obtain ⟨_, _, z4⟩ := (w4.at e3_len).slice
     rw [z1, z2, z3, z4]
     rfl
    refine OpsL.new (by subst_vars; decide) (aop_buildSlice (l := [(0, .int .i64 0)]) (r := (.slice (some ⟨nx', 0, none⟩) 1 1, .new (.cells [.int .i64 0] 1 none false (some 3)))) (by rfl) (by kernel_rfl)) ?_
    have hA' : (H'.put nx' (.cells [.int .i64 0] 1 none false (some 3))) (nx + 1) = _ := (Heap.put_ne (show nx + 1 ≠ nx' by omega)).trans hmk.cell
    have hm2 := hmk.putI (H1 := H'.put nx' (.cells [.int .i64 0] 1 none false (some 3))) (v' := .slice (some ⟨nx', 0, none⟩) 1 1) (p := 0) (nx1 := nx' + 1) (b1 := nx') (t1 := 0) hj (.inr ⟨nx', 0, rfl, by rw [hnil]; rfl, by simp, by rw [Heap.put_eq, hnil]; rfl⟩) (.inl (Nat.le_refl _)) (by omega) (by omega) (fun i hi _ => Heap.put_ne (by omega))
    have hz2 : (H'.put nx' (.cells [.int .i64 0] 1 none false (some 3))) nx = some (.cells zeroA 0 none false (some 30)) := (Heap.put_ne (show nx ≠ nx' by omega)).trans hz
    have hx2 : Ext nx H (nx' + 1) (H'.put nx' (.cells [.int .i64 0] 1 none false (some 3))) := ⟨by have := hext.1; omega, fun j hj => by rw [Heap.put_ne (by have := hext.1; omega), hext.2 j hj]⟩
    generalize (H'.put nx' (.cells [.int .i64 0] 1 none false (some 3))) = H5 at *
    repeat (refine OpsL.q (by exact ofa) ?_)
    refine OpsL.storeAt 2 (cs' := autV (putI a 0) (.slice (some ⟨nx', 0, none⟩) 1 1) vf vo vc vn) (by simp only [ASt.ev, tmPut, ↓reduceIte, Nat.reduceEqDiff, *]; rfl) (by simp only [ASt.ev, tmPut, ↓reduceIte, Nat.reduceEqDiff, *]; rfl) (by exact rfl) rfl rfl hA' rfl (by simp [autV]) rfl ?_
    have hz3 : (H5.put (nx + 1) (.cells (autV (putI a 0) (.slice (some ⟨nx', 0, none⟩) 1 1) vf vo vc vn) 0 none false (some 30))) nx = some (.cells zeroA 0 none false (some 30)) := (Heap.put_ne (show nx ≠ nx + 1 by omega)).trans hz2
    have hx3 : Ext nx H (nx' + 1) (H5.put (nx + 1) (.cells (autV (putI a 0) (.slice (some ⟨nx', 0, none⟩) 1 1) vf vo vc vn) 0 none false (some 30))) := ⟨hx2.1, fun j hj => by rw [Heap.put_ne (show j ≠ nx + 1 by omega), hx2.2 j hj]⟩
    have hc3 : (H5.put (nx + 1) (.cells (autV (putI a 0) (.slice (some ⟨nx', 0, none⟩) 1 1) vf vo vc vn) 0 none false (some 30))) (nx + 1) = some (.cells (autV (putI a 0) (.slice (some ⟨nx', 0, none⟩) 1 1) vf vo vc vn) 0 none false (some 30)) := Heap.put_eq
    change OpsL _ _ _ _ (ASt.mk _ _ (H5.put (nx + 1) (.cells (autV (putI a 0) (.slice (some ⟨nx', 0, none⟩) 1 1) vf vo vc vn) 0 none false (some 30))) _) _
    generalize (H5.put (nx + 1) (.cells (autV (putI a 0) (.slice (some ⟨nx', 0, none⟩) 1 1) vf vo vc vn) 0 none false (some 30))) = H6 at *
    repeat (first | refine Trip.seq ?_ | refine Trip.ops ?_ | (refine OpsL.nil ?_; (change Trip _ _ _ _ _)))
    refine OpsL.q (aop_loadAgg (k := 7) (by simp only [ASt.ev, tmPut, ↓reduceIte, Nat.reduceEqDiff, *]; done) (by exact rfl) rfl (by exact rfl) (getc_all hc3 rfl)) ?_
    refine OpsL.upd (aop_store (k := 7) (by simp only [ASt.ev, tmPut, ↓reduceIte, Nat.reduceEqDiff, *]; rfl) (by simp only [ASt.ev, tmPut, ↓reduceIte, Nat.reduceEqDiff, *]; rfl) (by exact rfl) rfl (o := .cells (autV (putI a 0) (.slice (some ⟨nx', 0, none⟩) 1 1) vf vo vc vn) 0 none false (some 30)) (by
     unfold setc
     simp only [hz3]
     rw [if_pos ⟨trivial, by simp [Value.cells, autV, zeroA], trivial, by simpa [Value.cells] using hone⟩]
     simp [Value.cells, autV, zeroA])) ?_
    repeat (first | (refine Trip.ret ?_; (dsimp only)) | (refine OpsL.nil ?_; (change Trip _ _ _ _ _)))
    refine ⟨.inr rfl, _, res_cell (a := ⟨nx, 0, none⟩) (by simp [tmPut, e8]) (v := .agg (autV (putI a 0) (.slice (some ⟨nx', 0, none⟩) 1 1) vf vo vc vn).toArray) (readAt_agg (k := 7) (by exact rfl) rfl (by exact rfl) (getc_all Heap.put_eq rfl)), nx + 1, _, _, _, _, _, _, rfl, (hm2.other (z := nx) (by omega) (by omega)).low (Nat.le_succ _), ⟨hx3.1, fun j hj => by rw [Heap.put_ne (show j ≠ nx by omega), hx3.2 j hj]⟩⟩
   ·have hmake : makeM ss size most ns = a := by unfold makeM lastM; rw [hfin, if_neg (fun e => hz0 (by rw [e]; rfl))]
    rw [hmake]
    refine OpsL.eqlF ?_
    repeat (refine OpsL.nil ?_; (change Trip _ _ _ _ _))
    refine Trip.ifF ?_
    repeat (first | refine Trip.seq ?_ | refine Trip.ops ?_ | (refine Trip.skip ?_; (change Trip _ _ _ _ _)))
    refine OpsL.q (aop_loadAgg (k := 7) (by simp only [ASt.ev, tmPut, ↓reduceIte, Nat.reduceEqDiff, *]; done) (by exact rfl) rfl (by exact rfl) (getc_all hmk.cell rfl)) ?_
    refine OpsL.upd (aop_store (k := 7) (by simp only [ASt.ev, tmPut, ↓reduceIte, Nat.reduceEqDiff, *]; rfl) (by simp only [ASt.ev, tmPut, ↓reduceIte, Nat.reduceEqDiff, *]; rfl) (by exact rfl) rfl (o := .cells (autV a (.slice ia a.init.length ic) vf vo vc vn) 0 none false (some 30)) (by
     have hone : ((autV a (.slice ia a.init.length ic) vf vo vc vn).all (·.oneCell')) = true := by
      obtain ⟨b1, _, w1⟩ := hmk.final
      obtain ⟨b2, _, w2⟩ := hmk.opens
      obtain ⟨b3, _, w3⟩ := hmk.closes
      obtain ⟨b4, _, w4⟩ := hmk.inners
      obtain ⟨_, _, z1⟩ := w1.at.slice
      obtain ⟨_, _, z2⟩ := (w2.at e4_len).slice
      obtain ⟨_, _, z3⟩ := (w3.at e4_len).slice
      obtain ⟨_, _, z4⟩ := (w4.at e3_len).slice
      rw [z1, z2, z3, z4]
      rfl
     unfold setc
     simp only [hz]
     rw [if_pos ⟨trivial, by simp [Value.cells, autV, zeroA], trivial, by simpa [Value.cells] using hone⟩]
     simp [Value.cells, autV, zeroA])) ?_
    repeat (first | (refine Trip.ret ?_; (dsimp only)) | (refine OpsL.nil ?_; (change Trip _ _ _ _ _)))
    refine ⟨.inr rfl, _, res_cell (a := ⟨nx, 0, none⟩) (by simp [tmPut, e8]) (v := .agg (autV a (.slice ia a.init.length ic) vf vo vc vn).toArray) (readAt_agg (k := 7) (by exact rfl) rfl (by exact rfl) (getc_all Heap.put_eq rfl)), nx + 1, _, _, _, _, _, _, rfl, (hmk.other (z := nx) (by omega) (by omega)).low (Nat.le_succ _), ⟨hext.1, fun j hj => by rw [Heap.put_ne (show j ≠ nx by omega), hext.2 j hj]⟩⟩
 ·have hfin : foldM ss size most ns 24 = a := by rw [foldM_take ss size most ns (show ns.length ≤ 24 by omega), ← hfa, show i = ns.length by omega]
  repeat (first | (refine OpsL.q (by first | exact omv | exact olen) ?_) | refine Trip.seq ?_ | refine Trip.ops ?_)
  refine OpsL.lssF ?_
  repeat (first | (refine OpsL.q (by first | exact omv | exact opkF) ?_) | (refine OpsL.nil ?_; (change Trip _ _ _ _ _)) | refine OpsL.skp ?_)
  refine Trip.ifF ?_
  repeat (first | (refine OpsL.q (by first | exact ofa | exact old) ?_) | refine Trip.seq ?_ | refine Trip.ops ?_ | (refine Trip.exit ?_; ((repeat (refine blockExit_eq ?_)); change Trip _ _ _ _ _)))
  obtain ⟨ob, hj, hown⟩ := hmk.init
  obtain ⟨ia, ic, rfl⟩ := hown.at.slice
  repeat (refine OpsL.q (by exact olen) ?_)
  by_cases hz0 : a.init.length = 0
  ·refine OpsL.eqlT ?_
   repeat (refine OpsL.nil ?_; (change Trip _ _ _ _ _))
   refine Trip.ifT ?_
   repeat (refine Trip.ops ?_)
   have hnil : a.init = [] := List.eq_nil_of_length_eq_zero hz0
   have hmake : makeM ss size most ns = putI a 0 := by unfold makeM lastM; rw [hfin, if_pos hnil]
   rw [hmake]
   have hone : ((autV (putI a 0) (.slice (some ⟨nx', 0, none⟩) 1 1) vf vo vc vn).all (·.oneCell')) = true := by
    obtain ⟨b1, _, w1⟩ := hmk.final
    obtain ⟨b2, _, w2⟩ := hmk.opens
    obtain ⟨b3, _, w3⟩ := hmk.closes
    obtain ⟨b4, _, w4⟩ := hmk.inners
    obtain ⟨_, _, z1⟩ := w1.at.slice
    obtain ⟨_, _, z2⟩ := (w2.at e4_len).slice
    obtain ⟨_, _, z3⟩ := (w3.at e4_len).slice
    obtain ⟨_, _, z4⟩ := (w4.at e3_len).slice
    rw [z1, z2, z3, z4]
    rfl
   refine OpsL.new (by subst_vars; decide) (aop_buildSlice (l := [(0, .int .i64 0)]) (r := (.slice (some ⟨nx', 0, none⟩) 1 1, .new (.cells [.int .i64 0] 1 none false (some 3)))) (by rfl) (by kernel_rfl)) ?_
   have hA' : (H'.put nx' (.cells [.int .i64 0] 1 none false (some 3))) (nx + 1) = _ := (Heap.put_ne (show nx + 1 ≠ nx' by omega)).trans hmk.cell
   have hm2 := hmk.putI (H1 := H'.put nx' (.cells [.int .i64 0] 1 none false (some 3))) (v' := .slice (some ⟨nx', 0, none⟩) 1 1) (p := 0) (nx1 := nx' + 1) (b1 := nx') (t1 := 0) hj (.inr ⟨nx', 0, rfl, by rw [hnil]; rfl, by simp, by rw [Heap.put_eq, hnil]; rfl⟩) (.inl (Nat.le_refl _)) (by omega) (by omega) (fun i hi _ => Heap.put_ne (by omega))
   have hz2 : (H'.put nx' (.cells [.int .i64 0] 1 none false (some 3))) nx = some (.cells zeroA 0 none false (some 30)) := (Heap.put_ne (show nx ≠ nx' by omega)).trans hz
   have hx2 : Ext nx H (nx' + 1) (H'.put nx' (.cells [.int .i64 0] 1 none false (some 3))) := ⟨by have := hext.1; omega, fun j hj => by rw [Heap.put_ne (by have := hext.1; omega), hext.2 j hj]⟩
   generalize (H'.put nx' (.cells [.int .i64 0] 1 none false (some 3))) = H5 at *
   repeat (refine OpsL.q (by exact ofa) ?_)
   refine OpsL.storeAt 2 (cs' := autV (putI a 0) (.slice (some ⟨nx', 0, none⟩) 1 1) vf vo vc vn) (by simp only [ASt.ev, tmPut, ↓reduceIte, Nat.reduceEqDiff, *]; rfl) (by simp only [ASt.ev, tmPut, ↓reduceIte, Nat.reduceEqDiff, *]; rfl) (by exact rfl) rfl rfl hA' rfl (by simp [autV]) rfl ?_
   have hz3 : (H5.put (nx + 1) (.cells (autV (putI a 0) (.slice (some ⟨nx', 0, none⟩) 1 1) vf vo vc vn) 0 none false (some 30))) nx = some (.cells zeroA 0 none false (some 30)) := (Heap.put_ne (show nx ≠ nx + 1 by omega)).trans hz2
   have hx3 : Ext nx H (nx' + 1) (H5.put (nx + 1) (.cells (autV (putI a 0) (.slice (some ⟨nx', 0, none⟩) 1 1) vf vo vc vn) 0 none false (some 30))) := ⟨hx2.1, fun j hj => by rw [Heap.put_ne (show j ≠ nx + 1 by omega), hx2.2 j hj]⟩
   have hc3 : (H5.put (nx + 1) (.cells (autV (putI a 0) (.slice (some ⟨nx', 0, none⟩) 1 1) vf vo vc vn) 0 none false (some 30))) (nx + 1) = some (.cells (autV (putI a 0) (.slice (some ⟨nx', 0, none⟩) 1 1) vf vo vc vn) 0 none false (some 30)) := Heap.put_eq
   change OpsL _ _ _ _ (ASt.mk _ _ (H5.put (nx + 1) (.cells (autV (putI a 0) (.slice (some ⟨nx', 0, none⟩) 1 1) vf vo vc vn) 0 none false (some 30))) _) _
   generalize (H5.put (nx + 1) (.cells (autV (putI a 0) (.slice (some ⟨nx', 0, none⟩) 1 1) vf vo vc vn) 0 none false (some 30))) = H6 at *
   repeat (first | refine Trip.seq ?_ | refine Trip.ops ?_ | (refine OpsL.nil ?_; (change Trip _ _ _ _ _)))
   refine OpsL.q (aop_loadAgg (k := 7) (by simp only [ASt.ev, tmPut, ↓reduceIte, Nat.reduceEqDiff, *]; done) (by exact rfl) rfl (by exact rfl) (getc_all hc3 rfl)) ?_
   refine OpsL.upd (aop_store (k := 7) (by simp only [ASt.ev, tmPut, ↓reduceIte, Nat.reduceEqDiff, *]; rfl) (by simp only [ASt.ev, tmPut, ↓reduceIte, Nat.reduceEqDiff, *]; rfl) (by exact rfl) rfl (o := .cells (autV (putI a 0) (.slice (some ⟨nx', 0, none⟩) 1 1) vf vo vc vn) 0 none false (some 30)) (by
    unfold setc
    simp only [hz3]
    rw [if_pos ⟨trivial, by simp [Value.cells, autV, zeroA], trivial, by simpa [Value.cells] using hone⟩]
    simp [Value.cells, autV, zeroA])) ?_
   repeat (first | (refine Trip.ret ?_; (dsimp only)) | (refine OpsL.nil ?_; (change Trip _ _ _ _ _)))
   refine ⟨.inr rfl, _, res_cell (a := ⟨nx, 0, none⟩) (by simp [tmPut, e8]) (v := .agg (autV (putI a 0) (.slice (some ⟨nx', 0, none⟩) 1 1) vf vo vc vn).toArray) (readAt_agg (k := 7) (by exact rfl) rfl (by exact rfl) (getc_all Heap.put_eq rfl)), nx + 1, _, _, _, _, _, _, rfl, (hm2.other (z := nx) (by omega) (by omega)).low (Nat.le_succ _), ⟨hx3.1, fun j hj => by rw [Heap.put_ne (show j ≠ nx by omega), hx3.2 j hj]⟩⟩
  ·have hmake : makeM ss size most ns = a := by unfold makeM lastM; rw [hfin, if_neg (fun e => hz0 (by rw [e]; rfl))]
   rw [hmake]
   refine OpsL.eqlF ?_
   repeat (refine OpsL.nil ?_; (change Trip _ _ _ _ _))
   refine Trip.ifF ?_
   repeat (first | refine Trip.seq ?_ | refine Trip.ops ?_ | (refine Trip.skip ?_; (change Trip _ _ _ _ _)))
   refine OpsL.q (aop_loadAgg (k := 7) (by simp only [ASt.ev, tmPut, ↓reduceIte, Nat.reduceEqDiff, *]; done) (by exact rfl) rfl (by exact rfl) (getc_all hmk.cell rfl)) ?_
   refine OpsL.upd (aop_store (k := 7) (by simp only [ASt.ev, tmPut, ↓reduceIte, Nat.reduceEqDiff, *]; rfl) (by simp only [ASt.ev, tmPut, ↓reduceIte, Nat.reduceEqDiff, *]; rfl) (by exact rfl) rfl (o := .cells (autV a (.slice ia a.init.length ic) vf vo vc vn) 0 none false (some 30)) (by
    have hone : ((autV a (.slice ia a.init.length ic) vf vo vc vn).all (·.oneCell')) = true := by
     obtain ⟨b1, _, w1⟩ := hmk.final
     obtain ⟨b2, _, w2⟩ := hmk.opens
     obtain ⟨b3, _, w3⟩ := hmk.closes
     obtain ⟨b4, _, w4⟩ := hmk.inners
     obtain ⟨_, _, z1⟩ := w1.at.slice
     obtain ⟨_, _, z2⟩ := (w2.at e4_len).slice
     obtain ⟨_, _, z3⟩ := (w3.at e4_len).slice
     obtain ⟨_, _, z4⟩ := (w4.at e3_len).slice
     rw [z1, z2, z3, z4]
     rfl
    unfold setc
    simp only [hz]
    rw [if_pos ⟨trivial, by simp [Value.cells, autV, zeroA], trivial, by simpa [Value.cells] using hone⟩]
    simp [Value.cells, autV, zeroA])) ?_
   repeat (first | (refine Trip.ret ?_; (dsimp only)) | (refine OpsL.nil ?_; (change Trip _ _ _ _ _)))
   refine ⟨.inr rfl, _, res_cell (a := ⟨nx, 0, none⟩) (by simp [tmPut, e8]) (v := .agg (autV a (.slice ia a.init.length ic) vf vo vc vn).toArray) (readAt_agg (k := 7) (by exact rfl) rfl (by exact rfl) (getc_all Heap.put_eq rfl)), nx + 1, _, _, _, _, _, _, rfl, (hmk.other (z := nx) (by omega) (by omega)).low (Nat.le_succ _), ⟨hext.1, fun j hj => by rw [Heap.put_ne (show j ≠ nx by omega), hext.2 j hj]⟩⟩
end Go.Proofs.YtjohiaoepbnicaaGreat
