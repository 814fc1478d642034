import Derived.Test.YtjgbcpagfghfnaaQWM18
import Derived.Test.YtjgbcpagfghfnaaQWM16
set_option linter.unusedVariables false
set_option linter.unusedSimpArgs false
set_option linter.unnecessarySimpa false
namespace Go.Am
theorem iffT {P : Prop} (h : true = true ↔ P) : P := h.1 rfl
theorem iffF {P : Prop} (h : false = true ↔ P) : ¬ P := fun q => by cases h.2 q
theorem boolF {P : Prop} [Decidable P] (h : ¬ P) : Value.bool false = Value.bool (decide P) := by rw [decide_eq_false h]
theorem boolD {P Q : Prop} [Decidable P] [Decidable Q] (h : P ↔ Q) : Value.bool (decide P) = Value.bool (decide Q) := by rw [decide_eq_decide.2 h]
end Go.Am
namespace Go.Proofs.Ytjgbcpagfghfnaa
open Go.Am Go.RowKit
attribute [local irreducible] aop OpsL Trip blockExit OpsD OpsK OpsR
theorem entersFrom : Am.Enters Try.prog 47 := ⟨Try.f47, Try.func47, by kernel_rfl, by kernel_rfl⟩
set_option maxRecDepth 20000 in
set_option maxHeartbeats 8000000 in
theorem isFromC (W0 : World) {nx : Nat} {H : Heap} (a b c : Int) : ACalls Try.prog W0 47 [.int .i64 a, .int .i64 b, .int .i64 c] nx H fun v nx' H' => ∃ d : Bool, v = .bool d ∧ (d = true ↔ (a ≤ b ∧ b ≤ c)) ∧ nx' = nx ∧ H' = H := by
  refine ACalls.by_trip (fn := Try.f47) (c := _) Try.func47 rfl (fun tm n hn0 htm => ?_)
  have e0 : tm 0 = .int .i64 a := htm 0
  have e1 : tm 1 = .int .i64 b := htm 1
  have e2 : tm 2 = .int .i64 c := htm 2
  clear htm
  replace hn0 : n = 15 := hn0
  repeat (first | (refine OpsL.q (by first | exact omv | exact oasg | exact oleq | exact opkT) ?_) | (refine Trip.seq ?_) | (refine Trip.ops ?_) | (refine Trip.ret ?_; (dsimp only)) | (refine OpsL.nil ?_; (change Trip _ _ _ _ _)) | (refine OpsL.ung ?_) | (refine OpsL.gT (fun _ => ?_) (fun _ => ?_)))
  · exact ⟨.inr rfl, _, res_tmp, decide (b ≤ c), by simp [tmPut, *], by simp [*], rfl, rfl⟩
  · repeat (first | (refine OpsL.q (by first | exact oasg | exact opkF) ?_) | (refine Trip.ret ?_; (dsimp only)) | (refine OpsL.nil ?_; (change Trip _ _ _ _ _)) | (refine OpsL.skp ?_))
    exact ⟨.inr rfl, _, res_tmp, false, by simp [tmPut, *], by simp [*], rfl, rfl⟩
theorem entersIsIn : Am.Enters Try.prog 48 := ⟨Try.f48, Try.func48, by kernel_rfl, by kernel_rfl⟩
set_option maxRecDepth 20000 in
set_option maxHeartbeats 8000000 in
theorem isInC (W0 : World) {nx : Nat} {H : Heap} {m : Mo} {V : MoV} (hm : MoIn H m V) (hn : MoLen m) (p k : Int) : ACalls Try.prog W0 48 [.agg (moV m V).toArray, .int .i64 p, .int .i64 k] nx H fun v nx' H' => v = .bool (inF m p k) ∧ Ext nx H nx' H' := by
  refine ACalls.by_trip (fn := Try.f48) (c := _) Try.func48 rfl (fun tm n hn0 htm => ?_)
  have e0 : tm 0 = .agg (moV m V).toArray := htm 0
  have e1 : tm 1 = .int .i64 p := htm 1
  have e2 : tm 2 = .int .i64 k := htm 2
  clear htm
  replace hn0 : n = 22 := hn0
  refine Trip.ok fun hok => ?_
  replace hok : ∀ id o, H id = some o → id < nx := hok
  refine Trip.seq ?_
  refine Trip.ops ?_
  refine OpsL.boxM hm hok ?_ (by (first | (simp only [ASt.ev, tmPut, ↓reduceIte, Nat.reduceEqDiff, *]; done))) (by subst_vars; decide)
  intro G x0 okG hb hG
  clear e0
  obtain ⟨oa, oc, ov⟩ := hG.of.slice
  have oh := hG.of
  have g2 := hb.c2
  rw [ov] at oh g2
  have q0 := hn.of
  repeat (first | (refine OpsL.q (by first | exact omv | exact oasg | exact osub | exact olen | exact ofa | exact old) ?_) | (refine Trip.seq ?_) | (refine Trip.ops ?_) | (refine OpsL.nil ?_; (change Trip _ _ _ _ _)))
  refine OpsL.c3 (hf := entersFrom) (hc := (isFromC W0 _ _ _)) (h := ?_)
  rintro v1 nx1 H1 ⟨d, rfl, hd, rfl, rfl⟩
  cases d
  · replace hd := iffF hd
    repeat (first | (refine OpsL.q (by first | exact omv | exact oasg | exact opkF) ?_) | (refine Trip.ret ?_; (dsimp only)) | (refine OpsL.nil ?_; (change Trip _ _ _ _ _)) | (refine OpsL.skp ?_))
    exact ⟨.inr rfl, _, res_tmp, boolF (fun q => hd q.1), x0⟩
  · replace hd := iffT hd
    obtain ⟨p0, p1⟩ := hd
    obtain ⟨q, rfl, hc⟩ := IntsAt.atI oh p0 (show p < m.of.length by omega)
    repeat (first | (refine OpsL.q (by first | exact omv | exact oasg | exact oeql | exact oixa | exact ofa | exact old | exact opkT) ?_) | (refine Trip.ret ?_; (dsimp only)) | (refine OpsL.nil ?_; (change Trip _ _ _ _ _)) | (refine OpsL.ung ?_))
    exact ⟨.inr rfl, _, res_tmp, boolD ⟨fun h => ⟨⟨p0, p1⟩, h⟩, fun h => h.2⟩, x0⟩
theorem entersAreIn : Am.Enters Try.prog 49 := ⟨Try.f49, Try.func49, by kernel_rfl, by kernel_rfl⟩
set_option maxRecDepth 20000 in
set_option maxHeartbeats 8000000 in
theorem areInC (W0 : World) {nx : Nat} {H : Heap} {m : Mo} {V : MoV} (hm : MoIn H m V) (hn : MoLen m) {lv : Value} {l : List Int} (hl : IntsAt H lv l) (hll : l.length ≤ 100000) (k : Int) : ACalls Try.prog W0 49 [.agg (moV m V).toArray, lv, .int .i64 k] nx H fun v nx' H' => v = .bool (areF m l k) ∧ Ext nx H nx' H' := by
  refine ACalls.by_trip (fn := Try.f49) (c := _) Try.func49 rfl (fun tm n hn0 htm => ?_)
  have e0 : tm 0 = .agg (moV m V).toArray := htm 0
  have e1 : tm 1 = lv := htm 1
  have e2 : tm 2 = .int .i64 k := htm 2
  clear htm
  replace hn0 : n = 21 := hn0
  refine Trip.ok fun hok => ?_
  replace hok : ∀ id o, H id = some o → id < nx := hok
  refine Trip.seq ?_
  refine Trip.ops ?_
  refine OpsL.boxM hm hok ?_ (by (first | (simp only [ASt.ev, tmPut, ↓reduceIte, Nat.reduceEqDiff, *]; done))) (by subst_vars; decide)
  intro G x0 okG hb hG
  clear e0
  obtain ⟨la, lc, rfl⟩ := hl.slice
  have hlG := hl.ext x0 hok
  repeat (first | (refine OpsL.q (by first | exact omv | exact oasg | exact olen) ?_) | (refine Trip.seq ?_) | (refine Trip.ops ?_) | (refine Trip.block ?_) | (refine OpsL.nil ?_; (change Trip _ _ _ _ _)))
  refine Trip.inv (fun (i : Nat) s => ∃ (tm : Nat → Value) (nx' : Nat) (H' : Heap), s = ⟨tm, n, H', nx'⟩ ∧ Ext (nx + 1) G nx' H' ∧ tm 2 = .int .i64 k ∧ tm 3 = .pointer (some ⟨nx, 0, none⟩) ∧ tm 9 = .slice la l.length lc ∧ tm 10 = .int .i64 l.length ∧ tm 11 = .int .i64 i ∧ i ≤ l.length ∧ allN i (fun i => inF m (l.getD i 0) k) = true) (fun i => l.length - i) 0 ?_ ?_
  · exact ⟨_, _, _, rfl, Ext.refl, by simp [tmPut, *], by simp [tmPut, *], by simp [tmPut, *], by simp [tmPut, *], by simp [tmPut, *], by omega, allN_zero⟩
  clear e1 e2
  rintro i s ⟨tm, nx', H', rfl, hx, e2, e3, e9, e10, e11, hi, hall⟩
  repeat (first | (refine OpsL.q (by exact olss) ?_) | (refine Trip.seq ?_) | (refine Trip.ops ?_) | (refine Trip.block ?_) | (refine Trip.itA (fun _ => ?_) (fun _ => ?_)) | (refine Trip.skip ?_; (change Trip _ _ _ _ _)) | (refine OpsL.nil ?_; (change Trip _ _ _ _ _)))
  · have hlt : i < l.length := by omega
    obtain ⟨q, rfl, hc⟩ := IntsAt.atI (hlG.ext hx okG) (show (0 : Int) ≤ i by omega) (show (i : Int) < l.length by omega)
    rw [Int.toNat_natCast] at hc
    repeat (first | (refine OpsL.q (by first | exact oasg | exact oixa | exact old) ?_) | (refine Trip.seq ?_) | (refine Trip.ops ?_) | (refine OpsL.nil ?_; (change Trip _ _ _ _ _)))
    refine OpsL.loadM (hb.ext hx okG) ?_ (by (first | (simp only [ASt.ev, tmPut, ↓reduceIte, Nat.reduceEqDiff, *]; done))) (by subst_vars; decide)
    repeat (first | (refine OpsL.q (by exact omv) ?_))
    refine OpsL.c3 (hf := entersIsIn) (hc := (isInC W0 (hG.ext hx okG) hn _ _)) (h := ?_)
    rintro v1 nx1 H1 ⟨rfl, y1⟩
    cases hs : inF m (l.getD i 0) k
    · repeat (first | (refine OpsL.q (by exact onot) ?_) | (refine OpsL.nil ?_; (change Trip _ _ _ _ _)))
      refine Trip.ifT ?_
      repeat (first | (refine OpsL.q (by exact oasg) ?_) | (refine Trip.seq ?_) | (refine Trip.ops ?_) | (refine Trip.ret ?_; ((repeat (refine blockExit_ret ?_)); dsimp only)) | (refine OpsL.nil ?_; (change Trip _ _ _ _ _)))
      exact ⟨.inr rfl, _, res_tmp, by rw [show areF m l k = false from allN_no hlt hs]; rfl, (x0.trans hx).trans y1⟩
    · repeat (first | (refine OpsL.q (by exact onot) ?_) | (refine OpsL.nil ?_; (change Trip _ _ _ _ _)))
      refine Trip.ifF ?_
      repeat (first | (refine OpsL.q (by first | exact omv | exact oadd) ?_) | (refine Trip.ops ?_) | (refine Trip.skip ?_; ((repeat (refine blockExit_normal ?_)); change Trip _ _ _ _ _)) | (refine OpsL.nil ?_; (dsimp only)))
      exact ⟨i + 1, ⟨_, _, _, rfl, hx.trans y1, by simp [tmPut, *], by simp [tmPut, *], by simp [tmPut, *], by simp [tmPut, *], by simp [tmPut, *], by omega, allN_put hall hs⟩, by omega⟩
  · repeat (first | (refine OpsL.q (by exact oasg) ?_) | (refine Trip.seq ?_) | (refine Trip.ops ?_) | (refine Trip.exit ?_; ((repeat (refine blockExit_eq ?_)); change Trip _ _ _ _ _)) | (refine Trip.ret ?_; (dsimp only)) | (refine OpsL.nil ?_; (change Trip _ _ _ _ _)))
    have hi2 : i = l.length := by omega
    subst hi2
    exact ⟨.inr rfl, _, res_tmp, by rw [show areF m l k = true from hall]; rfl, x0.trans hx⟩
theorem entersSized : Am.Enters Try.prog 32 := ⟨Try.f32, Try.func32, by kernel_rfl, by kernel_rfl⟩
set_option maxRecDepth 20000 in
set_option maxHeartbeats 8000000 in
theorem isSizedC (W0 : World) {nx : Nat} {H : Heap} {m : Mo} {V : MoV} (hm : MoIn H m V) : ACalls Try.prog W0 32 [.agg (moV m V).toArray] nx H fun v nx' H' => v = .bool (sizedF m) ∧ Ext nx H nx' H' := by
  refine ACalls.by_trip (fn := Try.f32) (c := _) Try.func32 rfl (fun tm n hn0 htm => ?_)
  have e0 : tm 0 = .agg (moV m V).toArray := htm 0
  clear htm
  replace hn0 : n = 53 := hn0
  refine Trip.ok fun hok => ?_
  replace hok : ∀ id o, H id = some o → id < nx := hok
  refine Trip.seq ?_
  refine Trip.ops ?_
  refine OpsL.boxM hm hok ?_ (by (first | (simp only [ASt.ev, tmPut, ↓reduceIte, Nat.reduceEqDiff, *]; done))) (by subst_vars; decide)
  intro G x0 okG hb hG
  clear e0
  obtain ⟨oa, oc, ov⟩ := hG.of.slice
  have oh := hG.of
  have g2 := hb.c2
  rw [ov] at oh g2
  obtain ⟨ea, ec, ev⟩ := hG.entry.slice
  have eh := hG.entry
  have g3 := hb.c3
  rw [ev] at eh g3
  obtain ⟨fa, fc, fv⟩ := hG.final.slice
  have fh := hG.final
  have g4 := hb.c4
  rw [fv] at fh g4
  obtain ⟨ia, ic, iv⟩ := hG.inn.slice
  have ih := hG.inn
  have g5 := hb.c5
  rw [iv] at ih g5
  obtain ⟨la, lc, lv⟩ := hG.low.slice
  have lh := hG.low
  have g6 := hb.c6
  rw [lv] at lh g6
  obtain ⟨ra, rc, rv⟩ := hG.ret.slice
  have rh := hG.ret
  have g7 := hb.c7
  rw [rv] at rh g7
  have g0 := hb.c0
  have g1 := hb.c1
  repeat (first | (refine OpsL.q (by first | exact oasg | exact olen | exact ofa | exact old) ?_) | (refine Trip.seq ?_) | (refine Trip.ops ?_) | (refine OpsL.nil ?_; (change Trip _ _ _ _ _)))
  refine OpsL.c3 (hf := entersFrom) (hc := (isFromC W0 _ _ _)) (h := ?_)
  rintro v0 nx0 H0 ⟨d, rfl, hd0, rfl, rfl⟩
  cases d
  · replace hd0 := iffF hd0
    repeat (first | (refine OpsL.q (by first | exact omv | exact oasg | exact opkF) ?_) | (refine Trip.ret ?_; (dsimp only)) | (refine OpsL.nil ?_; (change Trip _ _ _ _ _)) | (refine OpsL.skp ?_))
    exact ⟨.inr rfl, _, res_tmp, boolF (by omega), x0⟩
  replace hd0 := iffT hd0
  repeat (first | (refine OpsL.q (by first | exact omv | exact ofa | exact old) ?_) | (refine OpsL.ung ?_))
  refine OpsL.c3 (hf := entersFrom) (hc := (isFromC W0 _ _ _)) (h := ?_)
  rintro v1 nx1 H1 ⟨d, rfl, hd1, rfl, rfl⟩
  cases d
  · replace hd1 := iffF hd1
    repeat (first | (refine OpsL.q (by first | exact omv | exact oasg | exact opkT | exact opkF) ?_) | (refine Trip.ret ?_; (dsimp only)) | (refine OpsL.nil ?_; (change Trip _ _ _ _ _)) | (refine OpsL.skp ?_))
    exact ⟨.inr rfl, _, res_tmp, boolF (by omega), x0⟩
  replace hd1 := iffT hd1
  repeat (first | (refine OpsL.q (by first | exact omv | exact opkT) ?_) | (refine OpsL.ung ?_))
  refine OpsL.c3 (hf := entersFrom) (hc := (isFromC W0 _ _ _)) (h := ?_)
  rintro v2 nx2 H2 ⟨d, rfl, hd2, rfl, rfl⟩
  cases d
  · replace hd2 := iffF hd2
    repeat (first | (refine OpsL.q (by first | exact omv | exact oasg | exact opkT | exact opkF) ?_) | (refine Trip.ret ?_; (dsimp only)) | (refine OpsL.nil ?_; (change Trip _ _ _ _ _)) | (refine OpsL.skp ?_))
    exact ⟨.inr rfl, _, res_tmp, boolF (by omega), x0⟩
  replace hd2 := iffT hd2
  repeat (first | (refine OpsL.q (by first | exact omv | exact olen | exact ofa | exact old | exact opkT) ?_) | (refine OpsL.ung ?_))
  refine OpsL.c3 (hf := entersFrom) (hc := (isFromC W0 _ _ _)) (h := ?_)
  rintro v3 nx3 H3 ⟨d, rfl, hd3, rfl, rfl⟩
  cases d
  · replace hd3 := iffF hd3
    repeat (first | (refine OpsL.q (by first | exact omv | exact oasg | exact opkT | exact opkF) ?_) | (refine Trip.ret ?_; (dsimp only)) | (refine OpsL.nil ?_; (change Trip _ _ _ _ _)) | (refine OpsL.skp ?_))
    exact ⟨.inr rfl, _, res_tmp, boolF (by omega), x0⟩
  replace hd3 := iffT hd3
  repeat' (first | (refine OpsL.q (by first | exact omv | exact oasg | exact oeql | exact olen | exact ofa | exact old | exact opkT | exact opkF) ?_) | (refine Trip.ret ?_; (dsimp only)) | (refine OpsL.nil ?_; (change Trip _ _ _ _ _)) | (refine OpsL.ung ?_) | (refine OpsL.skp ?_) | (refine OpsL.gT (fun _ => ?_) (fun _ => ?_)))
  all_goals first | exact ⟨.inr rfl, _, res_tmp, boolF (by omega), x0⟩ | exact ⟨.inr rfl, _, res_tmp, boolD (by omega), x0⟩
theorem entersHoused : Am.Enters Try.prog 33 := ⟨Try.f33, Try.func33, by kernel_rfl, by kernel_rfl⟩
set_option maxRecDepth 20000 in
set_option maxHeartbeats 8000000 in
theorem isHousedC (W0 : World) {nx : Nat} {H : Heap} {m : Mo} {V : MoV} (hm : MoIn H m V) (hn : MoLen m) : ACalls Try.prog W0 33 [.agg (moV m V).toArray] nx H fun v nx' H' => v = .bool (housedF m) ∧ Ext nx H nx' H' := by
  refine ACalls.by_trip (fn := Try.f33) (c := _) Try.func33 rfl (fun tm n hn0 htm => ?_)
  have e0 : tm 0 = .agg (moV m V).toArray := htm 0
  clear htm
  replace hn0 : n = 36 := hn0
  refine Trip.ok fun hok => ?_
  replace hok : ∀ id o, H id = some o → id < nx := hok
  refine Trip.seq ?_
  refine Trip.ops ?_
  refine OpsL.boxM hm hok ?_ (by (first | (simp only [ASt.ev, tmPut, ↓reduceIte, Nat.reduceEqDiff, *]; done))) (by subst_vars; decide)
  intro G x0 okG hb hG
  clear e0
  obtain ⟨oa, oc, ov⟩ := hG.of.slice
  have oh := hG.of
  have g2 := hb.c2
  rw [ov] at oh g2
  obtain ⟨ea, ec, ev⟩ := hG.entry.slice
  have eh := hG.entry
  have g3 := hb.c3
  rw [ev] at eh g3
  have q0 := hn.of
  have q1 := hn.entry
  repeat (first | (refine OpsL.q (by first | exact omv | exact oasg | exact olen | exact ofa | exact old) ?_) | (refine Trip.seq ?_) | (refine Trip.ops ?_) | (refine Trip.block ?_) | (refine OpsL.nil ?_; (change Trip _ _ _ _ _)))
  refine Trip.inv (fun (i : Nat) s => ∃ (tm : Nat → Value), s = ⟨tm, n, G, nx + 1⟩ ∧ tm 1 = .pointer (some ⟨nx, 0, none⟩) ∧ tm 8 = .slice oa m.of.length oc ∧ tm 9 = .int .i64 m.of.length ∧ tm 10 = .int .i64 i ∧ i ≤ m.of.length ∧ allN i (fun i => decide (0 ≤ m.of.getD i 0 ∧ m.of.getD i 0 ≤ (m.entry.length : Int) - 1)) = true) (fun i => m.of.length - i) 0 ?_ ?_
  · exact ⟨_, rfl, by simp [tmPut, *], by simp [tmPut, *], by simp [tmPut, *], by simp [tmPut, *], by omega, allN_zero⟩
  rintro i s ⟨tm, rfl, e1, e8, e9, e10, hi, hall⟩
  repeat (first | (refine OpsL.q (by exact olss) ?_) | (refine Trip.seq ?_) | (refine Trip.ops ?_) | (refine Trip.block ?_) | (refine Trip.itA (fun _ => ?_) (fun _ => ?_)) | (refine Trip.skip ?_; (change Trip _ _ _ _ _)) | (refine OpsL.nil ?_; (change Trip _ _ _ _ _)))
  · have hlt : i < m.of.length := by omega
    obtain ⟨q, rfl, hc⟩ := IntsAt.atI oh (show (0 : Int) ≤ i by omega) (show (i : Int) < m.of.length by omega)
    rw [Int.toNat_natCast] at hc
    repeat (first | (refine OpsL.q (by first | exact omv | exact oasg | exact osub | exact olen | exact oixa | exact ofa | exact old) ?_) | (refine Trip.seq ?_) | (refine Trip.ops ?_) | (refine OpsL.nil ?_; (change Trip _ _ _ _ _)))
    refine OpsL.c3 (hf := entersFrom) (hc := (isFromC W0 _ _ _)) (h := ?_)
    rintro v1 nx1 H1 ⟨d, rfl, hd, rfl, rfl⟩
    cases d
    · replace hd := iffF hd
      repeat (first | (refine OpsL.q (by exact onot) ?_) | (refine OpsL.nil ?_; (change Trip _ _ _ _ _)))
      refine Trip.ifT ?_
      repeat (first | (refine OpsL.q (by exact oasg) ?_) | (refine Trip.seq ?_) | (refine Trip.ops ?_) | (refine Trip.ret ?_; ((repeat (refine blockExit_ret ?_)); dsimp only)) | (refine OpsL.nil ?_; (change Trip _ _ _ _ _)))
      exact ⟨.inr rfl, _, res_tmp, by unfold housedF; rw [allN_no hlt (by simpa using hd)]; rfl, x0⟩
    · replace hd := iffT hd
      repeat (first | (refine OpsL.q (by exact onot) ?_) | (refine OpsL.nil ?_; (change Trip _ _ _ _ _)))
      refine Trip.ifF ?_
      repeat (first | (refine OpsL.q (by first | exact omv | exact oadd) ?_) | (refine Trip.ops ?_) | (refine Trip.skip ?_; ((repeat (refine blockExit_normal ?_)); change Trip _ _ _ _ _)) | (refine OpsL.nil ?_; (dsimp only)))
      exact ⟨i + 1, ⟨_, rfl, by simp [tmPut, *], by simp [tmPut, *], by simp [tmPut, *], by simp [tmPut, *], by omega, allN_put hall (by simpa using hd)⟩, by omega⟩
  have hi2 : i = m.of.length := by omega
  subst hi2
  repeat (first | (refine OpsL.q (by first | exact omv | exact olen | exact ofa | exact old) ?_) | (refine Trip.seq ?_) | (refine Trip.ops ?_) | (refine Trip.block ?_) | (refine Trip.exit ?_; ((repeat (refine blockExit_eq ?_)); change Trip _ _ _ _ _)) | (refine OpsL.nil ?_; (change Trip _ _ _ _ _)))
  have hall1 := hall
  clear e8 e9 e10 hall
  refine Trip.inv (fun (i : Nat) s => ∃ (tm : Nat → Value) (nx' : Nat) (H' : Heap), s = ⟨tm, n, H', nx'⟩ ∧ Ext (nx + 1) G nx' H' ∧ tm 1 = .pointer (some ⟨nx, 0, none⟩) ∧ tm 23 = .slice ea m.entry.length ec ∧ tm 24 = .int .i64 m.entry.length ∧ tm 25 = .int .i64 i ∧ i ≤ m.entry.length ∧ allN i (fun i => inF m (m.entry.getD i 0) i) = true) (fun i => m.entry.length - i) 0 ?_ ?_
  · exact ⟨_, _, _, rfl, Ext.refl, by simp [tmPut, *], by simp [tmPut, *], by simp [tmPut, *], by simp [tmPut, *], by omega, allN_zero⟩
  clear e1
  rintro i s ⟨tm, nx', H', rfl, hx, e1, e8, e9, e10, hi, hall⟩
  repeat (first | (refine OpsL.q (by first | exact omv | exact olss) ?_) | (refine Trip.seq ?_) | (refine Trip.ops ?_) | (refine Trip.block ?_) | (refine Trip.itA (fun _ => ?_) (fun _ => ?_)) | (refine Trip.skip ?_; (change Trip _ _ _ _ _)) | (refine OpsL.nil ?_; (change Trip _ _ _ _ _)))
  · have hlt : i < m.entry.length := by omega
    obtain ⟨q, rfl, hc⟩ := IntsAt.atI (eh.ext hx okG) (show (0 : Int) ≤ i by omega) (show (i : Int) < m.entry.length by omega)
    rw [Int.toNat_natCast] at hc
    repeat (first | (refine OpsL.q (by first | exact oasg | exact oixa | exact old) ?_) | (refine Trip.seq ?_) | (refine Trip.ops ?_) | (refine OpsL.nil ?_; (change Trip _ _ _ _ _)))
    refine OpsL.loadM (hb.ext hx okG) ?_ (by (first | (simp only [ASt.ev, tmPut, ↓reduceIte, Nat.reduceEqDiff, *]; done))) (by subst_vars; decide)
    repeat (first | (refine OpsL.q (by exact omv) ?_))
    refine OpsL.c3 (hf := entersIsIn) (hc := (isInC W0 (hG.ext hx okG) hn _ _)) (h := ?_)
    rintro v1 nx1 H1 ⟨rfl, y1⟩
    cases hs : inF m (m.entry.getD i 0) i
    · repeat (first | (refine OpsL.q (by exact onot) ?_) | (refine OpsL.nil ?_; (change Trip _ _ _ _ _)))
      refine Trip.ifT ?_
      repeat (first | (refine OpsL.q (by exact oasg) ?_) | (refine Trip.seq ?_) | (refine Trip.ops ?_) | (refine Trip.ret ?_; ((repeat (refine blockExit_ret ?_)); dsimp only)) | (refine OpsL.nil ?_; (change Trip _ _ _ _ _)))
      exact ⟨.inr rfl, _, res_tmp, by unfold housedF; rw [allN_no (n := m.entry.length) hlt hs, Bool.and_false]; rfl, (x0.trans hx).trans y1⟩
    · repeat (first | (refine OpsL.q (by exact onot) ?_) | (refine OpsL.nil ?_; (change Trip _ _ _ _ _)))
      refine Trip.ifF ?_
      repeat (first | (refine OpsL.q (by first | exact omv | exact oadd) ?_) | (refine Trip.ops ?_) | (refine Trip.skip ?_; ((repeat (refine blockExit_normal ?_)); change Trip _ _ _ _ _)) | (refine OpsL.nil ?_; (dsimp only)))
      exact ⟨i + 1, ⟨_, _, _, rfl, hx.trans y1, by simp [tmPut, *], by simp [tmPut, *], by simp [tmPut, *], by simp [tmPut, *], by omega, allN_put hall hs⟩, by omega⟩
  · repeat (first | (refine OpsL.q (by exact oasg) ?_) | (refine Trip.seq ?_) | (refine Trip.ops ?_) | (refine Trip.exit ?_; ((repeat (refine blockExit_eq ?_)); change Trip _ _ _ _ _)) | (refine Trip.ret ?_; (dsimp only)) | (refine OpsL.nil ?_; (change Trip _ _ _ _ _)))
    have hi2 : i = m.entry.length := by omega
    subst hi2
    exact ⟨.inr rfl, _, res_tmp, by unfold housedF; rw [hall1, hall]; rfl, x0.trans hx⟩
end Go.Proofs.Ytjgbcpagfghfnaa
