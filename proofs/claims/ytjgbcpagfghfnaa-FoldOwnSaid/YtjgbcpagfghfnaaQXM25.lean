import Derived.Test.YtjgbcpagfghfnaaQXM17
import Derived.Test.YtjgbcpagfghfnaaQXM15
set_option linter.unusedVariables false
set_option linter.unusedSimpArgs false
set_option linter.unnecessarySimpa false
namespace Go.Am
theorem iffT {P : Prop} (h : true = true ↔ P) : P := h.1 rfl
theorem iffF {P : Prop} (h : false = true ↔ P) : ¬ P := fun q => by cases h.2 q
theorem boolF {P : Prop} [Decidable P] (h : ¬ P) : Value.bool false = Value.bool (decide P) := by rw [decide_eq_false h]
theorem boolD {P Q : Prop} [Decidable P] [Decidable Q] (h : P ↔ Q) : Value.bool (decide P) = Value.bool (decide Q) := by rw [decide_eq_decide.2 h]
end Go.Am
namespace Go.Proofs.Ytjgbcpagfghfnaa
open Go.Am Go.RowKit
attribute [local irreducible] aop OpsL Trip blockExit OpsD OpsK OpsR
theorem entersFrom : Am.Enters Try.prog 47 := ⟨Try.f47, Try.func47, by kernel_rfl, by kernel_rfl⟩
set_option maxRecDepth 20000 in
set_option maxHeartbeats 8000000 in
theorem isFromC (W0 : World) {nx : Nat} {H : Heap} (a b c : Int) : ACalls Try.prog W0 47 [.int .i64 a, .int .i64 b, .int .i64 c] nx H fun v nx' H' => ∃ d : Bool, v = .bool d ∧ (d = true ↔ (a ≤ b ∧ b ≤ c)) ∧ nx' = nx ∧ H' = H := by
 refine ACalls.by_trip (fn := Try.f47) (c := _) Try.func47 rfl (fun tm n hn0 htm => ?_)
 have e0 : tm 0 = .int .i64 a := htm 0
 have e1 : tm 1 = .int .i64 b := htm 1
 have e2 : tm 2 = .int .i64 c := htm 2
 clear htm
 replace hn0 : n = 15 := hn0
 repeat (first | (refine OpsL.q (by first | exact omv | exact oasg | exact oleq | exact opkT) ?_) | (refine Trip.seq ?_) | (refine Trip.ops ?_) | (refine Trip.ret ?_; (dsimp only)) | (refine OpsL.nil ?_; (change Trip _ _ _ _ _)) | (refine OpsL.ung ?_) | (refine OpsL.gT (fun _ => ?_) (fun _ => ?_)))
 ·exact ⟨.inr rfl, _, res_tmp, decide (b ≤ c), stp, by simp [*], rfl, rfl⟩
 ·repeat (first | (refine OpsL.q (by first | exact oasg | exact opkF) ?_) | (refine Trip.ret ?_; (dsimp only)) | (refine OpsL.nil ?_; (change Trip _ _ _ _ _)) | (refine OpsL.skp ?_))
  exact ⟨.inr rfl, _, res_tmp, false, stp, by simp [*], rfl, rfl⟩
theorem entersIsIn : Am.Enters Try.prog 48 := ⟨Try.f48, Try.func48, by kernel_rfl, by kernel_rfl⟩
set_option maxRecDepth 20000 in
set_option maxHeartbeats 8000000 in
theorem isInC (W0 : World) {nx : Nat} {H : Heap} {m : Mo} {V : MoV} (hm : MoIn H m V) (hn : MoLen m) (p k : Int) : ACalls Try.prog W0 48 [.agg (moV m V).toArray, .int .i64 p, .int .i64 k] nx H fun v nx' H' => v = .bool (inF m p k) ∧ Ext nx H nx' H' := by
 refine ACalls.by_trip (fn := Try.f48) (c := _) Try.func48 rfl (fun tm n hn0 htm => ?_)
 have e0 : tm 0 = .agg (moV m V).toArray := htm 0
 have e1 : tm 1 = .int .i64 p := htm 1
 have e2 : tm 2 = .int .i64 k := htm 2
 clear htm
 replace hn0 : n = 22 := hn0
 refine Trip.ok fun hok => ?_
 replace hok : ∀ id o, H id = some o → id < nx := hok
 refine zg29 ?_
 refine OpsL.boxM hm hok ?_ evd sdc
 intro G x0 okG hb hG
 clear e0
 obtain ⟨oa, oc, ov⟩ := hG.of.slice
 have oh := hG.of
 have g2 := hb.c2
 rw [ov] at oh g2
 have q0 := hn.of
 repeat (first | (refine OpsL.q (by first | exact omv | exact oasg | exact osub | exact olen | exact ofa | exact old) ?_) | (refine Trip.seq ?_) | (refine Trip.ops ?_) | (refine OpsL.nil ?_; (change Trip _ _ _ _ _)))
 refine OpsL.c3 (hf := entersFrom) (hc := (isFromC W0 _ _ _)) (h := ?_)
 rintro v1 nx1 H1 ⟨d, rfl, hd, rfl, rfl⟩
 cases d
 ·replace hd := iffF hd
  refine zg123 ?_
  exact ⟨.inr rfl, _, res_tmp, boolF (fun q => hd q.1), x0⟩
 ·replace hd := iffT hd
  obtain ⟨p0, p1⟩ := hd
  obtain ⟨q, rfl, hc⟩ := IntsAt.atI oh p0 (show p < m.of.length by omega)
  repeat (first | (refine OpsL.q (by first | exact omv | exact oasg | exact oeql | exact oixa | exact ofa | exact old | exact opkT) ?_) | (refine Trip.ret ?_; (dsimp only)) | (refine OpsL.nil ?_; (change Trip _ _ _ _ _)) | (refine OpsL.ung ?_))
  exact ⟨.inr rfl, _, res_tmp, boolD ⟨fun h => ⟨⟨p0, p1⟩, h⟩, fun h => h.2⟩, x0⟩
theorem entersAreIn : Am.Enters Try.prog 49 := ⟨Try.f49, Try.func49, by kernel_rfl, by kernel_rfl⟩
set_option maxRecDepth 20000 in
set_option maxHeartbeats 8000000 in
theorem areInC (W0 : World) {nx : Nat} {H : Heap} {m : Mo} {V : MoV} (hm : MoIn H m V) (hn : MoLen m) {lv : Value} {l : List Int} (hl : IntsAt H lv l) (hll : l.length ≤ 100000) (k : Int) : ACalls Try.prog W0 49 [.agg (moV m V).toArray, lv, .int .i64 k] nx H fun v nx' H' => v = .bool (areF m l k) ∧ Ext nx H nx' H' := by
 refine ACalls.by_trip (fn := Try.f49) (c := _) Try.func49 rfl (fun tm n hn0 htm => ?_)
 have e0 : tm 0 = .agg (moV m V).toArray := htm 0
 have e1 : tm 1 = lv := htm 1
 have e2 : tm 2 = .int .i64 k := htm 2
 clear htm
 replace hn0 : n = 21 := hn0
 refine Trip.ok fun hok => ?_
 replace hok : ∀ id o, H id = some o → id < nx := hok
 refine zg29 ?_
 refine OpsL.boxM hm hok ?_ evd sdc
 intro G x0 okG hb hG
 clear e0
 obtain ⟨la, lc, rfl⟩ := hl.slice
 have hlG := hl.ext x0 hok
 refine zg44 ?_
 refine Trip.inv (fun (i : Nat) s => ∃ (tm : Nat → Value) (nx' : Nat) (H' : Heap), s = ⟨tm, n, H', nx'⟩ ∧ Ext (nx + 1) G nx' H' ∧ tm 2 = .int .i64 k ∧ tm 3 = .pointer (some ⟨nx, 0, none⟩) ∧ tm 9 = .slice la l.length lc ∧ tm 10 = .int .i64 l.length ∧ tm 11 = .int .i64 i ∧ i ≤ l.length ∧ allN i (fun i => inF m (l.getD i 0) k) = true) (fun i => l.length - i) 0 ?_ ?_
 ·exact ⟨_, _, _, rfl, Ext.refl, stp, stp, stp, stp, stp, by omega, allN_zero⟩
 clear e1 e2
 rintro i s ⟨tm, nx', H', rfl, hx, e2, e3, e9, e10, e11, hi, hall⟩
 repeat (first | (refine OpsL.q (by exact olss) ?_) | (refine Trip.seq ?_) | (refine Trip.ops ?_) | (refine Trip.block ?_) | (refine Trip.itA (fun _ => ?_) (fun _ => ?_)) | (refine Trip.skip ?_; (change Trip _ _ _ _ _)) | (refine OpsL.nil ?_; (change Trip _ _ _ _ _)))
 ·have hlt : i < l.length := by omega
  obtain ⟨q, rfl, hc⟩ := IntsAt.atI (hlG.ext hx okG) (show (0 : Int) ≤ i by omega) (show (i : Int) < l.length by omega)
  rw [Int.toNat_natCast] at hc
  repeat (first | (refine OpsL.q (by first | exact oasg | exact oixa | exact old) ?_) | (refine Trip.seq ?_) | (refine Trip.ops ?_) | (refine OpsL.nil ?_; (change Trip _ _ _ _ _)))
  refine OpsL.loadM (hb.ext hx okG) ?_ evd sdc
  refine zg61 ?_
  refine OpsL.c3 (hf := entersIsIn) (hc := (isInC W0 (hG.ext hx okG) hn _ _)) (h := ?_)
  rintro v1 nx1 H1 ⟨rfl, y1⟩
  cases hs : inF m (l.getD i 0) k
  ·repeat (first | (refine OpsL.q (by exact onot) ?_) | (refine OpsL.nil ?_; (change Trip _ _ _ _ _)))
   refine zg80 ?_
   exact ⟨.inr rfl, _, res_tmp, by rw [show areF m l k = false from allN_no hlt hs]; rfl, (x0.trans hx).trans y1⟩
  ·repeat (first | (refine OpsL.q (by exact onot) ?_) | (refine OpsL.nil ?_; (change Trip _ _ _ _ _)))
   refine zg88 ?_
   refine zg20 ?_
   exact ⟨i + 1, ⟨_, _, _, rfl, hx.trans y1, stp, stp, stp, stp, stp, by omega, allN_put hall hs⟩, by omega⟩
 ·repeat (first | (refine OpsL.q (by exact oasg) ?_) | (refine Trip.seq ?_) | (refine Trip.ops ?_) | (refine Trip.exit ?_; ((repeat (refine blockExit_eq ?_)); change Trip _ _ _ _ _)) | (refine Trip.ret ?_; (dsimp only)) | (refine OpsL.nil ?_; (change Trip _ _ _ _ _)))
  have hi2 : i = l.length := by omega
  subst hi2
  exact ⟨.inr rfl, _, res_tmp, by rw [show areF m l k = true from hall]; rfl, x0.trans hx⟩
theorem entersSized : Am.Enters Try.prog 32 := ⟨Try.f32, Try.func32, by kernel_rfl, by kernel_rfl⟩
set_option maxRecDepth 20000 in
set_option maxHeartbeats 8000000 in
theorem isSizedC (W0 : World) {nx : Nat} {H : Heap} {m : Mo} {V : MoV} (hm : MoIn H m V) : ACalls Try.prog W0 32 [.agg (moV m V).toArray] nx H fun v nx' H' => v = .bool (sizedF m) ∧ Ext nx H nx' H' := by
 refine ACalls.by_trip (fn := Try.f32) (c := _) Try.func32 rfl (fun tm n hn0 htm => ?_)
 have e0 : tm 0 = .agg (moV m V).toArray := htm 0
 clear htm
 replace hn0 : n = 53 := hn0
 refine Trip.ok fun hok => ?_
 replace hok : ∀ id o, H id = some o → id < nx := hok
 refine zg29 ?_
 refine OpsL.boxM hm hok ?_ evd sdc
 intro G x0 okG hb hG
 clear e0
 obtain ⟨oa, oc, ov⟩ := hG.of.slice
 have oh := hG.of
 have g2 := hb.c2
 rw [ov] at oh g2
 obtain ⟨ea, ec, ev⟩ := hG.entry.slice
 have eh := hG.entry
 have g3 := hb.c3
 rw [ev] at eh g3
 obtain ⟨fa, fc, fv⟩ := hG.final.slice
 have fh := hG.final
 have g4 := hb.c4
 rw [fv] at fh g4
 obtain ⟨ia, ic, iv⟩ := hG.inn.slice
 have ih := hG.inn
 have g5 := hb.c5
 rw [iv] at ih g5
 obtain ⟨la, lc, lv⟩ := hG.low.slice
 have lh := hG.low
 have g6 := hb.c6
 rw [lv] at lh g6
 obtain ⟨ra, rc, rv⟩ := hG.ret.slice
 have rh := hG.ret
 have g7 := hb.c7
 rw [rv] at rh g7
 have g0 := hb.c0
 have g1 := hb.c1
 repeat (first | (refine OpsL.q (by first | exact oasg | exact olen | exact ofa | exact old) ?_) | (refine Trip.seq ?_) | (refine Trip.ops ?_) | (refine OpsL.nil ?_; (change Trip _ _ _ _ _)))
 refine OpsL.c3 (hf := entersFrom) (hc := (isFromC W0 _ _ _)) (h := ?_)
 rintro v0 nx0 H0 ⟨d, rfl, hd0, rfl, rfl⟩
 cases d
 ·replace hd0 := iffF hd0
  refine zg123 ?_
  exact ⟨.inr rfl, _, res_tmp, boolF (by omega), x0⟩
 replace hd0 := iffT hd0
 repeat (first | (refine OpsL.q (by first | exact omv | exact ofa | exact old) ?_) | (refine OpsL.ung ?_))
 refine OpsL.c3 (hf := entersFrom) (hc := (isFromC W0 _ _ _)) (h := ?_)
 rintro v1 nx1 H1 ⟨d, rfl, hd1, rfl, rfl⟩
 cases d
 ·replace hd1 := iffF hd1
  refine zg72 ?_
  exact ⟨.inr rfl, _, res_tmp, boolF (by omega), x0⟩
 replace hd1 := iffT hd1
 repeat (first | (refine OpsL.q (by first | exact omv | exact opkT) ?_) | (refine OpsL.ung ?_))
 refine OpsL.c3 (hf := entersFrom) (hc := (isFromC W0 _ _ _)) (h := ?_)
 rintro v2 nx2 H2 ⟨d, rfl, hd2, rfl, rfl⟩
 cases d
 ·replace hd2 := iffF hd2
  refine zg72 ?_
  exact ⟨.inr rfl, _, res_tmp, boolF (by omega), x0⟩
 replace hd2 := iffT hd2
 repeat (first | (refine OpsL.q (by first | exact omv | exact olen | exact ofa | exact old | exact opkT) ?_) | (refine OpsL.ung ?_))
 refine OpsL.c3 (hf := entersFrom) (hc := (isFromC W0 _ _ _)) (h := ?_)
 rintro v3 nx3 H3 ⟨d, rfl, hd3, rfl, rfl⟩
 cases d
 ·replace hd3 := iffF hd3
  refine zg72 ?_
  exact ⟨.inr rfl, _, res_tmp, boolF (by omega), x0⟩
 replace hd3 := iffT hd3
 repeat' (first | (refine OpsL.q (by first | exact omv | exact oasg | exact oeql | exact olen | exact ofa | exact old | exact opkT | exact opkF) ?_) | (refine Trip.ret ?_; (dsimp only)) | (refine OpsL.nil ?_; (change Trip _ _ _ _ _)) | (refine OpsL.ung ?_) | (refine OpsL.skp ?_) | (refine OpsL.gT (fun _ => ?_) (fun _ => ?_)))
 all_goals first | exact ⟨.inr rfl, _, res_tmp, boolF (by omega), x0⟩ | exact ⟨.inr rfl, _, res_tmp, boolD (by omega), x0⟩
theorem entersHoused : Am.Enters Try.prog 33 := ⟨Try.f33, Try.func33, by kernel_rfl, by kernel_rfl⟩
set_option maxRecDepth 20000 in
set_option maxHeartbeats 8000000 in
theorem isHousedC (W0 : World) {nx : Nat} {H : Heap} {m : Mo} {V : MoV} (hm : MoIn H m V) (hn : MoLen m) : ACalls Try.prog W0 33 [.agg (moV m V).toArray] nx H fun v nx' H' => v = .bool (housedF m) ∧ Ext nx H nx' H' := by
 refine ACalls.by_trip (fn := Try.f33) (c := _) Try.func33 rfl (fun tm n hn0 htm => ?_)
 have e0 : tm 0 = .agg (moV m V).toArray := htm 0
 clear htm
 replace hn0 : n = 36 := hn0
 refine Trip.ok fun hok => ?_
 replace hok : ∀ id o, H id = some o → id < nx := hok
 refine zg29 ?_
 refine OpsL.boxM hm hok ?_ evd sdc
 intro G x0 okG hb hG
 clear e0
 obtain ⟨oa, oc, ov⟩ := hG.of.slice
 have oh := hG.of
 have g2 := hb.c2
 rw [ov] at oh g2
 obtain ⟨ea, ec, ev⟩ := hG.entry.slice
 have eh := hG.entry
 have g3 := hb.c3
 rw [ev] at eh g3
 have q0 := hn.of
 have q1 := hn.entry
 repeat (first | (refine OpsL.q (by first | exact omv | exact oasg | exact olen | exact ofa | exact old) ?_) | (refine Trip.seq ?_) | (refine Trip.ops ?_) | (refine Trip.block ?_) | (refine OpsL.nil ?_; (change Trip _ _ _ _ _)))
 refine Trip.inv (fun (i : Nat) s => ∃ (tm : Nat → Value), s = ⟨tm, n, G, nx + 1⟩ ∧ tm 1 = .pointer (some ⟨nx, 0, none⟩) ∧ tm 8 = .slice oa m.of.length oc ∧ tm 9 = .int .i64 m.of.length ∧ tm 10 = .int .i64 i ∧ i ≤ m.of.length ∧ allN i (fun i => decide (0 ≤ m.of.getD i 0 ∧ m.of.getD i 0 ≤ (m.entry.length : Int) - 1)) = true) (fun i => m.of.length - i) 0 ?_ ?_
 ·exact ⟨_, rfl, stp, stp, stp, stp, by omega, allN_zero⟩
 rintro i s ⟨tm, rfl, e1, e8, e9, e10, hi, hall⟩
 repeat (first | (refine OpsL.q (by exact olss) ?_) | (refine Trip.seq ?_) | (refine Trip.ops ?_) | (refine Trip.block ?_) | (refine Trip.itA (fun _ => ?_) (fun _ => ?_)) | (refine Trip.skip ?_; (change Trip _ _ _ _ _)) | (refine OpsL.nil ?_; (change Trip _ _ _ _ _)))
 ·have hlt : i < m.of.length := by omega
  obtain ⟨q, rfl, hc⟩ := IntsAt.atI oh (show (0 : Int) ≤ i by omega) (show (i : Int) < m.of.length by omega)
  rw [Int.toNat_natCast] at hc
  repeat (first | (refine OpsL.q (by first | exact omv | exact oasg | exact osub | exact olen | exact oixa | exact ofa | exact old) ?_) | (refine Trip.seq ?_) | (refine Trip.ops ?_) | (refine OpsL.nil ?_; (change Trip _ _ _ _ _)))
  refine OpsL.c3 (hf := entersFrom) (hc := (isFromC W0 _ _ _)) (h := ?_)
  rintro v1 nx1 H1 ⟨d, rfl, hd, rfl, rfl⟩
  cases d
  ·replace hd := iffF hd
   refine zg31 ?_
   refine zg80 ?_
   exact ⟨.inr rfl, _, res_tmp, by unfold housedF; rw [allN_no hlt (by simpa using hd)]; rfl, x0⟩
  ·replace hd := iffT hd
   refine zg31 ?_
   refine zg88 ?_
   refine zg20 ?_
   exact ⟨i + 1, ⟨_, rfl, stp, stp, stp, stp, by omega, allN_put hall (by simpa using hd)⟩, by omega⟩
 have hi2 : i = m.of.length := by omega
 subst hi2
 repeat (first | (refine OpsL.q (by first | exact omv | exact olen | exact ofa | exact old) ?_) | (refine Trip.seq ?_) | (refine Trip.ops ?_) | (refine Trip.block ?_) | (refine Trip.exit ?_; ((repeat (refine blockExit_eq ?_)); change Trip _ _ _ _ _)) | (refine OpsL.nil ?_; (change Trip _ _ _ _ _)))
 have hall1 := hall
 clear e8 e9 e10 hall
 refine Trip.inv (fun (i : Nat) s => ∃ (tm : Nat → Value) (nx' : Nat) (H' : Heap), s = ⟨tm, n, H', nx'⟩ ∧ Ext (nx + 1) G nx' H' ∧ tm 1 = .pointer (some ⟨nx, 0, none⟩) ∧ tm 23 = .slice ea m.entry.length ec ∧ tm 24 = .int .i64 m.entry.length ∧ tm 25 = .int .i64 i ∧ i ≤ m.entry.length ∧ allN i (fun i => inF m (m.entry.getD i 0) i) = true) (fun i => m.entry.length - i) 0 ?_ ?_
 ·exact ⟨_, _, _, rfl, Ext.refl, stp, stp, stp, stp, by omega, allN_zero⟩
 clear e1
 rintro i s ⟨tm, nx', H', rfl, hx, e1, e8, e9, e10, hi, hall⟩
 repeat (first | (refine OpsL.q (by first | exact omv | exact olss) ?_) | (refine Trip.seq ?_) | (refine Trip.ops ?_) | (refine Trip.block ?_) | (refine Trip.itA (fun _ => ?_) (fun _ => ?_)) | (refine Trip.skip ?_; (change Trip _ _ _ _ _)) | (refine OpsL.nil ?_; (change Trip _ _ _ _ _)))
 ·have hlt : i < m.entry.length := by omega
  obtain ⟨q, rfl, hc⟩ := IntsAt.atI (eh.ext hx okG) (show (0 : Int) ≤ i by omega) (show (i : Int) < m.entry.length by omega)
  rw [Int.toNat_natCast] at hc
  repeat (first | (refine OpsL.q (by first | exact oasg | exact oixa | exact old) ?_) | (refine Trip.seq ?_) | (refine Trip.ops ?_) | (refine OpsL.nil ?_; (change Trip _ _ _ _ _)))
  refine OpsL.loadM (hb.ext hx okG) ?_ evd sdc
  refine zg61 ?_
  refine OpsL.c3 (hf := entersIsIn) (hc := (isInC W0 (hG.ext hx okG) hn _ _)) (h := ?_)
  rintro v1 nx1 H1 ⟨rfl, y1⟩
  cases hs : inF m (m.entry.getD i 0) i
  ·repeat (first | (refine OpsL.q (by exact onot) ?_) | (refine OpsL.nil ?_; (change Trip _ _ _ _ _)))
   refine zg80 ?_
   exact ⟨.inr rfl, _, res_tmp, by unfold housedF; rw [allN_no (n := m.entry.length) hlt hs, Bool.and_false]; rfl, (x0.trans hx).trans y1⟩
  ·repeat (first | (refine OpsL.q (by exact onot) ?_) | (refine OpsL.nil ?_; (change Trip _ _ _ _ _)))
   refine zg88 ?_
   refine zg20 ?_
   exact ⟨i + 1, ⟨_, _, _, rfl, hx.trans y1, stp, stp, stp, stp, by omega, allN_put hall hs⟩, by omega⟩
 ·repeat (first | (refine OpsL.q (by exact oasg) ?_) | (refine Trip.seq ?_) | (refine Trip.ops ?_) | (refine Trip.exit ?_; ((repeat (refine blockExit_eq ?_)); change Trip _ _ _ _ _)) | (refine Trip.ret ?_; (dsimp only)) | (refine OpsL.nil ?_; (change Trip _ _ _ _ _)))
  have hi2 : i = m.entry.length := by omega
  subst hi2
  exact ⟨.inr rfl, _, res_tmp, by unfold housedF; rw [hall1, hall]; rfl, x0.trans hx⟩
end Go.Proofs.Ytjgbcpagfghfnaa
namespace Go.Proofs.Ytjgbcpagfghfnaa
open Go.Am Go.RowKit
attribute [local irreducible] aop OpsL Trip blockExit OpsD OpsK OpsR
theorem entersPlain : Am.Enters Try.prog 34 := ⟨Try.f34, Try.func34, by kernel_rfl, by kernel_rfl⟩
set_option maxRecDepth 20000 in
set_option maxHeartbeats 8000000 in
theorem isPlainC (W0 : World) {nx : Nat} {H : Heap} {m : Mo} {V : MoV} (hm : MoIn H m V) (hn : MoLen m) {p : Nat} (hp : p < m.of.length) (hp1 : p < m.inn.length) : ACalls Try.prog W0 34 [.agg (moV m V).toArray, .int .i64 p] nx H fun v nx' H' => v = .bool (plnF m p) ∧ Ext nx H nx' H' := by
 refine ACalls.by_trip (fn := Try.f34) (c := _) Try.func34 rfl (fun tm n hn0 htm => ?_)
 have e0 : tm 0 = .agg (moV m V).toArray := htm 0
 have e1 : tm 1 = .int .i64 p := htm 1
 clear htm
 replace hn0 : n = 28 := hn0
 refine Trip.ok fun hok => ?_
 replace hok : ∀ id o, H id = some o → id < nx := hok
 refine zg29 ?_
 refine OpsL.boxM hm hok ?_ evd sdc
 intro G x0 okG hb hG
 clear e0
 obtain ⟨oa, oc, ov⟩ := hG.of.slice
 have oh := hG.of
 have g2 := hb.c2
 rw [ov] at oh g2
 obtain ⟨ia, ic, iv⟩ := hG.inn.slice
 have ih := hG.inn
 have g5 := hb.c5
 rw [iv] at ih g5
 have g0 := hb.c0
 obtain ⟨q, rfl, hc⟩ := IntsAt.atI oh (show (0 : Int) ≤ p by omega) (show (p : Int) < m.of.length by omega)
 obtain ⟨q1, rb, rk, rfl, hc1, hrow⟩ := L2At.atI ih (show (0 : Int) ≤ p by omega) (show (p : Int) < m.inn.length by omega)
 simp only [Int.toNat_natCast] at hc hc1 hrow
 have hl := hn.inn1 p
 refine zg63 ?_
 cases hd : decide (((m.inn.getD p []).length : Int) = m.plains)
 ·refine OpsR.drawnW [21] (K := fun _ _ => True) mixed13 krf krf [0, 1, 2, 3, 4, 5, 6, 7, 8, 9, 10, 11, 12, 13, 14, 15, 16, 17, 18, 19, 20, 21, 22, 23] krf trivial ?_
  refine zg58 ?_
  refine zg34 ?_
  refine zg18 ?_
  refine zg41 ?_
  refine zg84 ?_
  refine zg41 ?_
  refine ⟨trivial, ?_⟩
  refine zg17 ?_
  refine zg42 ?_
  (change Trip _ _ _ _ _)
  refine zg85 ?_
  exact ⟨.inr rfl, _, res_tmp, by unfold plnF; rw [hd]; rfl, x0⟩
 ·refine OpsR.drawnW [21] (K := fun _ _ => True) mixed13 krf krf [0, 1, 2, 3, 4, 5, 6, 7, 8, 9, 10, 11, 12, 13, 14, 15, 16, 17, 18, 19, 20, 21, 22, 23] krf trivial ?_
  refine zg58 ?_
  refine zg1 ?_
  refine zg69 ?_
  refine OpsL.loadM hb ?_ evd sdc
  repeat (first | (refine OpsL.nil ?_; (skip)))
  refine zg7 ?_
  refine zg2 ?_
  refine zg7 ?_
  refine zg2 ?_
  refine zg84 ?_
  refine zg69 ?_
  refine OpsL.c3 (hf := entersAreIn) (hc := (areInC W0 hG hn hrow hl _)) (h := ?_)
  rintro v1 nx1 H1 ⟨rfl, y1⟩
  refine OpsL.nil ⟨trivial, ?_⟩
  refine zg121 ?_
  refine zg42 ?_
  (change Trip _ _ _ _ _)
  refine zg85 ?_
  exact ⟨.inr rfl, _, res_tmp, by unfold plnF; rw [hd]; rfl, x0.trans y1⟩
theorem entersLow : Am.Enters Try.prog 35 := ⟨Try.f35, Try.func35, by kernel_rfl, by kernel_rfl⟩
set_option maxRecDepth 20000 in
set_option maxHeartbeats 8000000 in
theorem isLowC (W0 : World) {nx : Nat} {H : Heap} {m : Mo} {V : MoV} (hm : MoIn H m V) (hn : MoLen m) {p : Nat} (hp : p < m.of.length) (hp1 : p < m.low.length) : ACalls Try.prog W0 35 [.agg (moV m V).toArray, .int .i64 p] nx H fun v nx' H' => v = .bool (lowF m p) ∧ Ext nx H nx' H' := by
 refine ACalls.by_trip (fn := Try.f35) (c := _) Try.func35 rfl (fun tm n hn0 htm => ?_)
 have e0 : tm 0 = .agg (moV m V).toArray := htm 0
 have e1 : tm 1 = .int .i64 p := htm 1
 clear htm
 replace hn0 : n = 36 := hn0
 refine Trip.ok fun hok => ?_
 replace hok : ∀ id o, H id = some o → id < nx := hok
 refine zg29 ?_
 refine OpsL.boxM hm hok ?_ evd sdc
 intro G x0 okG hb hG
 clear e0
 obtain ⟨oa, oc, ov⟩ := hG.of.slice
 have oh := hG.of
 have g2 := hb.c2
 rw [ov] at oh g2
 obtain ⟨ia, ic, iv⟩ := hG.low.slice
 have ih := hG.low
 have g6 := hb.c6
 rw [iv] at ih g6
 have g1 := hb.c1
 obtain ⟨q, rfl, hc⟩ := IntsAt.atI oh (show (0 : Int) ≤ p by omega) (show (p : Int) < m.of.length by omega)
 obtain ⟨q1, rb, rk, rfl, hc1, hrow⟩ := L2At.atI ih (show (0 : Int) ≤ p by omega) (show (p : Int) < m.low.length by omega)
 simp only [Int.toNat_natCast] at hc hc1 hrow
 have hl := hn.low1 p
 refine zg118 ?_
 by_cases h0 : m.of.getD p 0 = 0
 ·refine OpsL.neqF ?_ (c := h0)
  replace h0 : decide (m.of.getD p 0 = 0) = true := decide_eq_true h0
  refine zg23 ?_
  refine zg37 ?_
  cases hd : decide (((m.low.getD p []).length : Int) = m.closings)
  ·refine OpsR.drawnW [16] (K := fun _ _ => True) mixed13 krf krf [0, 1, 2, 3, 4, 5, 6, 7, 8, 9, 10, 11, 12, 13, 14, 15, 16, 17, 18] krf trivial ?_
   refine zg58 ?_
   refine zg0 ?_
   refine zg0 ?_
   refine zg84 ?_
   refine zg41 ?_
   refine ⟨trivial, ?_⟩
   refine zg17 ?_
   refine zg42 ?_
   (change Trip _ _ _ _ _)
   refine zg85 ?_
   exact ⟨.inr rfl, _, res_tmp, by unfold lowF; rw [if_pos (of_decide_eq_true h0), hd]; rfl, x0⟩
  ·refine OpsR.drawnW [16] (K := fun _ _ => True) mixed13 krf krf [0, 1, 2, 3, 4, 5, 6, 7, 8, 9, 10, 11, 12, 13, 14, 15, 16, 17, 18] krf trivial ?_
   refine zg58 ?_
   refine zg1 ?_
   refine zg69 ?_
   refine OpsL.loadM hb ?_ evd sdc
   repeat (first | (refine OpsL.nil ?_; (skip)))
   refine zg7 ?_
   refine zg2 ?_
   refine zg84 ?_
   refine zg69 ?_
   refine OpsL.c3 (hf := entersAreIn) (hc := (areInC W0 hG hn hrow hl _)) (h := ?_)
   rintro v1 nx1 H1 ⟨rfl, y1⟩
   refine OpsL.nil ⟨trivial, ?_⟩
   refine zg121 ?_
   refine zg42 ?_
   (change Trip _ _ _ _ _)
   refine zg85 ?_
   exact ⟨.inr rfl, _, res_tmp, by unfold lowF; rw [if_pos (of_decide_eq_true h0), hd]; rfl, x0.trans y1⟩
 ·refine OpsL.neqT ?_ (c := h0)
  refine zg95 ?_
  exact ⟨.inr rfl, _, res_tmp, by unfold lowF; rw [if_neg h0]; rfl, x0⟩
end Go.Proofs.Ytjgbcpagfghfnaa
namespace Go.Proofs.Ytjgbcpagfghfnaa
open Go.Am Go.RowKit
attribute [local irreducible] aop OpsL Trip blockExit OpsD OpsK OpsR
theorem entersRet : Am.Enters Try.prog 36 := ⟨Try.f36, Try.func36, by kernel_rfl, by kernel_rfl⟩
set_option maxRecDepth 20000 in
set_option maxHeartbeats 8000000 in
theorem isRetC (W0 : World) {nx : Nat} {H : Heap} {m : Mo} {V : MoV} (hm : MoIn H m V) (hn : MoLen m) {p : Nat} (hp : p < m.of.length) (hp1 : p < m.ret.length) : ACalls Try.prog W0 36 [.agg (moV m V).toArray, .int .i64 p] nx H fun v nx' H' => v = .bool (retF m p) ∧ Ext nx H nx' H' := by
 refine ACalls.by_trip (fn := Try.f36) (c := _) Try.func36 rfl (fun tm n hn0 htm => ?_)
 have e0 : tm 0 = .agg (moV m V).toArray := htm 0
 have e1 : tm 1 = .int .i64 p := htm 1
 clear htm
 replace hn0 : n = 65 := hn0
 refine Trip.ok fun hok => ?_
 replace hok : ∀ id o, H id = some o → id < nx := hok
 refine zg29 ?_
 refine OpsL.boxM hm hok ?_ evd sdc
 intro G x0 okG hb hG
 clear e0
 obtain ⟨oa, oc, ov⟩ := hG.of.slice
 have oh := hG.of
 have g2 := hb.c2
 rw [ov] at oh g2
 obtain ⟨ra, rc, rv⟩ := hG.ret.slice
 have rh := hG.ret
 have g7 := hb.c7
 rw [rv] at rh g7
 have g1 := hb.c1
 obtain ⟨q, rfl, hc⟩ := IntsAt.atI oh (show (0 : Int) ≤ p by omega) (show (p : Int) < m.of.length by omega)
 obtain ⟨q1, rb, rk, rfl, hc1, hrow⟩ := L3At.atI rh (show (0 : Int) ≤ p by omega) (show (p : Int) < m.ret.length by omega)
 simp only [Int.toNat_natCast] at hc hc1 hrow
 have hl := hn.ret1 p
 have hl2 := hn.ret2 p
 have q0 := hn.of
 refine zg118 ?_
 by_cases h0 : m.of.getD p 0 = 0
 ·refine OpsL.eqlT ?_ (c := h0)
  replace h0 : decide (m.of.getD p 0 = 0) = true := decide_eq_true h0
  refine zg95 ?_
  exact ⟨.inr rfl, _, res_tmp, by unfold retF; rw [if_pos (of_decide_eq_true h0)]; rfl, x0⟩
 refine OpsL.eqlF ?_ (c := h0)
 refine zg23 ?_
 refine zg37 ?_
 have hrF : retF m p = (decide (((m.ret.getD p []).length : Int) = m.closings) && allN (m.ret.getD p []).length fun j => rowF m ((m.ret.getD p []).getD j [])) := by unfold retF; rw [if_neg h0]
 rw [hrF]
 clear hrF h0
 generalize m.ret.getD p [] = L at *
 refine Trip.mono (Q := fun e st => e = .normal ∧ ∃ tm' : Nat → Value, st = ⟨tm', n, G, nx + 1⟩ ∧ tm' 1 = .int .i64 p ∧ tm' 2 = .pointer (some ⟨nx, 0, none⟩) ∧ tm' 30 = .bool (!decide ((L.length : Int) = m.closings))) ?_ ?_
 ·refine OpsR.drawnW [] (K := fun _ _ => True) mixed13 krf krf [0, 1, 2, 3, 4, 5, 6, 7, 8] krf trivial ?_
  refine zg108 ?_
  refine zg43 ?_
  refine zg10 ?_
  cases hd : decide ((L.length : Int) = m.closings)
  ·refine OpsL.neqT ?_ (c := of_decide_eq_false hd)
   refine zg98 ?_
   exact ⟨rfl, _, rfl, stp, stp, stp⟩
  ·refine OpsL.neqF ?_ (c := of_decide_eq_true hd)
   refine zg98 ?_
   exact ⟨rfl, _, rfl, stp, stp, stp⟩
 clear e1
 rintro e st ⟨rfl, tm', rfl, e1, e2, e30⟩
 (change Trip _ _ _ _ _)
 repeat fail
 cases hd : decide ((L.length : Int) = m.closings)
 ·rw [hd] at e30
  replace e30 : tm' 30 = .bool true := e30
  refine zg90 ?_
  exact ⟨.inr rfl, _, res_tmp, rfl, x0⟩
 rw [hd] at e30
 replace e30 : tm' 30 = .bool false := e30
 refine zg88 ?_
 repeat (first | (refine OpsL.q (by first | exact omv | exact olen | exact oixa | exact ofa | exact old) ?_) | (refine Trip.seq ?_) | (refine Trip.ops ?_) | (refine Trip.block ?_) | (refine Trip.skip ?_; (change Trip _ _ _ _ _)) | (refine OpsL.nil ?_; (change Trip _ _ _ _ _)))
 rw [Bool.true_and]
 clear e30 hd
 refine Trip.inv (fun (i : Nat) s => ∃ (tm : Nat → Value) (nx' : Nat) (H' : Heap), s = ⟨tm, n, H', nx'⟩ ∧ Ext (nx + 1) G nx' H' ∧ tm 1 = .int .i64 p ∧ tm 2 = .pointer (some ⟨nx, 0, none⟩) ∧ tm 35 = .slice rb L.length rk ∧ tm 36 = .int .i64 L.length ∧ tm 37 = .int .i64 i ∧ i ≤ L.length ∧ allN i (fun j => rowF m (L.getD j [])) = true) (fun i => L.length - i) 0 ?_ ?_
 ·exact ⟨_, _, _, rfl, Ext.refl, stp, stp, stp, stp, stp, by omega, allN_zero⟩
 clear e1 e2
 rintro i s ⟨tm, nx', H', rfl, hx, e1, e2, e35, e36, e37, hi, hall⟩
 have c2 := cell_ext hx okG g2
 refine Trip.ok fun hokH => ?_
 replace hokH : ∀ id o, H' id = some o → id < nx' := hokH
 repeat (first | (refine OpsL.q (by exact olss) ?_) | (refine Trip.seq ?_) | (refine Trip.ops ?_) | (refine Trip.block ?_) | (refine Trip.itA (fun _ => ?_) (fun _ => ?_)) | (refine Trip.skip ?_; (change Trip _ _ _ _ _)) | (refine OpsL.nil ?_; (change Trip _ _ _ _ _)))
 ·have hlt : i < L.length := by omega
  obtain ⟨q2, sb, sk, rfl, hc2, hrow2⟩ := L2At.atI (hrow.ext hx okG) (show (0 : Int) ≤ i by omega) (show (i : Int) < L.length by omega)
  simp only [Int.toNat_natCast] at hc2 hrow2
  have hl3 := hl2 i
  obtain ⟨R, hR⟩ : ∃ R, L.getD i [] = R := ⟨_, rfl⟩
  rw [hR] at hc2 hrow2 hl3
  repeat (first | (refine OpsL.q (by first | exact omv | exact oasg | exact olen | exact ofa | exact old | exact oixa) ?_) | (refine Trip.seq ?_) | (refine Trip.ops ?_) | (refine OpsL.nil ?_; (change Trip _ _ _ _ _)))
  by_cases hd : (R.length : Int) = m.of.length
  ·refine OpsL.neqF ?_ (c := hd)
   replace hd : decide ((R.length : Int) = m.of.length) = true := decide_eq_true hd
   have hrow3 : rowF m (L.getD i []) = allN R.length fun q => inF m (R.getD q 0) (m.of.getD q 0) := by unfold rowF; rw [hR, hd]; rfl
   refine zg107 ?_
   repeat (first | (refine OpsL.q (by first | exact omv | exact olen) ?_) | (refine Trip.seq ?_) | (refine Trip.ops ?_) | (refine Trip.block ?_) | (refine Trip.skip ?_; (change Trip _ _ _ _ _)) | (refine OpsL.nil ?_; (change Trip _ _ _ _ _)))
   have okH : ∀ id o, H' id = some o → id < nx' := hokH
   refine Trip.inv (fun (j : Nat) s => ∃ (tm : Nat → Value) (nx2 : Nat) (H2 : Heap), s = ⟨tm, n, H2, nx2⟩ ∧ Ext nx' H' nx2 H2 ∧ tm 1 = .int .i64 p ∧ tm 2 = .pointer (some ⟨nx, 0, none⟩) ∧ tm 35 = .slice (some q2) L.length rk ∧ tm 36 = .int .i64 L.length ∧ tm 37 = .int .i64 i ∧ tm 47 = .slice sb R.length sk ∧ tm 48 = .int .i64 R.length ∧ tm 49 = .int .i64 j ∧ j ≤ R.length ∧ allN j (fun q => inF m (R.getD q 0) (m.of.getD q 0)) = true) (fun j => R.length - j) 0 ?_ ?_
   ·exact ⟨_, _, _, rfl, Ext.refl, stp, stp, stp, stp, stp, stp, stp, stp, by omega, allN_zero⟩
   clear e1 e2 e35 e36 e37 c2
   rintro j s ⟨tm, nx2, H2, rfl, hx2, e1, e2, e35, e36, e37, e47, e48, e49, hj, hallj⟩
   have hy := hx.trans hx2
   have c2 := cell_ext hy okG g2
   repeat (first | (refine OpsL.q (by first | exact omv | exact olss) ?_) | (refine Trip.seq ?_) | (refine Trip.ops ?_) | (refine Trip.block ?_) | (refine Trip.itA (fun _ => ?_) (fun _ => ?_)) | (refine Trip.skip ?_; (change Trip _ _ _ _ _)) | (refine OpsL.nil ?_; (change Trip _ _ _ _ _)))
   ·have hltj : j < R.length := by omega
    have hltj2 : j < m.of.length := by have := of_decide_eq_true hd; omega
    obtain ⟨q3, rfl, hc3⟩ := IntsAt.atI (hrow2.ext hx2 okH) (show (0 : Int) ≤ j by omega) (show (j : Int) < R.length by omega)
    obtain ⟨q4, hq4, hc4⟩ := IntsAt.atI (oh.ext hy okG) (show (0 : Int) ≤ j by omega) (show (j : Int) < m.of.length by omega)
    cases hq4
    simp only [Int.toNat_natCast] at hc3 hc4
    repeat (first | (refine OpsL.q (by first | exact oasg | exact oixa | exact old) ?_) | (refine Trip.seq ?_) | (refine OpsL.nil ?_; (change Trip _ _ _ _ _)))
    refine Trip.mono (Q := fun e st => e = .normal ∧ ∃ (tm' : Nat → Value) (nx3 : Nat) (H3 : Heap), st = ⟨tm', n, H3, nx3⟩ ∧ Ext nx2 H2 nx3 H3 ∧ tm' 1 = .int .i64 p ∧ tm' 2 = .pointer (some ⟨nx, 0, none⟩) ∧ tm' 35 = .slice (some q2) L.length rk ∧ tm' 36 = .int .i64 L.length ∧ tm' 37 = .int .i64 i ∧ tm' 47 = .slice (some q3) R.length sk ∧ tm' 48 = .int .i64 R.length ∧ tm' 49 = .int .i64 j ∧ tm' 62 = .bool (!inF m (R.getD j 0) (m.of.getD j 0))) ?_ ?_
    ·refine OpsR.drawnW [7] (K := fun _ _ => True) mixed13 krf krf [0, 1, 2, 3, 4, 5, 6, 7, 8] krf trivial ?_
     refine zg1 ?_
     refine OpsL.loadM (hb.ext hy okG) ?_ evd sdc
     repeat (first | (refine OpsL.nil ?_; (dsimp only)))
     refine zg45 ?_
     refine zg113 ?_
     refine zg91 ?_
     refine zg84 ?_
     refine OpsL.c3 (hf := entersIsIn) (hc := (isInC W0 (hG.ext hy okG) hn _ _)) (h := ?_)
     rintro v1 nx3 H3 ⟨rfl, y3⟩
     refine OpsL.nil ⟨trivial, ?_⟩
     refine zg1 ?_
     refine zg111 ?_
     refine OpsR.nil ?_
     exact ⟨rfl, _, _, _, rfl, y3, stp, stp, stp, stp, stp, stp, stp, stp, stp⟩
    clear e1 e2 e35 e36 e37 e47 e48 e49 c2
    rintro e st ⟨rfl, tm', nx3, H3, rfl, x3, e1, e2, e35, e36, e37, e47, e48, e49, e62⟩
    (change Trip _ _ _ _ _)
    repeat fail
    cases hs : inF m (R.getD j 0) (m.of.getD j 0)
    ·rw [hs] at e62
     replace e62 : tm' 62 = .bool true := e62
     refine zg80 ?_
     exact ⟨.inr rfl, _, res_tmp, by rw [allN_no hlt (hrow3.trans (allN_no hltj hs))]; rfl, (x0.trans hy).trans x3⟩
    ·rw [hs] at e62
     replace e62 : tm' 62 = .bool false := e62
     refine zg88 ?_
     refine zg20 ?_
     exact ⟨j + 1, ⟨_, _, _, rfl, hx2.trans x3, stp, stp, stp, stp, stp, stp, stp, stp, by omega, allN_put hallj hs⟩, by omega⟩
   ·have hj2 : j = R.length := by omega
    subst hj2
    refine zg102 ?_
    exact ⟨i + 1, ⟨_, _, _, rfl, hy, stp, stp, stp, stp, stp, by omega, allN_put hall (hrow3.trans hallj)⟩, by omega⟩
  ·refine OpsL.neqT ?_ (c := hd)
   refine zg68 ?_
   refine zg12 ?_
   exact ⟨.inr rfl, _, res_tmp, by rw [allN_no hlt (show rowF m (L.getD i []) = false by unfold rowF; rw [hR, decide_eq_false hd]; rfl)]; rfl, x0.trans hx⟩
 ·repeat (first | (refine OpsL.q (by exact oasg) ?_) | (refine Trip.seq ?_) | (refine Trip.ops ?_) | (refine Trip.exit ?_; ((repeat (refine blockExit_eq ?_)); change Trip _ _ _ _ _)) | (refine Trip.ret ?_; (dsimp only)) | (refine OpsL.nil ?_; (change Trip _ _ _ _ _)))
  have hi2 : i = L.length := by omega
  subst hi2
  exact ⟨.inr rfl, _, res_tmp, by rw [hall]; rfl, x0.trans hx⟩
end Go.Proofs.Ytjgbcpagfghfnaa
