import Derived.Test.YtjgbcpagfghfnaaQYM17
import Derived.Test.YtjgbcpagfghfnaaQYM15
set_option linter.unusedVariables false
set_option linter.unusedSimpArgs false
set_option linter.unnecessarySimpa false
namespace Go.Am
theorem zfw {P : Prop} (h : true = true ↔ P) : P := h.1 rfl
theorem zfx {P : Prop} (h : false = true ↔ P) : ¬ P := fun q => by cases h.2 q
theorem zbo {P : Prop} [Decidable P] (h : ¬ P) : Value.bool false = Value.bool (decide P) := by rw [decide_eq_false h]
theorem zgc {P Q : Prop} [Decidable P] [Decidable Q] (h : P ↔ Q) : Value.bool (decide P) = Value.bool (decide Q) := by rw [decide_eq_decide.2 h]
end Go.Am
namespace Go.Proofs.Ytjgbcpagfghfnaa
open Go.Am Go.RowKit
attribute [local irreducible] aop OpsL Trip zt z1X z1E OpsR
theorem z1s : Am.z1G Try.prog 47 := ⟨Try.f47, Try.func47, by kernel_rfl, by kernel_rfl⟩
set_option maxRecDepth 20000 in
set_option maxHeartbeats 8000000 in
theorem z3w (W0 : World) {nx : Nat} {H : Heap} (a b c : Int) : ACalls Try.prog W0 47 [.int .i64 a, .int .i64 b, .int .i64 c] nx H fun v nx' H' => ∃ d : Bool, v = .bool d ∧ (d = true ↔ (a ≤ b ∧ b ≤ c)) ∧ nx' = nx ∧ H' = H := by
 refine zg (fn := Try.f47) (c := _) Try.func47 rfl (fun tm n hn0 htm => ?_);have e0 : tm 0 = .int .i64 a := htm 0;have e1 : tm 1 = .int .i64 b := htm 1;have e2 : tm 2 = .int .i64 c := htm 2;clear htm;replace hn0 : n = 15 := hn0
 repeat (first | (refine zc (by first | exact omv | exact z09 | exact zhA | exact z3O) ?_) | (refine Trip.seq ?_) | (refine zd ?_) | (refine Trip.ret ?_; (dsimp only)) | (refine OpsL.nil ?_; (change Trip _ _ _ _ _)) | (refine zB ?_) | (refine zcJ (fun _ => ?_) (fun _ => ?_)))
 ·exact ⟨.inr rfl, _, zn, decide (b ≤ c), stp, by simp [*], rfl, rfl⟩
 ·repeat (first | (refine zc (by first | exact z09 | exact z3u) ?_) | (refine Trip.ret ?_; (dsimp only)) | (refine OpsL.nil ?_; (change Trip _ _ _ _ _)) | (refine z0e ?_))
  exact ⟨.inr rfl, _, zn, false, stp, by simp [*], rfl, rfl⟩
theorem z5I : Am.z1G Try.prog 48 := ⟨Try.f48, Try.func48, by kernel_rfl, by kernel_rfl⟩
set_option maxRecDepth 20000 in
set_option maxHeartbeats 8000000 in
theorem zeS (W0 : World) {nx : Nat} {H : Heap} {m : Mo} {V : MoV} (hm : MoIn H m V) (hn : MoLen m) (p k : Int) : ACalls Try.prog W0 48 [.agg (moV m V).toArray, .int .i64 p, .int .i64 k] nx H fun v nx' H' => v = .bool (inF m p k) ∧ Ext nx H nx' H' := by
 refine zg (fn := Try.f48) (c := _) Try.func48 rfl (fun tm n hn0 htm => ?_);have e0 : tm 0 = .agg (moV m V).toArray := htm 0;have e1 : tm 1 = .int .i64 p := htm 1;have e2 : tm 2 = .int .i64 k := htm 2;clear htm;replace hn0 : n = 22 := hn0;refine Trip.ok fun hok => ?_;replace hok : ∀ id o, H id = some o → id < nx := hok;refine z2k ?_;refine zY hm hok ?_ evd sdc;intro G x0 okG hb hG;clear e0;obtain ⟨oa, oc, ov⟩ := hG.of.slice;have oh := hG.of;have g2 := hb.c2;rw [ov] at oh g2;have q0 := hn.of
 repeat (first | (refine zc (by first | exact omv | exact z09 | exact zc9 | exact z1g | exact ofa | exact old) ?_) | (refine Trip.seq ?_) | (refine zd ?_) | (refine OpsL.nil ?_; (change Trip _ _ _ _ _)))
 refine OpsL.c3 (hf := z1s) (hc := (z3w W0 _ _ _)) (h := ?_);rintro v1 nx1 H1 ⟨d, rfl, hd, rfl, rfl⟩;cases d
 ·replace hd := zfx hd;refine zfM ?_;exact ⟨.inr rfl, _, zn, zbo (fun q => hd q.1), x0⟩
 ·replace hd := zfw hd;obtain ⟨p0, p1⟩ := hd;obtain ⟨q, rfl, hc⟩ := IntsAt.atI oh p0 (show p < m.of.length by omega)
  repeat (first | (refine zc (by first | exact omv | exact z09 | exact zfs | exact z1j | exact ofa | exact old | exact z3O) ?_) | (refine Trip.ret ?_; (dsimp only)) | (refine OpsL.nil ?_; (change Trip _ _ _ _ _)) | (refine zB ?_))
  exact ⟨.inr rfl, _, zn, zgc ⟨fun h => ⟨⟨p0, p1⟩, h⟩, fun h => h.2⟩, x0⟩
theorem z71 : Am.z1G Try.prog 49 := ⟨Try.f49, Try.func49, by kernel_rfl, by kernel_rfl⟩
set_option maxRecDepth 20000 in
set_option maxHeartbeats 8000000 in
theorem zeC (W0 : World) {nx : Nat} {H : Heap} {m : Mo} {V : MoV} (hm : MoIn H m V) (hn : MoLen m) {lv : Value} {l : List Int} (hl : IntsAt H lv l) (hll : l.length ≤ 100000) (k : Int) : ACalls Try.prog W0 49 [.agg (moV m V).toArray, lv, .int .i64 k] nx H fun v nx' H' => v = .bool (zc1 m l k) ∧ Ext nx H nx' H' := by
 refine zg (fn := Try.f49) (c := _) Try.func49 rfl (fun tm n hn0 htm => ?_);have e0 : tm 0 = .agg (moV m V).toArray := htm 0;have e1 : tm 1 = lv := htm 1;have e2 : tm 2 = .int .i64 k := htm 2;clear htm;replace hn0 : n = 21 := hn0;refine Trip.ok fun hok => ?_;replace hok : ∀ id o, H id = some o → id < nx := hok;refine z2k ?_;refine zY hm hok ?_ evd sdc;intro G x0 okG hb hG;clear e0;obtain ⟨la, lc, rfl⟩ := hl.slice;have hlG := hl.ext x0 hok;refine zfG ?_;refine zG (fun (i : Nat) s => ∃ (tm : Nat → Value) (nx' : Nat) (H' : Heap), s = ⟨tm, n, H', nx'⟩ ∧ Ext (nx + 1) G nx' H' ∧ tm 2 = .int .i64 k ∧ tm 3 = .pointer (some ⟨nx, 0, none⟩) ∧ tm 9 = .slice la l.length lc ∧ tm 10 = .int .i64 l.length ∧ tm 11 = .int .i64 i ∧ i ≤ l.length ∧ z4H i (fun i => inF m (l.getD i 0) k) = true) (fun i => l.length - i) 0 ?_ ?_
 ·exact ⟨_, _, _, rfl, Ext.refl, stp, stp, stp, stp, stp, by omega, z1e⟩
 clear e1 e2;rintro i s ⟨tm, nx', H', rfl, hx, e2, e3, e9, e10, e11, hi, hall⟩
 repeat (first | (refine zc (by exact z24) ?_) | (refine Trip.seq ?_) | (refine zd ?_) | (refine Trip.block ?_) | (refine zJ (fun _ => ?_) (fun _ => ?_)) | (refine Trip.skip ?_; (change Trip _ _ _ _ _)) | (refine OpsL.nil ?_; (change Trip _ _ _ _ _)))
 ·have hlt : i < l.length := by omega
  obtain ⟨q, rfl, hc⟩ := IntsAt.atI (hlG.ext hx okG) (show (0 : Int) ≤ i by omega) (show (i : Int) < l.length by omega);rw [Int.toNat_natCast] at hc
  repeat (first | (refine zc (by first | exact z09 | exact z1j | exact old) ?_) | (refine Trip.seq ?_) | (refine zd ?_) | (refine OpsL.nil ?_; (change Trip _ _ _ _ _)))
  refine zS (hb.ext hx okG) ?_ evd sdc;refine z9V ?_;refine OpsL.c3 (hf := z5I) (hc := (zeS W0 (hG.ext hx okG) hn _ _)) (h := ?_);rintro v1 nx1 H1 ⟨rfl, y1⟩;cases hs : inF m (l.getD i 0) k
  ·repeat (first | (refine zc (by exact z4W) ?_) | (refine OpsL.nil ?_; (change Trip _ _ _ _ _)))
   refine z9U ?_;exact ⟨.inr rfl, _, zn, by rw [show zc1 m l k = false from z1D hlt hs]; rfl, (x0.trans hx).trans y1⟩
  ·repeat (first | (refine zc (by exact z4W) ?_) | (refine OpsL.nil ?_; (change Trip _ _ _ _ _)))
   refine z2r ?_;refine zc6 ?_;exact ⟨i + 1, ⟨_, _, _, rfl, hx.trans y1, stp, stp, stp, stp, stp, by omega, z1N hall hs⟩, by omega⟩
 ·repeat (first | (refine zc (by exact z09) ?_) | (refine Trip.seq ?_) | (refine zd ?_) | (refine Trip.exit ?_; ((repeat (refine zD ?_)); change Trip _ _ _ _ _)) | (refine Trip.ret ?_; (dsimp only)) | (refine OpsL.nil ?_; (change Trip _ _ _ _ _)))
  have hi2 : i = l.length := by omega
  subst hi2;exact ⟨.inr rfl, _, zn, by rw [show zc1 m l k = true from hall]; rfl, x0.trans hx⟩
theorem zam : Am.z1G Try.prog 32 := ⟨Try.f32, Try.func32, by kernel_rfl, by kernel_rfl⟩
set_option maxRecDepth 20000 in
set_option maxHeartbeats 8000000 in
theorem zdX (W0 : World) {nx : Nat} {H : Heap} {m : Mo} {V : MoV} (hm : MoIn H m V) : ACalls Try.prog W0 32 [.agg (moV m V).toArray] nx H fun v nx' H' => v = .bool (z4Y m) ∧ Ext nx H nx' H' := by
 refine zg (fn := Try.f32) (c := _) Try.func32 rfl (fun tm n hn0 htm => ?_);have e0 : tm 0 = .agg (moV m V).toArray := htm 0;clear htm;replace hn0 : n = 53 := hn0;refine Trip.ok fun hok => ?_;replace hok : ∀ id o, H id = some o → id < nx := hok;refine z2k ?_;refine zY hm hok ?_ evd sdc;intro G x0 okG hb hG;clear e0;obtain ⟨oa, oc, ov⟩ := hG.of.slice;have oh := hG.of;have g2 := hb.c2;rw [ov] at oh g2;obtain ⟨ea, ec, ev⟩ := hG.entry.slice;have eh := hG.entry;have g3 := hb.c3;rw [ev] at eh g3;obtain ⟨fa, fc, fv⟩ := hG.final.slice;have fh := hG.final;have g4 := hb.c4;rw [fv] at fh g4;obtain ⟨ia, ic, iv⟩ := hG.inn.slice;have ih := hG.inn;have g5 := hb.c5;rw [iv] at ih g5;obtain ⟨la, lc, lv⟩ := hG.low.slice;have lh := hG.low;have g6 := hb.c6;rw [lv] at lh g6;obtain ⟨ra, rc, rv⟩ := hG.ret.slice;have rh := hG.ret;have g7 := hb.c7;rw [rv] at rh g7;have g0 := hb.c0;have g1 := hb.c1
 repeat (first | (refine zc (by first | exact z09 | exact z1g | exact ofa | exact old) ?_) | (refine Trip.seq ?_) | (refine zd ?_) | (refine OpsL.nil ?_; (change Trip _ _ _ _ _)))
 refine OpsL.c3 (hf := z1s) (hc := (z3w W0 _ _ _)) (h := ?_);rintro v0 nx0 H0 ⟨d, rfl, hd0, rfl, rfl⟩;cases d
 ·replace hd0 := zfx hd0;refine zfM ?_;exact ⟨.inr rfl, _, zn, zbo (by omega), x0⟩
 replace hd0 := zfw hd0;refine zfA ?_;refine OpsL.c3 (hf := z1s) (hc := (z3w W0 _ _ _)) (h := ?_);rintro v1 nx1 H1 ⟨d, rfl, hd1, rfl, rfl⟩;cases d
 ·replace hd1 := zfx hd1;refine zgS ?_;exact ⟨.inr rfl, _, zn, zbo (by omega), x0⟩
 replace hd1 := zfw hd1
 repeat (first | (refine zc (by first | exact omv | exact z3O) ?_) | (refine zB ?_))
 refine OpsL.c3 (hf := z1s) (hc := (z3w W0 _ _ _)) (h := ?_);rintro v2 nx2 H2 ⟨d, rfl, hd2, rfl, rfl⟩;cases d
 ·replace hd2 := zfx hd2;refine zgS ?_;exact ⟨.inr rfl, _, zn, zbo (by omega), x0⟩
 replace hd2 := zfw hd2
 repeat (first | (refine zc (by first | exact omv | exact z1g | exact ofa | exact old | exact z3O) ?_) | (refine zB ?_))
 refine OpsL.c3 (hf := z1s) (hc := (z3w W0 _ _ _)) (h := ?_);rintro v3 nx3 H3 ⟨d, rfl, hd3, rfl, rfl⟩;cases d
 ·replace hd3 := zfx hd3;refine zgS ?_;exact ⟨.inr rfl, _, zn, zbo (by omega), x0⟩
 replace hd3 := zfw hd3
 repeat' (first | (refine zc (by first | exact omv | exact z09 | exact zfs | exact z1g | exact ofa | exact old | exact z3O | exact z3u) ?_) | (refine Trip.ret ?_; (dsimp only)) | (refine OpsL.nil ?_; (change Trip _ _ _ _ _)) | (refine zB ?_) | (refine z0e ?_) | (refine zcJ (fun _ => ?_) (fun _ => ?_)))
 all_goals first | exact ⟨.inr rfl, _, zn, zbo (by omega), x0⟩ | exact ⟨.inr rfl, _, zn, zgc (by omega), x0⟩
theorem z9A : Am.z1G Try.prog 33 := ⟨Try.f33, Try.func33, by kernel_rfl, by kernel_rfl⟩
set_option maxRecDepth 20000 in
set_option maxHeartbeats 8000000 in
theorem zcW (W0 : World) {nx : Nat} {H : Heap} {m : Mo} {V : MoV} (hm : MoIn H m V) (hn : MoLen m) : ACalls Try.prog W0 33 [.agg (moV m V).toArray] nx H fun v nx' H' => v = .bool (z1C m) ∧ Ext nx H nx' H' := by
 refine zg (fn := Try.f33) (c := _) Try.func33 rfl (fun tm n hn0 htm => ?_);have e0 : tm 0 = .agg (moV m V).toArray := htm 0;clear htm;replace hn0 : n = 36 := hn0;refine Trip.ok fun hok => ?_;replace hok : ∀ id o, H id = some o → id < nx := hok;refine z2k ?_;refine zY hm hok ?_ evd sdc;intro G x0 okG hb hG;clear e0;obtain ⟨oa, oc, ov⟩ := hG.of.slice;have oh := hG.of;have g2 := hb.c2;rw [ov] at oh g2;obtain ⟨ea, ec, ev⟩ := hG.entry.slice;have eh := hG.entry;have g3 := hb.c3;rw [ev] at eh g3;have q0 := hn.of;have q1 := hn.entry
 repeat (first | (refine zc (by first | exact omv | exact z09 | exact z1g | exact ofa | exact old) ?_) | (refine Trip.seq ?_) | (refine zd ?_) | (refine Trip.block ?_) | (refine OpsL.nil ?_; (change Trip _ _ _ _ _)))
 refine zG (fun (i : Nat) s => ∃ (tm : Nat → Value), s = ⟨tm, n, G, nx + 1⟩ ∧ tm 1 = .pointer (some ⟨nx, 0, none⟩) ∧ tm 8 = .slice oa m.of.length oc ∧ tm 9 = .int .i64 m.of.length ∧ tm 10 = .int .i64 i ∧ i ≤ m.of.length ∧ z4H i (fun i => decide (0 ≤ m.of.getD i 0 ∧ m.of.getD i 0 ≤ (m.entry.length : Int) - 1)) = true) (fun i => m.of.length - i) 0 ?_ ?_
 ·exact ⟨_, rfl, stp, stp, stp, stp, by omega, z1e⟩
 rintro i s ⟨tm, rfl, e1, e8, e9, e10, hi, hall⟩
 repeat (first | (refine zc (by exact z24) ?_) | (refine Trip.seq ?_) | (refine zd ?_) | (refine Trip.block ?_) | (refine zJ (fun _ => ?_) (fun _ => ?_)) | (refine Trip.skip ?_; (change Trip _ _ _ _ _)) | (refine OpsL.nil ?_; (change Trip _ _ _ _ _)))
 ·have hlt : i < m.of.length := by omega
  obtain ⟨q, rfl, hc⟩ := IntsAt.atI oh (show (0 : Int) ≤ i by omega) (show (i : Int) < m.of.length by omega);rw [Int.toNat_natCast] at hc
  repeat (first | (refine zc (by first | exact omv | exact z09 | exact zc9 | exact z1g | exact z1j | exact ofa | exact old) ?_) | (refine Trip.seq ?_) | (refine zd ?_) | (refine OpsL.nil ?_; (change Trip _ _ _ _ _)))
  refine OpsL.c3 (hf := z1s) (hc := (z3w W0 _ _ _)) (h := ?_);rintro v1 nx1 H1 ⟨d, rfl, hd, rfl, rfl⟩;cases d
  ·replace hd := zfx hd;refine z9Q ?_;refine z9U ?_;exact ⟨.inr rfl, _, zn, by unfold z1C; rw [z1D hlt (by simpa using hd)]; rfl, x0⟩
  ·replace hd := zfw hd;refine z9Q ?_;refine z2r ?_;refine zc6 ?_;exact ⟨i + 1, ⟨_, rfl, stp, stp, stp, stp, by omega, z1N hall (by simpa using hd)⟩, by omega⟩
 have hi2 : i = m.of.length := by omega
 subst hi2
 repeat (first | (refine zc (by first | exact omv | exact z1g | exact ofa | exact old) ?_) | (refine Trip.seq ?_) | (refine zd ?_) | (refine Trip.block ?_) | (refine Trip.exit ?_; ((repeat (refine zD ?_)); change Trip _ _ _ _ _)) | (refine OpsL.nil ?_; (change Trip _ _ _ _ _)))
 have hall1 := hall;clear e8 e9 e10 hall;refine zG (fun (i : Nat) s => ∃ (tm : Nat → Value) (nx' : Nat) (H' : Heap), s = ⟨tm, n, H', nx'⟩ ∧ Ext (nx + 1) G nx' H' ∧ tm 1 = .pointer (some ⟨nx, 0, none⟩) ∧ tm 23 = .slice ea m.entry.length ec ∧ tm 24 = .int .i64 m.entry.length ∧ tm 25 = .int .i64 i ∧ i ≤ m.entry.length ∧ z4H i (fun i => inF m (m.entry.getD i 0) i) = true) (fun i => m.entry.length - i) 0 ?_ ?_
 ·exact ⟨_, _, _, rfl, Ext.refl, stp, stp, stp, stp, by omega, z1e⟩
 clear e1;rintro i s ⟨tm, nx', H', rfl, hx, e1, e8, e9, e10, hi, hall⟩
 repeat (first | (refine zc (by first | exact omv | exact z24) ?_) | (refine Trip.seq ?_) | (refine zd ?_) | (refine Trip.block ?_) | (refine zJ (fun _ => ?_) (fun _ => ?_)) | (refine Trip.skip ?_; (change Trip _ _ _ _ _)) | (refine OpsL.nil ?_; (change Trip _ _ _ _ _)))
 ·have hlt : i < m.entry.length := by omega
  obtain ⟨q, rfl, hc⟩ := IntsAt.atI (eh.ext hx okG) (show (0 : Int) ≤ i by omega) (show (i : Int) < m.entry.length by omega);rw [Int.toNat_natCast] at hc
  repeat (first | (refine zc (by first | exact z09 | exact z1j | exact old) ?_) | (refine Trip.seq ?_) | (refine zd ?_) | (refine OpsL.nil ?_; (change Trip _ _ _ _ _)))
  refine zS (hb.ext hx okG) ?_ evd sdc;refine z9V ?_;refine OpsL.c3 (hf := z5I) (hc := (zeS W0 (hG.ext hx okG) hn _ _)) (h := ?_);rintro v1 nx1 H1 ⟨rfl, y1⟩;cases hs : inF m (m.entry.getD i 0) i
  ·repeat (first | (refine zc (by exact z4W) ?_) | (refine OpsL.nil ?_; (change Trip _ _ _ _ _)))
   refine z9U ?_;exact ⟨.inr rfl, _, zn, by unfold z1C; rw [z1D (n := m.entry.length) hlt hs, Bool.and_false]; rfl, (x0.trans hx).trans y1⟩
  ·repeat (first | (refine zc (by exact z4W) ?_) | (refine OpsL.nil ?_; (change Trip _ _ _ _ _)))
   refine z2r ?_;refine zc6 ?_;exact ⟨i + 1, ⟨_, _, _, rfl, hx.trans y1, stp, stp, stp, stp, by omega, z1N hall hs⟩, by omega⟩
 ·repeat (first | (refine zc (by exact z09) ?_) | (refine Trip.seq ?_) | (refine zd ?_) | (refine Trip.exit ?_; ((repeat (refine zD ?_)); change Trip _ _ _ _ _)) | (refine Trip.ret ?_; (dsimp only)) | (refine OpsL.nil ?_; (change Trip _ _ _ _ _)))
  have hi2 : i = m.entry.length := by omega
  subst hi2;exact ⟨.inr rfl, _, zn, by unfold z1C; rw [hall1, hall]; rfl, x0.trans hx⟩
end Go.Proofs.Ytjgbcpagfghfnaa
namespace Go.Proofs.Ytjgbcpagfghfnaa
open Go.Am Go.RowKit
attribute [local irreducible] aop OpsL Trip zt z1X z1E OpsR
theorem zan : Am.z1G Try.prog 34 := ⟨Try.f34, Try.func34, by kernel_rfl, by kernel_rfl⟩
set_option maxRecDepth 20000 in
set_option maxHeartbeats 8000000 in
theorem zdY (W0 : World) {nx : Nat} {H : Heap} {m : Mo} {V : MoV} (hm : MoIn H m V) (hn : MoLen m) {p : Nat} (hp : p < m.of.length) (hp1 : p < m.inn.length) : ACalls Try.prog W0 34 [.agg (moV m V).toArray, .int .i64 p] nx H fun v nx' H' => v = .bool (zbZ m p) ∧ Ext nx H nx' H' := by
 refine zg (fn := Try.f34) (c := _) Try.func34 rfl (fun tm n hn0 htm => ?_);have e0 : tm 0 = .agg (moV m V).toArray := htm 0;have e1 : tm 1 = .int .i64 p := htm 1;clear htm;replace hn0 : n = 28 := hn0;refine Trip.ok fun hok => ?_;replace hok : ∀ id o, H id = some o → id < nx := hok;refine z2k ?_;refine zY hm hok ?_ evd sdc;intro G x0 okG hb hG;clear e0;obtain ⟨oa, oc, ov⟩ := hG.of.slice;have oh := hG.of;have g2 := hb.c2;rw [ov] at oh g2;obtain ⟨ia, ic, iv⟩ := hG.inn.slice;have ih := hG.inn;have g5 := hb.c5;rw [iv] at ih g5;have g0 := hb.c0;obtain ⟨q, rfl, hc⟩ := IntsAt.atI oh (show (0 : Int) ≤ p by omega) (show (p : Int) < m.of.length by omega);obtain ⟨q1, rb, rk, rfl, hc1, hrow⟩ := L2At.atI ih (show (0 : Int) ≤ p by omega) (show (p : Int) < m.inn.length by omega);simp only [Int.toNat_natCast] at hc hc1 hrow;have hl := hn.inn1 p;refine zfC ?_;cases hd : decide (((m.inn.getD p []).length : Int) = m.plains)
 ·refine z04 [21] (K := fun _ _ => True) zU krf krf [0, 1, 2, 3, 4, 5, 6, 7, 8, 9, 10, 11, 12, 13, 14, 15, 16, 17, 18, 19, 20, 21, 22, 23] krf trivial ?_;refine zgH ?_;refine z4G ?_;refine z9P ?_;refine zdp ?_;refine zdm ?_;refine zei ?_;refine zdm ?_;refine ⟨trivial, ?_⟩;refine z9W ?_;refine zel ?_
  (change Trip _ _ _ _ _)
  refine zdq ?_;exact ⟨.inr rfl, _, zn, by unfold zbZ; rw [hd]; rfl, x0⟩
 ·refine z04 [21] (K := fun _ _ => True) zU krf krf [0, 1, 2, 3, 4, 5, 6, 7, 8, 9, 10, 11, 12, 13, 14, 15, 16, 17, 18, 19, 20, 21, 22, 23] krf trivial ?_;refine zgH ?_;refine z4G ?_;refine zg1 ?_;refine z9T ?_;refine zS hb ?_ evd sdc
  repeat (first | (refine OpsL.nil ?_; (skip)))
  refine zg9 ?_;refine zg2 ?_;refine zg9 ?_;refine zg2 ?_;refine zei ?_;refine z9T ?_;refine OpsL.c3 (hf := z71) (hc := (zeC W0 hG hn hrow hl _)) (h := ?_);rintro v1 nx1 H1 ⟨rfl, y1⟩;refine OpsL.nil ⟨trivial, ?_⟩;refine z7d ?_;refine zel ?_
  (change Trip _ _ _ _ _)
  refine zdq ?_;exact ⟨.inr rfl, _, zn, by unfold zbZ; rw [hd]; rfl, x0.trans y1⟩
theorem zd0 : Am.z1G Try.prog 35 := ⟨Try.f35, Try.func35, by kernel_rfl, by kernel_rfl⟩
set_option maxRecDepth 20000 in
set_option maxHeartbeats 8000000 in
theorem zgr (W0 : World) {nx : Nat} {H : Heap} {m : Mo} {V : MoV} (hm : MoIn H m V) (hn : MoLen m) {p : Nat} (hp : p < m.of.length) (hp1 : p < m.low.length) : ACalls Try.prog W0 35 [.agg (moV m V).toArray, .int .i64 p] nx H fun v nx' H' => v = .bool (zbk m p) ∧ Ext nx H nx' H' := by
 refine zg (fn := Try.f35) (c := _) Try.func35 rfl (fun tm n hn0 htm => ?_);have e0 : tm 0 = .agg (moV m V).toArray := htm 0;have e1 : tm 1 = .int .i64 p := htm 1;clear htm;replace hn0 : n = 36 := hn0;refine Trip.ok fun hok => ?_;replace hok : ∀ id o, H id = some o → id < nx := hok;refine z2k ?_;refine zY hm hok ?_ evd sdc;intro G x0 okG hb hG;clear e0;obtain ⟨oa, oc, ov⟩ := hG.of.slice;have oh := hG.of;have g2 := hb.c2;rw [ov] at oh g2;obtain ⟨ia, ic, iv⟩ := hG.low.slice;have ih := hG.low;have g6 := hb.c6;rw [iv] at ih g6;have g1 := hb.c1;obtain ⟨q, rfl, hc⟩ := IntsAt.atI oh (show (0 : Int) ≤ p by omega) (show (p : Int) < m.of.length by omega);obtain ⟨q1, rb, rk, rfl, hc1, hrow⟩ := L2At.atI ih (show (0 : Int) ≤ p by omega) (show (p : Int) < m.low.length by omega);simp only [Int.toNat_natCast] at hc hc1 hrow;have hl := hn.low1 p;refine zfO ?_;by_cases h0 : m.of.getD p 0 = 0
 ·refine z02 ?_ (c := h0);replace h0 : decide (m.of.getD p 0 = 0) = true := decide_eq_true h0;refine zep ?_;refine zdo ?_;cases hd : decide (((m.low.getD p []).length : Int) = m.closings)
  ·refine z04 [16] (K := fun _ _ => True) zU krf krf [0, 1, 2, 3, 4, 5, 6, 7, 8, 9, 10, 11, 12, 13, 14, 15, 16, 17, 18] krf trivial ?_;refine zgH ?_;refine z4G ?_;refine zg0 ?_;refine zg0 ?_;refine zei ?_;refine zdm ?_;refine ⟨trivial, ?_⟩;refine z9W ?_;refine zel ?_
   (change Trip _ _ _ _ _)
   refine zdq ?_;exact ⟨.inr rfl, _, zn, by unfold zbk; rw [if_pos (of_decide_eq_true h0), hd]; rfl, x0⟩
  ·refine z04 [16] (K := fun _ _ => True) zU krf krf [0, 1, 2, 3, 4, 5, 6, 7, 8, 9, 10, 11, 12, 13, 14, 15, 16, 17, 18] krf trivial ?_;refine zgH ?_;refine z4G ?_;refine zg1 ?_;refine z9T ?_;refine zS hb ?_ evd sdc
   repeat (first | (refine OpsL.nil ?_; (skip)))
   refine zg9 ?_;refine zg2 ?_;refine zei ?_;refine z9T ?_;refine OpsL.c3 (hf := z71) (hc := (zeC W0 hG hn hrow hl _)) (h := ?_);rintro v1 nx1 H1 ⟨rfl, y1⟩;refine OpsL.nil ⟨trivial, ?_⟩;refine z7d ?_;refine zel ?_
   (change Trip _ _ _ _ _)
   refine zdq ?_;exact ⟨.inr rfl, _, zn, by unfold zbk; rw [if_pos (of_decide_eq_true h0), hd]; rfl, x0.trans y1⟩
 ·refine z08 ?_ (c := h0);refine zfW ?_;exact ⟨.inr rfl, _, zn, by unfold zbk; rw [if_neg h0]; rfl, x0⟩
end Go.Proofs.Ytjgbcpagfghfnaa
namespace Go.Proofs.Ytjgbcpagfghfnaa
open Go.Am Go.RowKit
attribute [local irreducible] aop OpsL Trip zt z1X z1E OpsR
theorem zcZ : Am.z1G Try.prog 36 := ⟨Try.f36, Try.func36, by kernel_rfl, by kernel_rfl⟩
set_option maxRecDepth 20000 in
set_option maxHeartbeats 8000000 in
theorem zgq (W0 : World) {nx : Nat} {H : Heap} {m : Mo} {V : MoV} (hm : MoIn H m V) (hn : MoLen m) {p : Nat} (hp : p < m.of.length) (hp1 : p < m.ret.length) : ACalls Try.prog W0 36 [.agg (moV m V).toArray, .int .i64 p] nx H fun v nx' H' => v = .bool (zbj m p) ∧ Ext nx H nx' H' := by
 refine zg (fn := Try.f36) (c := _) Try.func36 rfl (fun tm n hn0 htm => ?_);have e0 : tm 0 = .agg (moV m V).toArray := htm 0;have e1 : tm 1 = .int .i64 p := htm 1;clear htm;replace hn0 : n = 65 := hn0;refine Trip.ok fun hok => ?_;replace hok : ∀ id o, H id = some o → id < nx := hok;refine z2k ?_;refine zY hm hok ?_ evd sdc;intro G x0 okG hb hG;clear e0;obtain ⟨oa, oc, ov⟩ := hG.of.slice;have oh := hG.of;have g2 := hb.c2;rw [ov] at oh g2;obtain ⟨ra, rc, rv⟩ := hG.ret.slice;have rh := hG.ret;have g7 := hb.c7;rw [rv] at rh g7;have g1 := hb.c1;obtain ⟨q, rfl, hc⟩ := IntsAt.atI oh (show (0 : Int) ≤ p by omega) (show (p : Int) < m.of.length by omega);obtain ⟨q1, rb, rk, rfl, hc1, hrow⟩ := L3At.atI rh (show (0 : Int) ≤ p by omega) (show (p : Int) < m.ret.length by omega);simp only [Int.toNat_natCast] at hc hc1 hrow;have hl := hn.ret1 p;have hl2 := hn.ret2 p;have q0 := hn.of;refine zfO ?_;by_cases h0 : m.of.getD p 0 = 0
 ·refine z0H ?_ (c := h0);replace h0 : decide (m.of.getD p 0 = 0) = true := decide_eq_true h0;refine zfW ?_;exact ⟨.inr rfl, _, zn, by unfold zbj; rw [if_pos (of_decide_eq_true h0)]; rfl, x0⟩
 refine z30 ?_ (c := h0);refine zep ?_;refine zdo ?_;have hrF : zbj m p = (decide (((m.ret.getD p []).length : Int) = m.closings) && z4H (m.ret.getD p []).length fun j => z9S m ((m.ret.getD p []).getD j [])) := by unfold zbj; rw [if_neg h0]
 rw [hrF];clear hrF h0;generalize m.ret.getD p [] = L at *;refine Trip.mono (Q := fun e st => e = .normal ∧ ∃ tm' : Nat → Value, st = ⟨tm', n, G, nx + 1⟩ ∧ tm' 1 = .int .i64 p ∧ tm' 2 = .pointer (some ⟨nx, 0, none⟩) ∧ tm' 30 = .bool (!decide ((L.length : Int) = m.closings))) ?_ ?_
 ·refine z04 [] (K := fun _ _ => True) zU krf krf [0, 1, 2, 3, 4, 5, 6, 7, 8] krf trivial ?_;refine zaD ?_;refine zem ?_;refine zbi ?_;refine zg1 ?_;cases hd : decide ((L.length : Int) = m.closings)
  ·refine z08 ?_ (c := of_decide_eq_false hd);refine z6v ?_;exact ⟨rfl, _, rfl, stp, stp, stp⟩
  ·refine z02 ?_ (c := of_decide_eq_true hd);refine z6v ?_;exact ⟨rfl, _, rfl, stp, stp, stp⟩
 clear e1;rintro e st ⟨rfl, tm', rfl, e1, e2, e30⟩
 (change Trip _ _ _ _ _)
 repeat fail
 cases hd : decide ((L.length : Int) = m.closings)
 ·rw [hd] at e30;replace e30 : tm' 30 = .bool true := e30;refine zaE ?_;exact ⟨.inr rfl, _, zn, rfl, x0⟩
 rw [hd] at e30;replace e30 : tm' 30 = .bool false := e30;refine z2r ?_
 repeat (first | (refine zc (by first | exact omv | exact z1g | exact z1j | exact ofa | exact old) ?_) | (refine Trip.seq ?_) | (refine zd ?_) | (refine Trip.block ?_) | (refine Trip.skip ?_; (change Trip _ _ _ _ _)) | (refine OpsL.nil ?_; (change Trip _ _ _ _ _)))
 rw [Bool.true_and];clear e30 hd;refine zG (fun (i : Nat) s => ∃ (tm : Nat → Value) (nx' : Nat) (H' : Heap), s = ⟨tm, n, H', nx'⟩ ∧ Ext (nx + 1) G nx' H' ∧ tm 1 = .int .i64 p ∧ tm 2 = .pointer (some ⟨nx, 0, none⟩) ∧ tm 35 = .slice rb L.length rk ∧ tm 36 = .int .i64 L.length ∧ tm 37 = .int .i64 i ∧ i ≤ L.length ∧ z4H i (fun j => z9S m (L.getD j [])) = true) (fun i => L.length - i) 0 ?_ ?_
 ·exact ⟨_, _, _, rfl, Ext.refl, stp, stp, stp, stp, stp, by omega, z1e⟩
 clear e1 e2;rintro i s ⟨tm, nx', H', rfl, hx, e1, e2, e35, e36, e37, hi, hall⟩;have c2 := zI hx okG g2;refine Trip.ok fun hokH => ?_;replace hokH : ∀ id o, H' id = some o → id < nx' := hokH
 repeat (first | (refine zc (by exact z24) ?_) | (refine Trip.seq ?_) | (refine zd ?_) | (refine Trip.block ?_) | (refine zJ (fun _ => ?_) (fun _ => ?_)) | (refine Trip.skip ?_; (change Trip _ _ _ _ _)) | (refine OpsL.nil ?_; (change Trip _ _ _ _ _)))
 ·have hlt : i < L.length := by omega
  obtain ⟨q2, sb, sk, rfl, hc2, hrow2⟩ := L2At.atI (hrow.ext hx okG) (show (0 : Int) ≤ i by omega) (show (i : Int) < L.length by omega);simp only [Int.toNat_natCast] at hc2 hrow2;have hl3 := hl2 i;obtain ⟨R, hR⟩ : ∃ R, L.getD i [] = R := ⟨_, rfl⟩;rw [hR] at hc2 hrow2 hl3
  repeat (first | (refine zc (by first | exact omv | exact z09 | exact z1g | exact ofa | exact old | exact z1j) ?_) | (refine Trip.seq ?_) | (refine zd ?_) | (refine OpsL.nil ?_; (change Trip _ _ _ _ _)))
  by_cases hd : (R.length : Int) = m.of.length
  ·refine z02 ?_ (c := hd);replace hd : decide ((R.length : Int) = m.of.length) = true := decide_eq_true hd;have hrow3 : z9S m (L.getD i []) = z4H R.length fun q => inF m (R.getD q 0) (m.of.getD q 0) := by unfold z9S; rw [hR, hd]; rfl
   refine z68 ?_
   repeat (first | (refine zc (by first | exact omv | exact z1g) ?_) | (refine Trip.seq ?_) | (refine zd ?_) | (refine Trip.block ?_) | (refine Trip.skip ?_; (change Trip _ _ _ _ _)) | (refine OpsL.nil ?_; (change Trip _ _ _ _ _)))
   have okH : ∀ id o, H' id = some o → id < nx' := hokH;refine zG (fun (j : Nat) s => ∃ (tm : Nat → Value) (nx2 : Nat) (H2 : Heap), s = ⟨tm, n, H2, nx2⟩ ∧ Ext nx' H' nx2 H2 ∧ tm 1 = .int .i64 p ∧ tm 2 = .pointer (some ⟨nx, 0, none⟩) ∧ tm 35 = .slice (some q2) L.length rk ∧ tm 36 = .int .i64 L.length ∧ tm 37 = .int .i64 i ∧ tm 47 = .slice sb R.length sk ∧ tm 48 = .int .i64 R.length ∧ tm 49 = .int .i64 j ∧ j ≤ R.length ∧ z4H j (fun q => inF m (R.getD q 0) (m.of.getD q 0)) = true) (fun j => R.length - j) 0 ?_ ?_
   ·exact ⟨_, _, _, rfl, Ext.refl, stp, stp, stp, stp, stp, stp, stp, stp, by omega, z1e⟩
   clear e1 e2 e35 e36 e37 c2;rintro j s ⟨tm, nx2, H2, rfl, hx2, e1, e2, e35, e36, e37, e47, e48, e49, hj, hallj⟩;have hy := hx.trans hx2;have c2 := zI hy okG g2
   repeat (first | (refine zc (by first | exact omv | exact z24) ?_) | (refine Trip.seq ?_) | (refine zd ?_) | (refine Trip.block ?_) | (refine zJ (fun _ => ?_) (fun _ => ?_)) | (refine Trip.skip ?_; (change Trip _ _ _ _ _)) | (refine OpsL.nil ?_; (change Trip _ _ _ _ _)))
   ·have hltj : j < R.length := by omega
    have hltj2 : j < m.of.length := by have := of_decide_eq_true hd; omega
    obtain ⟨q3, rfl, hc3⟩ := IntsAt.atI (hrow2.ext hx2 okH) (show (0 : Int) ≤ j by omega) (show (j : Int) < R.length by omega);obtain ⟨q4, hq4, hc4⟩ := IntsAt.atI (oh.ext hy okG) (show (0 : Int) ≤ j by omega) (show (j : Int) < m.of.length by omega);cases hq4;simp only [Int.toNat_natCast] at hc3 hc4
    repeat (first | (refine zc (by first | exact z09 | exact z1j | exact old) ?_) | (refine Trip.seq ?_) | (refine OpsL.nil ?_; (change Trip _ _ _ _ _)))
    refine Trip.mono (Q := fun e st => e = .normal ∧ ∃ (tm' : Nat → Value) (nx3 : Nat) (H3 : Heap), st = ⟨tm', n, H3, nx3⟩ ∧ Ext nx2 H2 nx3 H3 ∧ tm' 1 = .int .i64 p ∧ tm' 2 = .pointer (some ⟨nx, 0, none⟩) ∧ tm' 35 = .slice (some q2) L.length rk ∧ tm' 36 = .int .i64 L.length ∧ tm' 37 = .int .i64 i ∧ tm' 47 = .slice (some q3) R.length sk ∧ tm' 48 = .int .i64 R.length ∧ tm' 49 = .int .i64 j ∧ tm' 62 = .bool (!inF m (R.getD j 0) (m.of.getD j 0))) ?_ ?_
    ·refine z04 [7] (K := fun _ _ => True) zU krf krf [0, 1, 2, 3, 4, 5, 6, 7, 8] krf trivial ?_;refine zg1 ?_;refine zS (hb.ext hy okG) ?_ evd sdc
     repeat (first | (refine OpsL.nil ?_; (dsimp only)))
     refine z4G ?_;refine zaD ?_;refine zei ?_;refine OpsL.c3 (hf := z5I) (hc := (zeS W0 (hG.ext hy okG) hn _ _)) (h := ?_);rintro v1 nx3 H3 ⟨rfl, y3⟩;refine OpsL.nil ⟨trivial, ?_⟩;refine zg1 ?_;refine zdx ?_;refine OpsR.nil ?_;exact ⟨rfl, _, _, _, rfl, y3, stp, stp, stp, stp, stp, stp, stp, stp, stp⟩
    clear e1 e2 e35 e36 e37 e47 e48 e49 c2;rintro e st ⟨rfl, tm', nx3, H3, rfl, x3, e1, e2, e35, e36, e37, e47, e48, e49, e62⟩
    (change Trip _ _ _ _ _)
    repeat fail
    cases hs : inF m (R.getD j 0) (m.of.getD j 0)
    ·rw [hs] at e62;replace e62 : tm' 62 = .bool true := e62;refine z9U ?_;exact ⟨.inr rfl, _, zn, by rw [z1D hlt (hrow3.trans (z1D hltj hs))]; rfl, (x0.trans hy).trans x3⟩
    ·rw [hs] at e62;replace e62 : tm' 62 = .bool false := e62;refine z2r ?_;refine zc6 ?_;exact ⟨j + 1, ⟨_, _, _, rfl, hx2.trans x3, stp, stp, stp, stp, stp, stp, stp, stp, by omega, z1N hallj hs⟩, by omega⟩
   ·have hj2 : j = R.length := by omega
    subst hj2;refine zfU ?_;exact ⟨i + 1, ⟨_, _, _, rfl, hy, stp, stp, stp, stp, stp, by omega, z1N hall (hrow3.trans hallj)⟩, by omega⟩
  ·refine z08 ?_ (c := hd);refine z9O ?_;refine zeH ?_;exact ⟨.inr rfl, _, zn, by rw [z1D hlt (show z9S m (L.getD i []) = false by unfold z9S; rw [hR, decide_eq_false hd]; rfl)]; rfl, x0.trans hx⟩
 ·repeat (first | (refine zc (by exact z09) ?_) | (refine Trip.seq ?_) | (refine zd ?_) | (refine Trip.exit ?_; ((repeat (refine zD ?_)); change Trip _ _ _ _ _)) | (refine Trip.ret ?_; (dsimp only)) | (refine OpsL.nil ?_; (change Trip _ _ _ _ _)))
  have hi2 : i = L.length := by omega
  subst hi2;exact ⟨.inr rfl, _, zn, by rw [hall]; rfl, x0.trans hx⟩
end Go.Proofs.Ytjgbcpagfghfnaa
