import Derived.Test.YtjgbcpagfghfnaaQYM52
import Derived.Test.YtjgbcpagfghfnaaQYM15
import Derived.Test.YtjgbcpagfghfnaaQYM51
set_option linter.unusedVariables false
set_option linter.unusedSimpArgs false
namespace Go.Am
theorem zgb {P : Prop} [Decidable P] (h : ¬ P) : Value.bool true = Value.bool (!decide P) := by rw [decide_eq_false h]; rfl
theorem zga {P Q : Prop} [Decidable P] [Decidable Q] (h : Q ↔ ¬ P) : Value.bool (decide Q) = Value.bool (!decide P) := by
 by_cases hp : P
 ·rw [decide_eq_false (fun q => h.1 q hp), decide_eq_true hp]; rfl
 ·rw [decide_eq_true (h.2 hp), decide_eq_false hp]; rfl
open Go.RowKit in
theorem z7N {P : Program} {W0 : World} {ops : Array Oper} {Q R : ASt → Prop} (hq : ∀ s, Q s → R s) : ∀ (l : List Oper) (st : ASt), OpsL P W0 ops l st Q → OpsL P W0 ops l st R := by
 intro l
 induction l with
 | nil => intro st h; exact hq _ h
 | cons o l ih =>
  intro st h;obtain ⟨hd, h⟩ := h;refine ⟨hd, ?_⟩;rcases h with ⟨hw, h⟩ | ⟨hw, ⟨v, e, hop, h⟩ | ⟨f, args, R', hc, hf, hcall, h⟩⟩
  ·exact .inl ⟨hw, ih _ h⟩
  ·exact .inr ⟨hw, .inl ⟨v, e, hop, ih _ h⟩⟩
  ·exact .inr ⟨hw, .inr ⟨f, args, R', hc, hf, hcall, fun v nx' H' hr => ih _ (h v nx' H' hr)⟩⟩
theorem zew {m : Mo} (h : z4Y m = false) : (if z65 m then (0 : Int) else 11) = 11 := by simp [z65, h]
theorem zev {m : Mo} (h : z1C m = false) : (if z65 m then (0 : Int) else 11) = 11 := by simp [z65, h]
theorem zgl {m : Mo} (h : z4H m.of.length (z29 m) = false) : (if z65 m then (0 : Int) else 11) = 11 := by simp [z65, h]
end Go.Am
namespace Go.Proofs.Ytjgbcpagfghfnaa
open Go.Am Go.RowKit
attribute [local irreducible] aop OpsL Trip zt z1X z1E OpsR
theorem z9w : Am.z1G Try.prog 27 := ⟨Try.f27, Try.func27, by kernel_rfl, by kernel_rfl⟩
set_option maxRecDepth 20000 in
set_option maxHeartbeats 16000000 in
theorem zf4 (W0 : World) {nx : Nat} {H : Heap} {m : Mo} {V : MoV} (hm : MoIn H m V) (hn : MoLen m) : ACalls Try.prog W0 27 [.agg (moV m V).toArray] nx H fun v nx' H' => v = .int .i64 (if z65 m then 0 else 11) ∧ Ext nx H nx' H' := by
 refine zg (fn := Try.f27) (c := _) Try.func27 rfl (fun tm n hn0 htm => ?_);have e0 : tm 0 = .agg (moV m V).toArray := htm 0;clear htm;replace hn0 : n = 136 := hn0;refine Trip.ok fun hok => ?_;replace hok : ∀ id o, H id = some o → id < nx := hok;refine z2k ?_;refine zY hm hok ?_ evd sdc;intro G x0 okG hb hG;clear e0;obtain ⟨oa, oc, ov⟩ := hG.of.slice;have oh := hG.of;have g2 := hb.c2;rw [ov] at oh g2;obtain ⟨ea, ec, ev⟩ := hG.entry.slice;have eh := hG.entry;have g3 := hb.c3;rw [ev] at eh g3;obtain ⟨fa, fc, fv⟩ := hG.final.slice;have fh := hG.final;have g4 := hb.c4;rw [fv] at fh g4;obtain ⟨ia, ic, iv⟩ := hG.inn.slice;have ih := hG.inn;have g5 := hb.c5;rw [iv] at ih g5;obtain ⟨la, lc, lv⟩ := hG.low.slice;have lh := hG.low;have g6 := hb.c6;rw [lv] at lh g6;obtain ⟨ra, rc, rv⟩ := hG.ret.slice;have rh := hG.ret;have g7 := hb.c7;rw [rv] at rh g7;have g0 := hb.c0;have g1 := hb.c1;have q0 := hn.of;have q1 := hn.entry;refine zfC ?_;refine Trip.mono (Q := fun e st => e = .normal ∧ ∃ (tm' : Nat → Value), st = ⟨tm', n, G, nx + 1⟩ ∧ tm' 1 = .pointer (some ⟨nx, 0, none⟩) ∧ tm' 3 = .int .i64 m.of.length ∧ tm' 4 = .int .i64 m.entry.length) ?_ ?_
 ·refine z04 [] (K := fun _ _ => True) zU krf krf [0, 1, 2, 3, 4, 5, 6, 7] krf trivial ?_;refine zbi ?_;refine zem ?_;refine zbi ?_;refine zem ?_;refine zg1 ?_
  repeat (first | (refine zc (by exact z09) ?_) | (refine OpsL.nil ?_; (skip)))
  refine zel ?_;exact ⟨rfl, _, rfl, stp, stp, stp⟩
 rintro e st ⟨rfl, tm, rfl, e1, e3, e4⟩
 (change Trip _ _ _ _ _)
 refine Trip.seq (Trip.seq ?_);refine Trip.mono (Q := fun e st => e = .normal ∧ ∃ (tm' : Nat → Value), st = ⟨tm', n, G, nx + 1⟩ ∧ tm' 1 = .pointer (some ⟨nx, 0, none⟩) ∧ tm' 3 = .int .i64 m.of.length ∧ tm' 4 = .int .i64 m.entry.length ∧ tm' 47 = .bool (!decide ((0 ≤ m.plains ∧ m.plains ≤ 20) ∧ (0 ≤ m.closings ∧ m.closings ≤ 20) ∧ (1 ≤ (m.of.length : Int) ∧ (m.of.length : Int) ≤ 60) ∧ (1 ≤ (m.entry.length : Int) ∧ (m.entry.length : Int) ≤ 21)))) ?_ ?_
 ·repeat' (first | (refine zc (by first | exact omv | exact z24 | exact zgZ | exact ofa | exact old | exact z3O | exact z3u) ?_) | (refine zd ?_) | (refine OpsL.nil ?_; (dsimp only)) | (refine zB ?_) | (refine z0e ?_) | (refine zcK (fun _ => ?_) (fun _ => ?_)))
  all_goals first | exact ⟨rfl, _, rfl, by simp only [zb, ↓reduceIte, reduceIte, Nat.reduceEqDiff, *], by simp only [zb, ↓reduceIte, reduceIte, Nat.reduceEqDiff, *], by simp only [zb, ↓reduceIte, reduceIte, Nat.reduceEqDiff, *], zgb (by omega)⟩ | exact ⟨rfl, _, rfl, by simp only [zb, ↓reduceIte, reduceIte, Nat.reduceEqDiff, *], by simp only [zb, ↓reduceIte, reduceIte, Nat.reduceEqDiff, *], by simp only [zb, ↓reduceIte, reduceIte, Nat.reduceEqDiff, *], zga (by omega)⟩
 clear e1 e3 e4;rintro e st ⟨rfl, tm, rfl, e1, e3, e4, e47⟩
 (change Trip _ _ _ _ _)
 by_cases hS : (0 ≤ m.plains ∧ m.plains ≤ 20) ∧ (0 ≤ m.closings ∧ m.closings ≤ 20) ∧ (1 ≤ (m.of.length : Int) ∧ (m.of.length : Int) ≤ 60) ∧ (1 ≤ (m.entry.length : Int) ∧ (m.entry.length : Int) ≤ 21)
 case neg =>
  rw [decide_eq_false hS] at e47;replace e47 : tm 47 = .bool true := e47;have hz : z4Y m = false := decide_eq_false fun q => hS ⟨q.1, q.2.1, q.2.2.1, q.2.2.2.1⟩;clear hS
  repeat fail
  refine zaE ?_;exact ⟨.inr rfl, _, zn, by rw [zew hz]; rfl, x0⟩
 rw [decide_eq_true hS] at e47;replace e47 : tm 47 = .bool false := e47;obtain ⟨S1, S2, S4, S5⟩ := hS
 repeat fail
 refine z2r ?_;refine zc5 ?_;refine zG (fun (i : Nat) s => ∃ (tm : Nat → Value), s = ⟨tm, n, G, nx + 1⟩ ∧ tm 1 = .pointer (some ⟨nx, 0, none⟩) ∧ tm 3 = .int .i64 m.of.length ∧ tm 4 = .int .i64 m.entry.length ∧ tm 5 = .int .i64 i ∧ i ≤ m.of.length ∧ z4H i (fun i => decide (0 ≤ m.of.getD i 0 ∧ m.of.getD i 0 ≤ (m.entry.length : Int) - 1)) = true) (fun i => m.of.length - i) 0 ?_ ?_
 ·exact ⟨_, rfl, stp, stp, stp, stp, by omega, z1e⟩
 clear e1 e3 e4 e47;rintro i s ⟨tm, rfl, e1, e3, e4, e5, hi, hall⟩
 repeat (first | (refine zc (by first | exact omv | exact z24) ?_) | (refine Trip.seq ?_) | (refine zd ?_) | (refine Trip.block ?_) | (refine zJ (fun _ => ?_) (fun _ => ?_)) | (refine Trip.skip ?_; (change Trip _ _ _ _ _)) | (refine OpsL.nil ?_; (change Trip _ _ _ _ _)))
 ·have hlt : i < m.of.length := by omega
  obtain ⟨q, hq, hc⟩ := IntsAt.atI oh (show (0 : Int) ≤ i by omega) (show (i : Int) < m.of.length by omega);rw [hq] at g2;rw [Int.toNat_natCast] at hc;obtain ⟨x, hx⟩ : ∃ x, m.of.getD i 0 = x := ⟨_, rfl⟩;rw [hx] at hc;refine z7N (Q := fun st => ∃ (tm' : Nat → Value), st = ⟨tm', n, G, nx + 1⟩ ∧ tm' 1 = .pointer (some ⟨nx, 0, none⟩) ∧ tm' 3 = .int .i64 m.of.length ∧ tm' 4 = .int .i64 m.entry.length ∧ tm' 5 = .int .i64 i ∧ tm' 67 = .bool (!decide (0 ≤ x ∧ x ≤ (m.entry.length : Int) - 1))) ?_ _ _ ?_
  rotate_left
  ·repeat' (first | (refine zc (by first | exact omv | exact z24 | exact zhB | exact z1j | exact ofa | exact old | exact z3O | exact z3u) ?_) | (refine OpsL.nil ?_; (dsimp only)) | (refine zB ?_) | (refine z0e ?_) | (refine zcK (fun _ => ?_) (fun _ => ?_)))
   all_goals first | exact ⟨_, rfl, by simp only [zb, ↓reduceIte, reduceIte, Nat.reduceEqDiff, *], by simp only [zb, ↓reduceIte, reduceIte, Nat.reduceEqDiff, *], by simp only [zb, ↓reduceIte, reduceIte, Nat.reduceEqDiff, *], by simp only [zb, ↓reduceIte, reduceIte, Nat.reduceEqDiff, *], zgb (by omega)⟩ | exact ⟨_, rfl, by simp only [zb, ↓reduceIte, reduceIte, Nat.reduceEqDiff, *], by simp only [zb, ↓reduceIte, reduceIte, Nat.reduceEqDiff, *], by simp only [zb, ↓reduceIte, reduceIte, Nat.reduceEqDiff, *], by simp only [zb, ↓reduceIte, reduceIte, Nat.reduceEqDiff, *], zga (by omega)⟩
  clear e1 e3 e4 e5;rintro st ⟨tm, rfl, e1, e3, e4, e5, e67⟩
  (change Trip _ _ _ _ _)
  by_cases hd : 0 ≤ x ∧ x ≤ (m.entry.length : Int) - 1
  ·rw [decide_eq_true hd] at e67;replace e67 : tm 67 = .bool false := e67;have hd2 : decide (0 ≤ m.of.getD i 0 ∧ m.of.getD i 0 ≤ (m.entry.length : Int) - 1) = true := by rw [hx]; exact decide_eq_true hd
   clear hd
   repeat fail
   refine zfH ?_;exact ⟨i + 1, ⟨_, rfl, stp, stp, stp, stp, by omega, z1N hall hd2⟩, by omega⟩
  ·rw [decide_eq_false hd] at e67;replace e67 : tm 67 = .bool true := e67
   have hz : z1C m = false := by
    unfold z1C;rw [z1D hlt (show decide (0 ≤ m.of.getD i 0 ∧ m.of.getD i 0 ≤ (m.entry.length : Int) - 1) = false by rw [hx]; exact decide_eq_false hd)];rfl
   clear hd
   repeat fail
   refine z9U ?_;exact ⟨.inr rfl, _, zn, by rw [zev hz]; rfl, x0⟩
 have hi2 : i = m.of.length := by omega
 subst hi2;have hall1 := hall;clear hall;refine zgV ?_;refine zG (fun (i : Nat) s => ∃ (tm : Nat → Value), s = ⟨tm, n, G, nx + 1⟩ ∧ tm 1 = .pointer (some ⟨nx, 0, none⟩) ∧ tm 3 = .int .i64 m.of.length ∧ tm 4 = .int .i64 m.entry.length ∧ tm 6 = .int .i64 i ∧ i ≤ m.entry.length ∧ z4H i (fun i => inF m (m.entry.getD i 0) i) = true) (fun i => m.entry.length - i) 0 ?_ ?_
 ·exact ⟨_, rfl, stp, stp, stp, stp, by omega, z1e⟩
 clear e1 e3 e4 e5;rintro i s ⟨tm, rfl, e1, e3, e4, e6, hi, hall⟩
 repeat (first | (refine zc (by first | exact omv | exact z24) ?_) | (refine Trip.seq ?_) | (refine zd ?_) | (refine Trip.block ?_) | (refine zJ (fun _ => ?_) (fun _ => ?_)) | (refine Trip.skip ?_; (change Trip _ _ _ _ _)) | (refine OpsL.nil ?_; (change Trip _ _ _ _ _)))
 ·have hlt : i < m.entry.length := by omega
  obtain ⟨q, hq, hc⟩ := IntsAt.atI eh (show (0 : Int) ≤ i by omega) (show (i : Int) < m.entry.length by omega);rw [hq] at g3;rw [Int.toNat_natCast] at hc;obtain ⟨x, hx⟩ : ∃ x, m.entry.getD i 0 = x := ⟨_, rfl⟩;rw [hx] at hc;refine Trip.mono (Q := fun e st => e = .normal ∧ ∃ (tm' : Nat → Value), st = ⟨tm', n, G, nx + 1⟩ ∧ tm' 1 = .pointer (some ⟨nx, 0, none⟩) ∧ tm' 3 = .int .i64 m.of.length ∧ tm' 4 = .int .i64 m.entry.length ∧ tm' 6 = .int .i64 i ∧ tm' 100 = .bool (!inF m x i)) ?_ ?_
  ·refine z04 [] (K := fun _ _ => True) zU krf krf [0, 1, 2, 3, 4, 5, 6, 7, 8, 9, 10, 11, 12, 13, 14, 15, 16, 17, 18, 19, 20, 21, 22, 23, 24, 25, 26, 27] krf trivial ?_;refine zaD ?_;refine zg1 ?_;by_cases h0 : x < 0
   ·refine z0y ?_ (c := h0);have hF : inF m x i = false := decide_eq_false fun q => by omega
    refine z0n ?_;refine z4G ?_;refine zg0 ?_;refine zg0 ?_;refine zdp ?_;refine zc3 ?_;refine zfB ?_;refine OpsR.nil ?_;exact ⟨rfl, _, rfl, stp, stp, stp, stp, stp⟩
   refine z0z ?_ (c := h0);refine z0n ?_;refine z9Z ?_;refine z7c ?_;refine z6u ?_;by_cases h1 : (m.of.length : Int) ≤ x
   ·refine z5f ?_ (c := h1);have hF : inF m x i = false := decide_eq_false fun q => by omega
    refine z0n ?_;refine z9W ?_;refine zfB ?_;refine OpsR.nil ?_;exact ⟨rfl, _, rfl, stp, stp, stp, stp, stp⟩
   refine z5g ?_ (c := h1);refine z0n ?_;obtain ⟨q5, hq5, hc5⟩ := IntsAt.atI oh (show 0 ≤ x by omega) (show x < m.of.length by omega);rw [hq5] at g2;refine z9W ?_;refine z4G ?_;refine zg9 ?_;refine zg9 ?_;refine zgY ?_;refine zfI ?_;refine z6u ?_;by_cases h2 : m.of.getD x.toNat 0 = i
   ·refine z02 ?_ (c := h2);have hF : inF m x i = true := decide_eq_true ⟨⟨by omega, by omega⟩, h2⟩;clear h2;refine zdl ?_;exact ⟨rfl, _, rfl, stp, stp, stp, stp, stp⟩
   ·refine z08 ?_ (c := h2);have hF : inF m x i = false := decide_eq_false fun q => h2 q.2;clear h2;refine zdl ?_;exact ⟨rfl, _, rfl, stp, stp, stp, stp, stp⟩
  clear e1 e3 e4 e6;rintro e st ⟨rfl, tm, rfl, e1, e3, e4, e6, e100⟩
  (change Trip _ _ _ _ _)
  cases hs : inF m x i
  ·rw [hs] at e100;replace e100 : tm 100 = .bool true := e100
   have hz : z1C m = false := by
    unfold z1C;rw [z1D (n := m.entry.length) hlt (show inF m (m.entry.getD i 0) i = false by rw [hx]; exact hs), Bool.and_false]
   repeat fail
   refine z9U ?_;exact ⟨.inr rfl, _, zn, by rw [zev hz]; rfl, x0⟩
  ·rw [hs] at e100;replace e100 : tm 100 = .bool false := e100
   repeat fail
   refine zfH ?_;exact ⟨i + 1, ⟨_, rfl, stp, stp, stp, stp, by omega, z1N hall (by rw [hx]; exact hs)⟩, by omega⟩
 have hi2 : i = m.entry.length := by omega
 subst hi2;have hho : z1C m = true := by unfold z1C; rw [hall1, hall]; rfl
 clear hall hall1;refine zeG ?_;refine z7N (Q := fun st => ∃ (tm' : Nat → Value), st = ⟨tm', n, G, nx + 1⟩ ∧ tm' 1 = .pointer (some ⟨nx, 0, none⟩) ∧ tm' 3 = .int .i64 m.of.length ∧ tm' 126 = .bool (!decide ((m.final.length : Int) = m.of.length ∧ (m.inn.length : Int) = m.of.length ∧ (m.low.length : Int) = m.of.length ∧ (m.ret.length : Int) = m.of.length))) ?_ _ _ ?_
 rotate_left
 ·repeat (first | (refine zc (by first | exact omv | exact ofa | exact old | exact z1g) ?_))
  by_cases k0 : (m.final.length : Int) = m.of.length
  case neg =>
   refine z08 ?_ (c := k0);have hz : ¬ ((m.final.length : Int) = m.of.length ∧ (m.inn.length : Int) = m.of.length ∧ (m.low.length : Int) = m.of.length ∧ (m.ret.length : Int) = m.of.length) := fun q => k0 q.1;rw [decide_eq_false hz];clear k0 hz
   repeat (first | (refine zc (by first | exact omv | exact z3O) ?_) | (refine OpsL.nil ?_; (dsimp only)) | (refine z0e ?_))
   exact ⟨_, rfl, stp, stp, by simp [zb]⟩
  refine z02 ?_ (c := k0);replace k0 := decide_eq_true k0
  repeat (first | (refine zc (by first | exact omv | exact ofa | exact old | exact z1g) ?_) | (refine zB ?_))
  by_cases k1 : (m.inn.length : Int) = m.of.length
  case neg =>
   refine z08 ?_ (c := k1);have hz : ¬ ((m.final.length : Int) = m.of.length ∧ (m.inn.length : Int) = m.of.length ∧ (m.low.length : Int) = m.of.length ∧ (m.ret.length : Int) = m.of.length) := fun q => k1 q.2.1;rw [decide_eq_false hz];clear k1 hz
   repeat (first | (refine zc (by first | exact omv | exact z3O | exact z3u) ?_) | (refine OpsL.nil ?_; (dsimp only)) | (refine z0e ?_))
   exact ⟨_, rfl, stp, stp, by simp [zb]⟩
  refine z02 ?_ (c := k1);replace k1 := decide_eq_true k1
  repeat (first | (refine zc (by first | exact omv | exact ofa | exact old | exact z1g | exact z3u) ?_) | (refine zB ?_))
  by_cases k2 : (m.low.length : Int) = m.of.length
  case neg =>
   refine z08 ?_ (c := k2);have hz : ¬ ((m.final.length : Int) = m.of.length ∧ (m.inn.length : Int) = m.of.length ∧ (m.low.length : Int) = m.of.length ∧ (m.ret.length : Int) = m.of.length) := fun q => k2 q.2.2.1;rw [decide_eq_false hz];clear k2 hz
   repeat (first | (refine zc (by first | exact omv | exact z3O | exact z3u) ?_) | (refine OpsL.nil ?_; (dsimp only)) | (refine z0e ?_))
   exact ⟨_, rfl, stp, stp, by simp [zb]⟩
  refine z02 ?_ (c := k2);replace k2 := decide_eq_true k2
  repeat (first | (refine zc (by first | exact omv | exact ofa | exact old | exact z1g | exact z3u) ?_) | (refine zB ?_))
  by_cases k3 : (m.ret.length : Int) = m.of.length
  case neg =>
   refine z08 ?_ (c := k3);have hz : ¬ ((m.final.length : Int) = m.of.length ∧ (m.inn.length : Int) = m.of.length ∧ (m.low.length : Int) = m.of.length ∧ (m.ret.length : Int) = m.of.length) := fun q => k3 q.2.2.2;rw [decide_eq_false hz];clear k3 hz
   repeat (first | (refine zc (by exact z3u) ?_) | (refine OpsL.nil ?_; (dsimp only)))
   exact ⟨_, rfl, stp, stp, by simp [zb]⟩
  refine z02 ?_ (c := k3);replace k3 := decide_eq_true k3;have hz : ((m.final.length : Int) = m.of.length ∧ (m.inn.length : Int) = m.of.length ∧ (m.low.length : Int) = m.of.length ∧ (m.ret.length : Int) = m.of.length) := ⟨of_decide_eq_true k0, of_decide_eq_true k1, of_decide_eq_true k2, of_decide_eq_true k3⟩;rw [decide_eq_true hz];clear k0 k1 k2 k3 hz
  repeat (first | (refine zc (by exact z3u) ?_) | (refine OpsL.nil ?_; (dsimp only)))
  exact ⟨_, rfl, stp, stp, by simp [zb]⟩
 clear e1 e3 e4 e6;rintro st ⟨tm, rfl, e1, e3, e126⟩
 (change Trip _ _ _ _ _)
 by_cases hT : (m.final.length : Int) = m.of.length ∧ (m.inn.length : Int) = m.of.length ∧ (m.low.length : Int) = m.of.length ∧ (m.ret.length : Int) = m.of.length
 case neg =>
  rw [decide_eq_false hT] at e126;replace e126 : tm 126 = .bool true := e126;have hz : z4Y m = false := decide_eq_false fun q => hT q.2.2.2.2;clear hT
  repeat fail
  refine zaE ?_;exact ⟨.inr rfl, _, zn, by rw [zew hz]; rfl, x0⟩
 rw [decide_eq_true hT] at e126;replace e126 : tm 126 = .bool false := e126;have hsz : z4Y m = true := decide_eq_true ⟨S1, S2, S4, S5, hT⟩;obtain ⟨T1, T2, T3, T4⟩ := hT;have T2' : m.inn.length = m.of.length := by omega
 have T3' : m.low.length = m.of.length := by omega
 have T4' : m.ret.length = m.of.length := by omega
 clear T1 T2 T3 T4
 repeat fail
 refine z2r ?_;refine zc5 ?_;refine zG (fun (i : Nat) s => ∃ (tm : Nat → Value) (nx' : Nat) (H' : Heap), s = ⟨tm, n, H', nx'⟩ ∧ Ext (nx + 1) G nx' H' ∧ tm 1 = .pointer (some ⟨nx, 0, none⟩) ∧ tm 3 = .int .i64 m.of.length ∧ tm 7 = .int .i64 i ∧ i ≤ m.of.length ∧ z4H i (z29 m) = true) (fun i => m.of.length - i) 0 ?_ ?_
 ·exact ⟨_, _, _, rfl, Ext.refl, stp, stp, stp, by omega, z1e⟩
 clear e1 e3 e126;rintro i s ⟨tm, nx', H', rfl, hx, e1, e3, e7, hi, hall⟩
 repeat (first | (refine zc (by first | exact omv | exact z24) ?_) | (refine Trip.seq ?_) | (refine zd ?_) | (refine Trip.block ?_) | (refine zJ (fun _ => ?_) (fun _ => ?_)) | (refine Trip.skip ?_; (change Trip _ _ _ _ _)) | (refine OpsL.nil ?_; (change Trip _ _ _ _ _)))
 ·have hlt : i < m.of.length := by omega
  refine zS (hb.ext hx okG) ?_ evd sdc;refine z9V ?_;refine OpsL.c2 (hf := z9v) (hc := (zf2 W0 (hG.ext hx okG) hn hlt (by omega) (by omega) (by omega))) (h := ?_);rintro v1 nx1 H1 ⟨rfl, y1⟩;cases hs : z29 m i
  ·repeat (first | (refine zc (by exact z4W) ?_) | (refine OpsL.nil ?_; (change Trip _ _ _ _ _)))
   refine z9U ?_;exact ⟨.inr rfl, _, zn, by rw [zgl (z1D hlt hs)]; rfl, (x0.trans hx).trans y1⟩
  ·repeat (first | (refine zc (by exact z4W) ?_) | (refine OpsL.nil ?_; (change Trip _ _ _ _ _)))
   refine zfH ?_;exact ⟨i + 1, ⟨_, _, _, rfl, hx.trans y1, stp, stp, stp, by omega, z1N hall hs⟩, by omega⟩
 ·repeat (first | (refine zc (by exact z09) ?_) | (refine Trip.seq ?_) | (refine zd ?_) | (refine Trip.exit ?_; ((repeat (refine zD ?_)); change Trip _ _ _ _ _)) | (refine Trip.ret ?_; (dsimp only)) | (refine OpsL.nil ?_; (change Trip _ _ _ _ _)))
  have hi2 : i = m.of.length := by omega
  subst hi2;exact ⟨.inr rfl, _, zn, by rw [show z65 m = true by unfold z65; rw [hsz, hho, hall]; rfl]; rfl, x0.trans hx⟩
end Go.Proofs.Ytjgbcpagfghfnaa
namespace Go.Proofs.Ytjgbcpagfghfnaa
open Go.Am Go.RowKit
attribute [local irreducible] aop OpsL Trip zt z1X z1E OpsR OpsQ
theorem z7k : Am.z1G Try.prog 9 := ⟨Try.f9, Try.func9, by kernel_rfl, by kernel_rfl⟩
set_option maxRecDepth 20000 in
set_option maxHeartbeats 16000000 in
theorem zcO (W0 : World) {nx : Nat} {H : Heap} {m : Mo} {V : MoV} (hm : MoIn H m V) (hmod : ModOk m) :
  ACalls Try.prog W0 9 [.agg (moV m V).toArray] nx H fun v nx' H' => ∃ V', v = .tuple #[.agg (moV (z0L m) V').toArray, .int .i64 0] ∧ Ext nx H nx' H' ∧ MoIn H' (z0L m) V' := by
 refine zg (fn := Try.f9) (c := _) Try.func9 rfl (fun tm n hn0 htm => ?_);have e0 : tm 0 = .agg (moV m V).toArray := htm 0;clear htm;replace hn0 : n = 164 := hn0;refine Trip.ok fun hok => ?_;replace hok : ∀ id o, H id = some o → id < nx := hok;refine z2k ?_;refine zY hm hok ?_ evd sdc;intro G x0 okG hb hG;clear e0;have hn60 := hmod.n.2;have hcl := z4l hmod;have FA : ∀ {N : Nat} {H' : Heap}, Ext (nx + 1) G N H' → MoBox H' nx m V ∧ MoIn H' m V := fun h => ⟨hb.ext h okG, hG.ext h okG⟩;have hK : OldC ⟨nx + 1, fun _ => .old, G⟩ ⟨nx + 1, fun _ => .old, G⟩ := OldC.refl;obtain ⟨σ0, hσ0⟩ : ∃ σ0 : CH, ⟨nx + 1, fun _ => .old, G⟩ = σ0 := ⟨_, rfl⟩;have hσ1 : σ0.nx = nx + 1 := by rw [← hσ0]
 have hσ2 : σ0.H = G := by rw [← hσ0]
 have ok0 : ∀ id o, σ0.H id = some o → id < σ0.nx := by rw [hσ1, hσ2]; exact okG
 rw [hσ0] at hK;rw [← hσ1, ← hσ2] at FA ⊢;clear hm hok hb hG okG hσ0;refine zo .table (zV (l := moV z1O z2j) xrf) sdc ?_;intro σ1 hr x1;obtain ⟨R, hR⟩ : ∃ R, σ0.nx = R := ⟨_, rfl⟩;replace hK := hK.keep x1 (by simp);rw [hR] at hr;change OpsL _ _ _ _ ⟨zb _ _ (.pointer (some ⟨σ0.nx, 0, none⟩)), _, _, _⟩ _;rw [hR];clear x1
 (first | (refine zc (by exact z09) ?_))
 refine z0n ?_
 (change Trip _ _ _ _ _)
 refine Trip.seq (Trip.seq ?_);refine zd ?_;refine zS (FA hK.ext).1 ?_ evd sdc;refine OpsL.c1 (hf := z9w) (hc := (zf4 W0 (FA hK.ext).2 hmod.lens)) (h := ?_);rintro v1 N1 H1 ⟨rfl, z1⟩;rw [z2u.2 hmod, if_pos rfl];obtain ⟨σ2, rfl, rfl, x2, -⟩ := z0N .tmp z1;replace hK := hK.keep x2 (by simp);replace hr := hr.keep x2 (by simp);clear x2 z1;refine zw sdc (z87 evr (by rfl) rfl) ?_;refine z0n ?_
 (change Trip _ _ _ _ _)
 refine zeO ?_;refine zS (FA hK.ext).1 ?_ evd sdc;refine OpsL.c1 (hf := z3S) (hc := (z6V W0 (FA hK.ext).2 hmod)) (h := ?_);rintro v1 N1 H1 ⟨⟨cb, q1, q2, rfl, q3⟩, hx⟩;rw [List.length_map, hcl];obtain ⟨σ3, rfl, rfl, x3, hc3⟩ := z0N .tmp hx;have hc : ObC .tmp σ3 cb (.cells ((zx m).map (.int .i64 ·)) 1 none false (some 3)) := ⟨q2, hc3 _ q1, q3⟩;replace hK := hK.keep x3 (by simp);replace hr := hr.keep x3 (by simp);clear hx x3 hc3 q1 q2 q3
 (first | (refine zc (by exact z09) ?_))
 refine z0n ?_
 (change Trip _ _ _ _ _)
 refine z2k ?_
 (first | (refine zc (by exact z09) ?_))
 refine z0n ?_
 (change Trip _ _ _ _ _)
 refine Trip.seq (Trip.seq ?_);refine zd ?_
 (first | (refine zc (by exact z09) ?_))
 refine z0n ?_
 (change Trip _ _ _ _ _)
 have hcls := zcM hmod
 have hLb : ∀ x ∈ zA (zx m), 0 ≤ x ∧ x < (m.of.length : Int) := fun x hx => by
  obtain ⟨i, hi, rfl⟩ := List.getElem_of_mem hx;have := (z2Y (zx m) (zx m).length (Nat.le_refl _) i hi).1;change 0 ≤ (zA (zx m)).getD i 0 ∧ (zA (zx m)).getD i 0 < _ at this;rw [List.getD_eq_getElem?_getD, List.getElem?_eq_getElem hi] at this;rw [hcl] at this;exact this
 have hall := zcD m (zx m);have hLl : (zA (zx m)).length ≤ 1000 := by have := z2Q (zx m) (zx m).length; unfold zA; omega
 rw [hcls] at hall;clear hcls;generalize zx m = cls at *;refine zeZ (nx := nx) (R := R) (cb := cb) (k := m.of.length) W0 hn0 (by omega) ⟨hcl⟩ stp stp stp stp stp hK hc hr ?_;clear hK hc hr;intro tm σ lv t1 t2 t4 t5 hK hc hr hL;dsimp only;generalize zA cls = L at *
 -- out
 refine z2k ?_;have g0 := (FA hK.ext).1.c0;have g1 := (FA hK.ext).1.c1
 repeat (first | (refine zc (by first | exact ofa | exact old) ?_))
 refine zw sdc (z0C (l := [(0, .int .i64 m.plains), (1, .int .i64 m.closings)]) (v := .agg (moC m.plains m.closings ⟨.slice none 0 0, .slice none 0 0, .slice none 0 0, .slice none 0 0, .slice none 0 0, .slice none 0 0⟩).toArray) (by simp [zQ, ASt.ev, zb, *]) xrf) ?_;refine zo .self (zV (l := moV z1O z2j) xrf) sdc ?_;intro σ4 ha x4;obtain ⟨O, hO⟩ : ∃ O, σ.nx = O := ⟨_, rfl⟩;rw [hO] at ha ⊢;replace hK := hK.keep x4 (by simp);replace hc := hc.keep x4 (by simp);replace hr := hr.keep x4 (by simp);replace hL := hL.keep x4 (by simp);refine zO (vs := moC m.plains m.closings ⟨.slice none 0 0, .slice none 0 0, .slice none 0 0, .slice none 0 0, .slice none 0 0, .slice none 0 0⟩) ha xrf rfl rfl rfl evd evd ?_;intro σ5 ha5 x5;have hS : SmS σ0 σ5 cb O R m.plains m.closings cls L lv ⟨m.plains, m.closings, [], [], [], [], [], []⟩ ⟨.slice none 0 0, .slice none 0 0, .slice none 0 0, .slice none 0 0, .slice none 0 0, .slice none 0 0⟩ := ⟨hK.keep x5 (by simp), hc.keep x5 (by simp), hL.keep x5 (by simp), ha5, hr.keep x5 (by simp), OwnC.nil, OwnC.nil, OwnC.nil, OwnLC.nil, OwnLC.nil, OwnLC.nil⟩;clear hK hc hr hL ha ha5 x4 x5 g0 g1 hO;refine z0n ?_
 (change Trip _ _ _ _ _)
 refine Trip.seq (Trip.seq ?_);refine zd ?_
 (first | (refine zc (by exact z09) ?_))
 refine z0n ?_
 (change Trip _ _ _ _ _)
 refine zf0 (nx := nx) (R := R) (cb := cb) (O := O) (lv := lv) (m := m) (V0 := V) W0 hn0 hmod hcl FA stp stp stp stp stp stp rfl hS ?_;clear t1 t2 t4 t5 hS;intro tm σ V1 t1 t2 t4 t5 t7 hS;dsimp only;refine Trip.seq (Trip.seq ?_);refine zd ?_
 (first | (refine zc (by exact z09) ?_))
 refine z0n ?_
 (change Trip _ _ _ _ _)
 obtain ⟨la, lk, rfl⟩ := OwnC.slice zR hS.l;have hD0 : ({ plains := m.plains, closings := m.closings, of := [], entry := zC cls m.entry, final := [], inn := [], low := [], ret := [] } : Mo) = mgD m cls L 0 := rfl;replace hS : SmS σ0 σ cb O R m.plains m.closings cls L (.slice la L.length lk) (mgD m cls L 0) V1 := hS;clear hD0;refine Trip.block ?_;refine zG (fun (i : Nat) s => ∃ tm σ V1, s = ⟨tm, n, σ.H, σ.nx⟩ ∧ tm 1 = .pointer (some ⟨nx, 0, none⟩) ∧ tm 2 = .pointer (some ⟨R, 0, none⟩) ∧ tm 4 = .slice (some ⟨cb, 0, none⟩) m.of.length m.of.length ∧ tm 5 = .slice la L.length lk ∧ tm 7 = .pointer (some ⟨O, 0, none⟩) ∧ tm 9 = .int .i64 i ∧ i ≤ L.length ∧ SmS σ0 σ cb O R m.plains m.closings cls L (.slice la L.length lk) (mgD m cls L i) V1) (fun i => L.length - i) 0 ?_ ?_
 ·exact ⟨_, σ, V1, rfl, stp, stp, stp, stp, stp, stp, by omega, hS⟩
 clear t1 t2 t4 t5 t7 hS;rintro i s ⟨tm, σ, V1, rfl, t1, t2, t4, t5, t7, t9, hi, h⟩
 repeat (first | (refine zc (by first | exact omv | exact z1g | exact z24) ?_) | (refine Trip.seq ?_) | (refine zd ?_) | (refine Trip.block ?_) | (refine zJ (fun _ => ?_) (fun _ => ?_)) | (refine Trip.skip ?_; (change Trip _ _ _ _ _)) | (refine OpsL.nil ?_; (change Trip _ _ _ _ _)))
 ·have hlt : i < L.length := by omega
  have hpr := hLb _ (zM hlt);obtain ⟨P, hP⟩ : ∃ P : Nat, L.getD i 0 = (P : Int) := ⟨(L.getD i 0).toNat, by omega⟩;rw [hP] at hpr;have hPn : P < m.of.length := by omega
  obtain ⟨q, rfl, hcq⟩ := h.l.ints.atI (show (0 : Int) ≤ i by omega) (show (i : Int) < L.length by omega);rw [Int.toNat_natCast, hP] at hcq;obtain ⟨l1, l2, l3, l4, l5⟩ := zcC m cls L hi;have hsn := zb2 m cls L hlt hP;clear hP;generalize mgD m cls L i = D at *;refine zcc ?_
  (first | (refine zc (by exact z09) ?_))
  refine z0n ?_
  (change Trip _ _ _ _ _)
  clear hcq;refine Trip.seq ?_;refine zhx (nx := nx) (R := R) (cb := cb) (O := O) (c := i) (P := P) (V := V1) (V0 := V) W0 hn0 hmod hcl ok0 FA hPn stp stp stp stp stp stp stp h (by omega) (by omega) ?_;clear t1 t2 t4 t5 t7 t9 h;intro tm σ V2 t1 t2 t4 t5 t7 t9 t10 h;dsimp only;refine Trip.seq ?_;refine zhy (nx := nx) (R := R) (cb := cb) (O := O) (c := i) (P := P) (V := V2) (V0 := V) W0 hn0 hmod hcl ok0 FA hPn t1 t2 t4 t5 t7 t9 t10 h (by show D.inn.length ≤ _; omega) (by show D.low.length ≤ _; omega) ?_;clear t1 t2 t4 t5 t7 t9 t10 h;intro tm σ V3 t1 t2 t4 t5 t7 t9 t10 h;dsimp only;refine z2k ?_
  (first | (refine zc (by exact z09) ?_))
  refine z0n ?_
  (change Trip _ _ _ _ _)
  refine Trip.seq (Trip.seq ?_);refine zd ?_
  (first | (refine zc (by exact z09) ?_))
  refine z0n ?_
  (change Trip _ _ _ _ _)
  refine zh6 (nx := nx) (R := R) (cb := cb) (O := O) (c := i) (P := P) (V := V3) (V0 := V) W0 hn0 hmod hcl ok0 FA hPn stp stp stp stp stp stp stp h hLb hLl stp stp ?_;clear t1 t2 t4 t5 t7 t9 t10 h;intro tm σ v11 t1 t2 t4 t5 t7 t9 t10 t11 h hret;dsimp only;refine zgj (nx := nx) (R := R) (cb := cb) (O := O) (c := i) (P := P) (V := V3) (V0 := V) W0 hn0 hmod hcl ok0 FA hPn t1 t2 t4 t5 t7 t9 t10 h t11 hret (by show D.ret.length ≤ _; omega) ?_;clear t1 t2 t4 t5 t7 t9 t10 t11 h hret;intro tm σ V4 t1 t2 t4 t5 t7 t9 t10 h;refine zc4 ?_;exact ⟨i + 1, ⟨_, σ, V4, rfl, stp, stp, stp, stp, stp, stp, by omega, by rw [hsn]; exact h⟩, by omega⟩
 ·have hie : i = L.length := by omega
  rw [hie, hall] at h;have hga : MoBox σ.H O (z0L m) V1 := MoBox.of h.a.2.2;refine zeG ?_;refine zS hga ?_ evd sdc;have hmi : MoIn σ.H (z0L m) V1 := ⟨h.of.ints, h.en.ints, h.fi.bools, OwnLC.at (fun _ _ _ hr => hr.ints) h.inn, OwnLC.at (fun _ _ _ hr => hr.ints) h.low, OwnLC.at (fun _ _ _ hr => OwnLC.at (fun _ _ _ hr => hr.ints) hr) h.ret⟩;refine zO (vs := moV (z0L m) V1) h.r xrf rfl rfl (MoIn.one hmi) evd evd ?_;intro τ hr2 xr;have hmi2 : MoIn τ.H (z0L m) V1 := ⟨(h.of.keep xr (by simp)).ints, (h.en.keep xr (by simp)).ints, (h.fi.keep xr (by simp)).bools, OwnLC.at (fun _ _ _ hr => hr.ints) (ze xr (by simp) (fun _ _ => by simp) h.inn), OwnLC.at (fun _ _ _ hr => hr.ints) (ze xr (by simp) (fun _ _ => by simp) h.low), OwnLC.at (fun _ _ _ hr => OwnLC.at (fun _ _ _ hr => hr.ints) hr) (zN xr (by simp) (fun _ _ => by simp) (fun _ _ _ => by simp) h.ret)⟩;have ho := (h.old.keep xr (by simp)).ext;rw [hσ1, hσ2] at ho;refine zeP ?_;exact ⟨.inr rfl, _, z8Z (a := ⟨R, 0, none⟩) (v := .agg (moV (z0L m) V1).toArray) stp (z2n (vs := moV (z0L m) V1) xrf rfl xrf (z0d hr2.2.2 rfl)), V1, stp, x0.trans ho, hmi2⟩
end Go.Proofs.Ytjgbcpagfghfnaa
