import Derived.Test.YtjgbcpagfghfnaaQYM39
import Derived.Test.YtjgbcpagfghfnaaQYM15
set_option linter.unusedVariables false
set_option linter.unusedSimpArgs false
namespace Go.Am
open Go.RowKit
theorem z4B {α : Type} {a b : List α} (d : α) (hl : a.length = b.length) (h : ∀ j, j < a.length → a.getD j d = b.getD j d) : a = b := by
 refine List.ext_getElem hl fun i h1 h2 => ?_;have := h i h1;rw [List.getD_eq_getElem?_getD, List.getD_eq_getElem?_getD, List.getElem?_eq_getElem h1, List.getElem?_eq_getElem h2] at this;exact this
theorem z7M {P : Program} {H : Heap} {nx : Nat} {pos : String} {type : TypeId} {after : Array Edge} {ev : Operand → Option Value} {dst : Option Tmp} {guard : Option (Nat × Bool)} {t u : TypeId} {x y : Operand} {a b : Bool} (hx : ev x = some (.bool a)) (hy : ev y = some (.bool b)) (hu : P.underlying t = some .bool) :
  aop P H nx ev ⟨dst, .binOp .neq t x y u, type, pos, after, guard⟩ = some (.bool (!(a == b)), .none) := by
 have : aEq P H 60 t (.bool a) (.bool b) = some (a == b) := by simp [aEq, hu]
 simp [aop, hx, hy, z7a, zer, this]
theorem Mo.same {m k : Mo} (h1 : m.plains = k.plains) (h2 : m.closings = k.closings) (h3 : m.of = k.of) (h4 : m.entry = k.entry) (h5 : m.final = k.final) (h6 : m.inn = k.inn) (h7 : m.low = k.low) (h8 : m.ret = k.ret) : m = k := by
 cases m; cases k; simp_all
end Go.Am
namespace Go.Proofs.Ytjgbcpagfghfnaa
open Go.Am Go.RowKit
attribute [local irreducible] aop OpsL Trip zt z1X z1E OpsR OpsQ
theorem z2N : Am.z1G Try.prog 13 := ⟨Try.f13, Try.func13, by kernel_rfl, by kernel_rfl⟩
set_option maxRecDepth 20000 in
set_option maxHeartbeats 16000000 in
theorem z6i (W0 : World) {nx : Nat} {H : Heap} {av bv : Value} {a b : List Int} (ha : IntsAt H av a) (hb : IntsAt H bv b) (hl : a.length ≤ 100000) :
  ACalls Try.prog W0 13 [av, bv] nx H fun v nx' H' => ∃ d, v = .bool d ∧ (d = true ↔ a = b) ∧ nx' = nx ∧ H' = H := by
 obtain ⟨aa, ac, rfl⟩ := IntsAt.slice ha;obtain ⟨ba, bc, rfl⟩ := IntsAt.slice hb;refine zg (fn := Try.f13) (c := _) Try.func13 rfl (fun tm n hn0 htm => ?_);have e0 : tm 0 = .slice aa a.length ac := htm 0;have e1 : tm 1 = .slice ba b.length bc := htm 1;clear htm;replace hn0 : n = 26 := hn0
 repeat (first | (refine zc (by first | exact z09 | exact omv | exact z1g) ?_) | (refine Trip.seq ?_) | (refine zd ?_) | (refine OpsL.nil ?_; (change Trip _ _ _ _ _)))
 by_cases hle : (a.length : Int) = b.length
 ·refine z02 ?_ (c := hle);replace hle : a.length ≤ b.length ∧ b.length ≤ a.length := by omega
  refine z68 ?_;refine zc5 ?_;refine zG (fun (i : Nat) s => ∃ (tm : Nat → Value), s = ⟨tm, n, H, nx⟩ ∧ tm 0 = .slice aa a.length ac ∧ tm 1 = .slice ba b.length bc ∧ tm 5 = .int .i64 i ∧ i ≤ a.length ∧ ∀ j, j < i → a.getD j 0 = b.getD j 0) (fun i => a.length - i) 0 ?_ ?_
  ·exact ⟨_, rfl, stp, stp, stp, by omega, fun j hj => by omega⟩
  clear e0 e1;rintro i s ⟨tm, rfl, e0, e1, e5, hi, hall⟩
  repeat (first | (refine zc (by first | exact omv | exact z1g | exact z24) ?_) | (refine Trip.seq ?_) | (refine zd ?_) | (refine Trip.block ?_) | (refine zJ (fun _ => ?_) (fun _ => ?_)) | (refine Trip.skip ?_; (change Trip _ _ _ _ _)) | (refine OpsL.nil ?_; (change Trip _ _ _ _ _)))
  ·have hlt : i < a.length := by omega
   obtain ⟨p, rfl, c1⟩ := IntsAt.atI ha (show (0 : Int) ≤ i by omega) (show (i : Int) < a.length by omega);obtain ⟨q, rfl, c2⟩ := IntsAt.atI hb (show (0 : Int) ≤ i by omega) (show (i : Int) < b.length by omega);rw [Int.toNat_natCast] at c1 c2;refine Trip.mono (Q := fun e st => e = .normal ∧ ∃ (tm' : Nat → Value) (dd : Bool), st = ⟨tm', n, H, nx⟩ ∧ tm' 0 = .slice (some p) a.length ac ∧ tm' 1 = .slice (some q) b.length bc ∧ tm' 5 = .int .i64 i ∧ tm' 25 = .bool !dd ∧ (dd = true ↔ a.getD i 0 = b.getD i 0)) ?_ ?_
   ·refine z04 [] (K := fun _ _ => True) zU krf krf [0, 1, 2, 3, 4, 5, 6, 7, 8] krf trivial ?_;refine z4G ?_;refine zg7 ?_;refine z4G ?_;refine zg7 ?_;refine zg1 ?_;by_cases he : a.getD i 0 = b.getD i 0
    ·refine z02 ?_ (c := he);refine z6v ?_;exact ⟨rfl, _, true, rfl, stp, stp, stp, stp, by simp only [true_iff]; exact he⟩
    ·refine z08 ?_ (c := he);refine z6v ?_;exact ⟨rfl, _, false, rfl, stp, stp, stp, stp, by simp only [Bool.false_eq_true, false_iff]; exact he⟩
   clear c1 c2;clear e0 e1 e5;rintro e st ⟨rfl, tm, dd, rfl, e0, e1, e5, eT, hd⟩
   (change Trip _ _ _ _ _)
   cases dd
   ·refine z07 ?_;refine zeH ?_;have hne : a ≠ b := fun e => by have := hd.2 (by rw [e]); cases this
    exact ⟨.inr rfl, _, zn, false, by simp [zb], by simp [hne], rfl, rfl⟩
   ·refine z2d ?_;have he := hd.1 rfl;clear hd;refine z9R ?_;refine ⟨i + 1, ⟨_, rfl, stp, stp, stp, by omega, fun j hj => ?_⟩, by omega⟩;by_cases e : j = i
    ·subst e; exact he
    ·exact hall j (by omega)
  ·have hi2 : i = a.length := by omega
   subst hi2;refine zgW ?_;exact ⟨.inr rfl, _, zn, true, by simp [zb], by simp only [true_iff]; exact z4B 0 (by omega) hall, rfl, rfl⟩
 ·refine z08 ?_ (c := hle);replace hle : a ≠ b := fun e => hle (by rw [e]);refine z9O ?_;refine zc7 ?_;exact ⟨.inr rfl, _, zn, false, by simp [zb], by simp [hle], rfl, rfl⟩
theorem z3K : Am.z1G Try.prog 30 := ⟨Try.f30, Try.func30, by kernel_rfl, by kernel_rfl⟩
set_option maxRecDepth 20000 in
set_option maxHeartbeats 16000000 in
theorem z80 (W0 : World) {nx : Nat} {H : Heap} {av bv : Value} {a b : List (List Int)} (ha : L2At H av a) (hb : L2At H bv b) (hl : a.length ≤ 100000) (hl2 : ∀ i, (a.getD i []).length ≤ 100000) :
  ACalls Try.prog W0 30 [av, bv] nx H fun v nx' H' => ∃ d, v = .bool d ∧ (d = true ↔ a = b) ∧ nx' = nx ∧ H' = H := by
 obtain ⟨aa, ac, rfl⟩ := L2At.slice ha;obtain ⟨ba, bc, rfl⟩ := L2At.slice hb;refine zg (fn := Try.f30) (c := _) Try.func30 rfl (fun tm n hn0 htm => ?_);have e0 : tm 0 = .slice aa a.length ac := htm 0;have e1 : tm 1 = .slice ba b.length bc := htm 1;clear htm;replace hn0 : n = 27 := hn0
 repeat (first | (refine zc (by first | exact z09 | exact omv | exact z1g) ?_) | (refine Trip.seq ?_) | (refine zd ?_) | (refine OpsL.nil ?_; (change Trip _ _ _ _ _)))
 by_cases hle : (a.length : Int) = b.length
 ·refine z02 ?_ (c := hle);replace hle : a.length ≤ b.length ∧ b.length ≤ a.length := by omega
  refine z68 ?_;refine zc5 ?_;refine zG (fun (i : Nat) s => ∃ (tm : Nat → Value), s = ⟨tm, n, H, nx⟩ ∧ tm 0 = .slice aa a.length ac ∧ tm 1 = .slice ba b.length bc ∧ tm 5 = .int .i64 i ∧ i ≤ a.length ∧ ∀ j, j < i → a.getD j [] = b.getD j []) (fun i => a.length - i) 0 ?_ ?_
  ·exact ⟨_, rfl, stp, stp, stp, by omega, fun j hj => by omega⟩
  clear e0 e1;rintro i s ⟨tm, rfl, e0, e1, e5, hi, hall⟩
  repeat (first | (refine zc (by first | exact omv | exact z1g | exact z24) ?_) | (refine Trip.seq ?_) | (refine zd ?_) | (refine Trip.block ?_) | (refine zJ (fun _ => ?_) (fun _ => ?_)) | (refine Trip.skip ?_; (change Trip _ _ _ _ _)) | (refine OpsL.nil ?_; (change Trip _ _ _ _ _)))
  ·have hlt : i < a.length := by omega
   obtain ⟨p, b1, k1, rfl, c1, r1⟩ := L2At.atI ha (show (0 : Int) ≤ i by omega) (show (i : Int) < a.length by omega);obtain ⟨q, b2, k2, rfl, c2, r2⟩ := L2At.atI hb (show (0 : Int) ≤ i by omega) (show (i : Int) < b.length by omega);rw [Int.toNat_natCast] at c1 c2 r1 r2;refine Trip.mono (Q := fun e st => e = .normal ∧ ∃ (tm' : Nat → Value) (dd : Bool), st = ⟨tm', n, H, nx⟩ ∧ tm' 0 = .slice (some p) a.length ac ∧ tm' 1 = .slice (some q) b.length bc ∧ tm' 5 = .int .i64 i ∧ tm' 26 = .bool !dd ∧ (dd = true ↔ a.getD i [] = b.getD i [])) ?_ ?_
   ·refine OpsQ.drawn [8] (K := fun _ _ _ => True) zU krf krf [0, 1, 2, 3, 4, 5, 6, 7, 8, 9] krf (fun _ _ => trivial) ?_;refine zg3 ?_;refine z9X ?_;refine z5t ?_;refine zg3 ?_;refine z9X ?_;refine z5t ?_;refine z1K ?_;refine OpsL.c2 (hf := z2N) (hc := (z6i W0 r1 r2 (hl2 i))) (h := ?_);rintro v nx1 H1 ⟨dd, rfl, hd, rfl, rfl⟩;refine OpsL.nil ⟨fun _ _ => trivial, ?_⟩;refine zg8 ?_;refine zdx ?_;refine OpsQ.nil ?_;exact ⟨rfl, _, dd, rfl, stp, stp, stp, stp, hd⟩
   clear c1 c2 r1 r2;clear e0 e1 e5;rintro e st ⟨rfl, tm, dd, rfl, e0, e1, e5, eT, hd⟩
   (change Trip _ _ _ _ _)
   cases dd
   ·refine z07 ?_;refine zeH ?_;have hne : a ≠ b := fun e => by have := hd.2 (by rw [e]); cases this
    exact ⟨.inr rfl, _, zn, false, by simp [zb], by simp [hne], rfl, rfl⟩
   ·refine z2d ?_;have he := hd.1 rfl;clear hd;refine z9R ?_;refine ⟨i + 1, ⟨_, rfl, stp, stp, stp, by omega, fun j hj => ?_⟩, by omega⟩;by_cases e : j = i
    ·subst e; exact he
    ·exact hall j (by omega)
  ·have hi2 : i = a.length := by omega
   subst hi2;refine zgW ?_;exact ⟨.inr rfl, _, zn, true, by simp [zb], by simp only [true_iff]; exact z4B [] (by omega) hall, rfl, rfl⟩
 ·refine z08 ?_ (c := hle);replace hle : a ≠ b := fun e => hle (by rw [e]);refine z9O ?_;refine zc7 ?_;exact ⟨.inr rfl, _, zn, false, by simp [zb], by simp [hle], rfl, rfl⟩
theorem z5n : Am.z1G Try.prog 16 := ⟨Try.f16, Try.func16, by kernel_rfl, by kernel_rfl⟩
set_option maxRecDepth 20000 in
set_option maxHeartbeats 16000000 in
theorem zaW (W0 : World) {nx : Nat} {H : Heap} {m k : Mo} {V W : MoV} (hm : MoIn H m V) (hk : MoIn H k W) (hn : MoLen m) :
  ACalls Try.prog W0 16 [.agg (moV m V).toArray, .agg (moV k W).toArray] nx H fun v nx' H' => ∃ d, v = .bool d ∧ (d = true ↔ m = k) ∧ Ext nx H nx' H' := by
 refine zg (fn := Try.f16) (c := _) Try.func16 rfl (fun tm n hn0 htm => ?_);have e0 : tm 0 = .agg (moV m V).toArray := htm 0;have e1 : tm 1 = .agg (moV k W).toArray := htm 1;clear htm;replace hn0 : n = 106 := hn0;refine Trip.ok fun hok => ?_;replace hok : ∀ id o, H id = some o → id < nx := hok;refine z2k ?_;refine zY hm hok ?_ evd sdc;intro G0 y0 okG0 hb0 hG0;refine zY (hk.ext y0 hok) okG0 ?_ evd sdc;intro G y1 okG hbk hGk;have hb := hb0.ext y1 okG0;have hG := hG0.ext y1 okG0;have x0 := y0.trans y1;clear e0 e1 hb0 hG0 hm hk y0 y1 okG0;obtain ⟨mofa, mofc, mofv⟩ := hG.of.slice;have mof := hG.of;have gm2 := hb.c2;rw [mofv] at mof gm2;obtain ⟨mentrya, mentryc, mentryv⟩ := hG.entry.slice;have mentry := hG.entry;have gm3 := hb.c3;rw [mentryv] at mentry gm3;obtain ⟨mfinala, mfinalc, mfinalv⟩ := hG.final.slice;have mfinal := hG.final;have gm4 := hb.c4;rw [mfinalv] at mfinal gm4;obtain ⟨minna, minnc, minnv⟩ := hG.inn.slice;have minn := hG.inn;have gm5 := hb.c5;rw [minnv] at minn gm5;obtain ⟨mlowa, mlowc, mlowv⟩ := hG.low.slice;have mlow := hG.low;have gm6 := hb.c6;rw [mlowv] at mlow gm6;obtain ⟨mreta, mretc, mretv⟩ := hG.ret.slice;have mret := hG.ret;have gm7 := hb.c7;rw [mretv] at mret gm7;have gm0 := hb.c0;have gm1 := hb.c1;obtain ⟨kofa, kofc, kofv⟩ := hGk.of.slice;have kof := hGk.of;have gk2 := hbk.c2;rw [kofv] at kof gk2;obtain ⟨kentrya, kentryc, kentryv⟩ := hGk.entry.slice;have kentry := hGk.entry;have gk3 := hbk.c3;rw [kentryv] at kentry gk3;obtain ⟨kfinala, kfinalc, kfinalv⟩ := hGk.final.slice;have kfinal := hGk.final;have gk4 := hbk.c4;rw [kfinalv] at kfinal gk4;obtain ⟨kinna, kinnc, kinnv⟩ := hGk.inn.slice;have kinn := hGk.inn;have gk5 := hbk.c5;rw [kinnv] at kinn gk5;obtain ⟨klowa, klowc, klowv⟩ := hGk.low.slice;have klow := hGk.low;have gk6 := hbk.c6;rw [klowv] at klow gk6;obtain ⟨kreta, kretc, kretv⟩ := hGk.ret.slice;have kret := hGk.ret;have gk7 := hbk.c7;rw [kretv] at kret gk7;have gk0 := hbk.c0;have gk1 := hbk.c1;have hl1 := hn.of; have hl2 := hn.entry; have hl3 := hn.final; have hl4 := hn.inn; have hl5 := hn.low; have hl6 := hn.ret
 repeat (first | (refine zc (by first | exact z09 | exact ofa | exact old) ?_) | (refine Trip.seq ?_) | (refine zd ?_) | (refine OpsL.nil ?_; (change Trip _ _ _ _ _)))
 by_cases he : m.plains ≠ k.plains
 ·refine z08 ?_ (c := he);replace he : m ≠ k := fun e => he (by rw [e])
  repeat (first | (refine zc (by first | exact omv | exact z3O) ?_) | (refine OpsL.nil ?_; (change Trip _ _ _ _ _)) | (refine z0e ?_))
  refine zaE ?_;exact ⟨.inr rfl, _, zn, false, by simp [zb], by simp [he], x0⟩
 replace he := Decidable.not_not.1 he;refine z02 ?_ (c := he);have p1 := PLift.up he;clear he
 repeat (first | (refine zc (by first | exact ofa | exact old | exact omv) ?_) | (refine zB ?_))
 by_cases he : m.closings ≠ k.closings
 ·refine z08 ?_ (c := he);replace he : m ≠ k := fun e => he (by rw [e]);refine zfr ?_;exact ⟨.inr rfl, _, zn, false, by simp [zb], by simp [he], x0⟩
 replace he := Decidable.not_not.1 he;refine z02 ?_ (c := he);have p2 := PLift.up he;clear he
 repeat (first | (refine zc (by first | exact ofa | exact old | exact omv | exact z3u) ?_) | (refine zB ?_))
 refine OpsL.c2 (hf := z2N) (hc := (z6i W0 mof kof hl1)) (h := ?_);rintro v1 nx1 H1 ⟨d, rfl, he, hn1, hh1⟩;rw [hn1, hh1];clear hn1 hh1;cases d
 ·replace he : _ ≠ _ := fun e => by have := he.2 e; cases this
  refine zdw ?_;replace he : m ≠ k := fun e => he (by rw [e]);refine zfr ?_;exact ⟨.inr rfl, _, zn, false, by simp [zb], by simp [he], x0⟩
 have p3 := he.1 rfl;clear he
 repeat (first | (refine zc (by first | exact ofa | exact old | exact omv | exact z4W | exact z3u) ?_) | (refine zB ?_))
 refine OpsL.c2 (hf := z2N) (hc := (z6i W0 mentry kentry hl2)) (h := ?_);rintro v1 nx1 H1 ⟨d, rfl, he, hn1, hh1⟩;rw [hn1, hh1];clear hn1 hh1;cases d
 ·replace he : _ ≠ _ := fun e => by have := he.2 e; cases this
  refine zdw ?_;replace he : m ≠ k := fun e => he (by rw [e]);refine zfr ?_;exact ⟨.inr rfl, _, zn, false, by simp [zb], by simp [he], x0⟩
 have p4 := he.1 rfl;clear he
 repeat (first | (refine zc (by first | exact ofa | exact old | exact z1g | exact omv | exact z4W | exact z3u) ?_) | (refine zB ?_))
 by_cases he : (m.final.length : Int) ≠ k.final.length
 ·refine z08 ?_ (c := he);replace he : m ≠ k := fun e => he (by rw [e]);refine zfr ?_;exact ⟨.inr rfl, _, zn, false, by simp [zb], by simp [he], x0⟩
 replace he := Decidable.not_not.1 he;refine z02 ?_ (c := he);have p5 := PLift.up he;clear he
 repeat (first | (refine zc (by first | exact ofa | exact old | exact omv | exact z3u) ?_) | (refine zB ?_))
 refine OpsL.c2 (hf := z3K) (hc := (z80 W0 minn kinn hl4 hn.inn1)) (h := ?_);rintro v1 nx1 H1 ⟨d, rfl, he, hn1, hh1⟩;rw [hn1, hh1];clear hn1 hh1;cases d
 ·replace he : _ ≠ _ := fun e => by have := he.2 e; cases this
  refine zdw ?_;replace he : m ≠ k := fun e => he (by rw [e]);refine zfr ?_;exact ⟨.inr rfl, _, zn, false, by simp [zb], by simp [he], x0⟩
 have p6 := he.1 rfl;clear he
 repeat (first | (refine zc (by first | exact ofa | exact old | exact omv | exact z4W | exact z3u) ?_) | (refine zB ?_))
 refine OpsL.c2 (hf := z3K) (hc := (z80 W0 mlow klow hl5 hn.low1)) (h := ?_);rintro v1 nx1 H1 ⟨d, rfl, he, hn1, hh1⟩;rw [hn1, hh1];clear hn1 hh1;cases d
 ·replace he : _ ≠ _ := fun e => by have := he.2 e; cases this
  refine zdw ?_;replace he : m ≠ k := fun e => he (by rw [e]);refine zfr ?_;exact ⟨.inr rfl, _, zn, false, by simp [zb], by simp [he], x0⟩
 have p7 := he.1 rfl;clear he
 repeat (first | (refine zc (by first | exact ofa | exact old | exact z1g | exact omv | exact z4W | exact z3u) ?_) | (refine zB ?_))
 by_cases he : (m.ret.length : Int) ≠ k.ret.length
 ·refine z08 ?_ (c := he);replace he : m ≠ k := fun e => he (by rw [e])
  repeat (first | (refine zc (by exact z3u) ?_) | (refine OpsL.nil ?_; (change Trip _ _ _ _ _)))
  refine zaE ?_;exact ⟨.inr rfl, _, zn, false, by simp [zb], by simp [he], x0⟩
 replace he := Decidable.not_not.1 he;refine z02 ?_ (c := he);have p8 := PLift.up he;clear he
 repeat (first | (refine zc (by exact z3u) ?_) | (refine OpsL.nil ?_; (change Trip _ _ _ _ _)))
 refine z2r ?_;have e2 : True := trivial;refine zc5 ?_;have q5 : m.final.length = k.final.length := by have := p5.down; omega
 have q8 : m.ret.length = k.ret.length := by have := p8.down; omega
 replace q5 := PLift.up q5;replace q8 := PLift.up q8;clear p5 p8 e2;refine zG (fun (i : Nat) s => ∃ (tm : Nat → Value), s = ⟨tm, n, G, nx + 1 + 1⟩ ∧ tm 2 = .pointer (some ⟨nx, 0, none⟩) ∧ tm 3 = .pointer (some ⟨nx + 1, 0, none⟩) ∧ tm 5 = .int .i64 i ∧ i ≤ m.final.length ∧ ∀ j, j < i → m.final.getD j false = k.final.getD j false) (fun i => m.final.length - i) 0 ?_ ?_
 ·exact ⟨_, rfl, stp, stp, stp, by omega, fun j hj => by omega⟩
 clear hbk hb;rintro i s ⟨tm, rfl, t2, t3, t5, hi, hall⟩
 repeat (first | (refine zc (by first | exact omv | exact ofa | exact old | exact z1g | exact z24) ?_) | (refine Trip.seq ?_) | (refine zd ?_) | (refine Trip.block ?_) | (refine zJ (fun _ => ?_) (fun _ => ?_)) | (refine Trip.skip ?_; (change Trip _ _ _ _ _)) | (refine OpsL.nil ?_; (change Trip _ _ _ _ _)))
 ·have hlt : i < m.final.length := by omega
  obtain ⟨p, rfl, c1⟩ := BoolsAt.atI mfinal (show (0 : Int) ≤ i by omega) (show (i : Int) < m.final.length by omega);obtain ⟨q, rfl, c2⟩ := BoolsAt.atI kfinal (show (0 : Int) ≤ i by omega) (show (i : Int) < k.final.length by have := q5.down; omega);rw [Int.toNat_natCast] at c1 c2;have hlk : i < k.final.length := by have := q5.down; omega
  refine Trip.mono (Q := fun e st => e = .normal ∧ ∃ (tm' : Nat → Value), st = ⟨tm', n, G, nx + 1 + 1⟩ ∧ tm' 2 = .pointer (some ⟨nx, 0, none⟩) ∧ tm' 3 = .pointer (some ⟨nx + 1, 0, none⟩) ∧ tm' 5 = .int .i64 i ∧ tm' 86 = .bool (!(m.final.getD i false == k.final.getD i false))) ?_ ?_
  ·refine z04 [] (K := fun _ _ => True) zU krf krf [0, 1, 2, 3, 4, 5, 6, 7, 8, 9, 10] krf trivial ?_;refine zaD ?_;refine zaD ?_;refine zg1 ?_;refine zw sdc (z7M (a := m.final.getD i false) (b := k.final.getD i false) evd evd xrf) ?_;refine z6v ?_;exact ⟨rfl, _, rfl, stp, stp, stp, by simp [zb]⟩
  clear c1 c2 t2 t3 t5;rintro e st ⟨rfl, tm, rfl, t2, t3, t5, t86⟩
  (change Trip _ _ _ _ _)
  by_cases he : m.final.getD i false = k.final.getD i false
  ·rw [he, beq_self_eq_true, Bool.not_true] at t86;refine z2r ?_;refine z9R ?_;refine ⟨i + 1, ⟨_, rfl, stp, stp, stp, by omega, fun j hj => ?_⟩, by omega⟩;by_cases e : j = i
   ·subst e; exact he
   ·exact hall j (by omega)
  ·rw [beq_eq_false_iff_ne.2 he, Bool.not_false] at t86;refine z9U ?_;have hne : m ≠ k := fun e => he (by rw [e]);exact ⟨.inr rfl, _, zn, false, by simp [zb], by simp [hne], x0⟩
 have hi2 : i = m.final.length := by omega
 subst hi2;have p5 := z4B false q5.down hall;clear hall;refine zgV ?_;refine zG (fun (i : Nat) s => ∃ (tm : Nat → Value), s = ⟨tm, n, G, nx + 1 + 1⟩ ∧ tm 2 = .pointer (some ⟨nx, 0, none⟩) ∧ tm 3 = .pointer (some ⟨nx + 1, 0, none⟩) ∧ tm 6 = .int .i64 i ∧ i ≤ m.ret.length ∧ ∀ j, j < i → m.ret.getD j [] = k.ret.getD j []) (fun i => m.ret.length - i) 0 ?_ ?_
 ·exact ⟨_, rfl, stp, stp, stp, by omega, fun j hj => by omega⟩
 clear t2 t3 t5;rintro i s ⟨tm, rfl, t2, t3, t6, hi, hall⟩
 repeat (first | (refine zc (by first | exact omv | exact ofa | exact old | exact z1g | exact z24) ?_) | (refine Trip.seq ?_) | (refine zd ?_) | (refine Trip.block ?_) | (refine zJ (fun _ => ?_) (fun _ => ?_)) | (refine Trip.skip ?_; (change Trip _ _ _ _ _)) | (refine OpsL.nil ?_; (change Trip _ _ _ _ _)))
 ·have hlt : i < m.ret.length := by omega
  obtain ⟨p, b1, k1, rfl, c1, r1⟩ := L3At.atI mret (show (0 : Int) ≤ i by omega) (show (i : Int) < m.ret.length by omega);obtain ⟨q, b2, k2, rfl, c2, r2⟩ := L3At.atI kret (show (0 : Int) ≤ i by omega) (show (i : Int) < k.ret.length by have := q8.down; omega);rw [Int.toNat_natCast] at c1 c2 r1 r2;have hlk : i < k.ret.length := by have := q8.down; omega
  refine Trip.mono (Q := fun e st => e = .normal ∧ ∃ (tm' : Nat → Value) (dd : Bool), st = ⟨tm', n, G, nx + 1 + 1⟩ ∧ tm' 2 = .pointer (some ⟨nx, 0, none⟩) ∧ tm' 3 = .pointer (some ⟨nx + 1, 0, none⟩) ∧ tm' 6 = .int .i64 i ∧ tm' 105 = .bool !dd ∧ (dd = true ↔ m.ret.getD i [] = k.ret.getD i [])) ?_ ?_
  ·refine OpsQ.drawn [10] (K := fun _ _ _ => True) zU krf krf [0, 1, 2, 3, 4, 5, 6, 7, 8, 9, 10, 11] krf (fun _ _ => trivial) ?_;refine z7e ?_;refine z7e ?_;refine z1K ?_;refine OpsL.c2 (hf := z3K) (hc := (z80 W0 r1 r2 (hn.ret1 i) (hn.ret2 i))) (h := ?_);rintro v nx1 H1 ⟨dd, rfl, hd, rfl, rfl⟩;refine OpsL.nil ⟨fun _ _ => trivial, ?_⟩;refine zg8 ?_;refine zdx ?_;refine OpsQ.nil ?_;exact ⟨rfl, _, dd, rfl, stp, stp, stp, stp, hd⟩
  clear c1 c2 t2 t3 t6 r1 r2;rintro e st ⟨rfl, tm, dd, rfl, t2, t3, t6, t105, hd⟩
  (change Trip _ _ _ _ _)
  cases dd
  ·refine z07 ?_;refine zeH ?_;have hne : m ≠ k := fun e => by have := hd.2 (by rw [e]); cases this
   exact ⟨.inr rfl, _, zn, false, by simp [zb], by simp [hne], x0⟩
  ·refine z2d ?_;have he := hd.1 rfl;clear hd;refine z9R ?_;refine ⟨i + 1, ⟨_, rfl, stp, stp, stp, by omega, fun j hj => ?_⟩, by omega⟩;by_cases e : j = i
   ·subst e; exact he
   ·exact hall j (by omega)
 have hi2 : i = m.ret.length := by omega
 subst hi2;have p8 := z4B [] q8.down hall;clear hall;refine zgW ?_;exact ⟨.inr rfl, _, zn, true, by simp [zb], by simp only [true_iff]; exact Mo.same p1.down p2.down p3 p4 p5 p6 p7 p8, x0⟩
end Go.Proofs.Ytjgbcpagfghfnaa
