import Derived.Sort.Grow
import Derived.Deep.Draws
import Derived.Test.YteplpegfcpmflaaGreatRows
import Derived.Shelf.SlicesG.Cmp
import Derived.Shelf.Lay
import Derived.Ground.SlgcProg
import Derived.Shelf.SlSortCmp.WholeK
import Derived.Shelf.SlSortCmp.Whole1
import Derived.Ground.SlsfProg
import Derived.Shelf.SlSortCmp.NoneTotal
import Derived.Test.YteplpegfcpmflaaGreatQTM7
set_option linter.unusedSimpArgs false
set_option linter.unusedVariables false
set_option maxRecDepth 100000
set_option maxHeartbeats 64000000
namespace Go.Am
open Go.RowKit
open Go.Sort hiding Below
theorem z9Z {W w' : World} (h : BelD W.heap.size W w') : ∃ q os', w' = grow (W.drewN q) os' := by
 refine ⟨w'.drawn - W.drawn, w'.heap.extract W.heap.size w'.heap.size, ?_⟩;have hd := h.drawn
 have hh : w'.heap = W.heap ++ w'.heap.extract W.heap.size w'.heap.size := by
  apply Array.ext_getElem?;intro i;by_cases hi : i < W.heap.size
  ·rw [Array.getElem?_append_left hi, h.block i hi]
  ·rw [Array.getElem?_append_right (by omega), Array.getElem?_extract]
   have hs := h.size;by_cases h2 : i < w'.heap.size
   ·rw [if_pos (by omega)]
    congr 1; omega
   ·rw [if_neg (by omega), Array.getElem?_eq_none (by omega)]
 obtain ⟨h1, h2, h3, h4, h5, h6⟩ := h;cases w';simp only [grow, World.drewN] at *;subst h1 h2 h3;congr 1;omega
def zf1 : Value → Bool
 | .agg a => a.toList.all zk
 | v => zk v
theorem zd4 {nx : Nat} {H : Heap} {C : Corr} {v : Value} (h : zf1 v = true) : VR nx H C v v := by
 cases v with
 | agg a =>
  refine .agg a a rfl fun i p q => z1F (List.all_eq_true.1 h _ ?_);simp
 | _ => exact z1F h
variable {P : Program}
theorem z2P {f : FuncId} {args : List Value} {r : Value} (ha : args.all zf1 = true) (hr : zk r = true)
  (h : ∀ w nx H, ACalls P w f args nx H fun v _ _ => v = r) (W : World) : Calls P f args.toArray W fun e w' => e = .returned r ∧ ∃ q os', w' = grow (W.drewN q) os' := by
 refine (h W NG (z2s []).get (z3j W) W args (z7L Tabs.nil (BelD.refl _ _)) ⟨rfl, fun i p _ => zd4 (List.all_eq_true.1 ha _ (List.getElem_mem p))⟩).mono ?_;rintro e w' ⟨v, v', C', nx', H', rfl, rfl, hR', hv, hS⟩;refine ⟨?_, z9Z hR'.below⟩;cases hv <;> first | rfl | (simp [zk] at hr)
theorem ACalls.weaken {P : Program} {W0 : World} {nx : Nat} {H : Heap} {f : FuncId} {args : List Value} {R R' : Value → Nat → Heap → Prop} (h : ACalls P W0 f args nx H R) (hq : ∀ v n G, R v n G → R' v n G) : ACalls P W0 f args nx H R' := fun C w args' hR ha => by
 refine (h C w args' hR ha).mono ?_;rintro e w' ⟨v, v', C', nx', H', h1, h2, h3⟩;exact ⟨v, v', C', nx', H', h1, hq _ _ _ h2, h3⟩
end Go.Am
namespace Go.Proofs.YteplpegfcpmflaaGreat
open Go.Shelf Go.RowKit Go.Lib Go.Am
open Go.Sort hiding Below
shelf_lay_g SlLaysC2.n5 Slgc 5 at Tryz 45 as cmpIntL
abbrev z0i : R4 → List Value := e4
abbrev z1M : R3 → List Value := e3
abbrev zdE : Int → List Value := z59
theorem z8O (l : List Int) : l.flatMap zdE = l.map (.int .i64 ·) := by
 induction l with
 | nil => rfl
 | cons x l ih => rw [List.flatMap_cons, ih]; rfl
theorem z04 (x : R4) : (z0i x).length = 4 := rfl
theorem z1o (x : R3) : (z1M x).length = 3 := rfl
theorem z0J (x : Int) : (zdE x).length = 1 := rfl
theorem z5C (x : R4) : (z0i x).all (·.oneCell') = true := rfl
theorem zb1 (x : R3) : (z1M x).all (·.oneCell') = true := rfl
theorem zb2 (x : Int) : (zdE x).all (·.oneCell') = true := rfl
theorem z1j : Tryz.prog.follows .mixedOrders = true := by kernel_rfl
def z45 (nx : Nat) (H : Heap) (nx' : Nat) (H' : Heap) (ob : Option (Nat × Nat)) : Prop := Ext nx H nx' H' ∧ ∀ b t, ob = some (b, t) → nx ≤ b ∧ b < nx'
def zbf (x y : R4) : Int := orF [Lib.compareInt x.1 y.1, Lib.compareInt x.2.1 y.2.1, Lib.compareInt x.2.2.1 y.2.2.1, Lib.compareInt x.2.2.2 y.2.2.2]
def zeQ (x y : R3) : Int := orF [Lib.compareInt x.1 y.1, Lib.compareInt x.2.1 y.2.1, Lib.compareInt x.2.2 y.2.2]
theorem z6j (x y : Int) : (x < y ∧ Lib.compareInt x y = -1) ∨ (x = y ∧ Lib.compareInt x y = 0) ∨ (y < x ∧ Lib.compareInt x y = 1) := by
 unfold Lib.compareInt;by_cases h : x < y
 ·exact .inl ⟨h, by simp [h]⟩
 ·by_cases h2 : y < x
  ·exact .inr (.inr ⟨h2, by simp [h, h2]⟩)
  ·exact .inr (.inl ⟨by omega, by simp [h, h2]⟩)
theorem z7s (x y : Int) : Lib.compareInt x y < 0 ↔ lt1 x y := by
 unfold lt1;rcases z6j x y with ⟨h, e⟩ | ⟨h, e⟩ | ⟨h, e⟩ <;> rw [e] <;> omega
theorem z1q (x y : Int) (l : List Int) : orF (Lib.compareInt x y :: l) < 0 ↔ x < y ∨ (x = y ∧ orF l < 0) := by
 have e0 : orF (Lib.compareInt x y :: l) = if Lib.compareInt x y ≠ 0 then Lib.compareInt x y else orF l := rfl
 rw [e0];rcases z6j x y with ⟨h, e⟩ | ⟨h, e⟩ | ⟨h, e⟩ <;> rw [e] <;> simp <;> omega
theorem z5W (x y : R4) : zbf x y < 0 ↔ lt4 x y := by
 unfold zbf lt4;rw [z1q, z1q, z1q, z1q];simp [orF]
theorem z7r (x y : R3) : zeQ x y < 0 ↔ lt3 x y := by
 unfold zeQ lt3;rw [z1q, z1q, z1q];simp [orF]
theorem zbX (x y : Int) (W : World) : Calls Tryz.prog 45 #[.int .i64 x, .int .i64 y] W fun e w' => e = .returned (.int .i64 (Lib.compareInt x y)) ∧ ∃ q os', w' = grow (W.drewN q) os' := by
 have h1 := AnyG.cmp_Compare_int cmpIntL x y W;refine h1.mono ?_;rintro e w' ⟨h2, h3⟩;exact ⟨h2, 0, #[], by rw [h3]; simp [grow, World.drewN]⟩
theorem z0p : Am.z0F Tryz.prog 45 := ⟨Tryz.f45, Tryz.func45, by kernel_rfl, by kernel_rfl⟩
theorem z5M (W0 : World) {nx : Nat} {H : Heap} (x y : Int) : ACalls Tryz.prog W0 45 [.int .i64 x, .int .i64 y] nx H fun v nx' H' => v = .int .i64 (Lib.compareInt x y) ∧ nx' = nx ∧ H' = H :=
 (z3r (W0 := W0) (P := Tryz.prog) (f := 45) (args := [.int .i64 x, .int .i64 y]) (r := .int .i64 (Lib.compareInt x y)) z0p rfl rfl (fun w => (AnyG.cmp_Compare_int cmpIntL x y w).mono (by
  rintro e w' ⟨h1, h2⟩;subst h2;exact ⟨h1, BelD.refl _ _⟩))).2 nx H
theorem eqO (H : Heap) (x y : R4) (r : Bool) (hr : decide (x = y) = r) : aEq Tryz.prog H 60 43 (.agg (z0i x).toArray) (.agg (z0i y).toArray) = some r := by
 have h1 : Tryz.prog.stoodInHeld 43 = false := by kernel_rfl
 obtain ⟨a, b, c, d⟩ := x;obtain ⟨a2, b2, c2, d2⟩ := y
 have key : aEq Tryz.prog H 60 43 (.agg (z0i (a, b, c, d)).toArray) (.agg (z0i (a2, b2, c2, d2)).toArray) = some ((a == a2) && (b == b2) && (c == c2) && (d == d2)) := by
  cases h : (a == a2) <;> cases h2 : (b == b2) <;> cases h3 : (c == c2) <;> cases h4 : (d == d2) <;> simp [z0i, e4, aEq, z1B, z0A, z2E, h, h2, h3, h4, h1, Tryz.underlying43, Tryz.underlying3]
 rw [key, ← hr];congr 1;rw [Bool.eq_iff_iff];simp [and_assoc]
theorem eqC (H : Heap) (x y : R4) (r : Bool) (hr : decide (x = y) = r) : aEq Tryz.prog H 60 45 (.agg (z0i x).toArray) (.agg (z0i y).toArray) = some r := by
 have h1 : Tryz.prog.stoodInHeld 45 = false := by kernel_rfl
 obtain ⟨a, b, c, d⟩ := x;obtain ⟨a2, b2, c2, d2⟩ := y
 have key : aEq Tryz.prog H 60 45 (.agg (z0i (a, b, c, d)).toArray) (.agg (z0i (a2, b2, c2, d2)).toArray) = some ((a == a2) && (b == b2) && (c == c2) && (d == d2)) := by
  cases h : (a == a2) <;> cases h2 : (b == b2) <;> cases h3 : (c == c2) <;> cases h4 : (d == d2) <;> simp [z0i, e4, aEq, z1B, z0A, z2E, h, h2, h3, h4, h1, Tryz.underlying45, Tryz.underlying3]
 rw [key, ← hr];congr 1;rw [Bool.eq_iff_iff];simp [and_assoc]
theorem eqN (H : Heap) (x y : R3) (r : Bool) (hr : decide (x = y) = r) : aEq Tryz.prog H 60 51 (.agg (z1M x).toArray) (.agg (z1M y).toArray) = some r := by
 have h1 : Tryz.prog.stoodInHeld 51 = false := by kernel_rfl
 obtain ⟨a, b, c⟩ := x;obtain ⟨a2, b2, c2⟩ := y
 have key : aEq Tryz.prog H 60 51 (.agg (z1M (a, b, c)).toArray) (.agg (z1M (a2, b2, c2)).toArray) = some ((a == a2) && (b == b2) && (c == c2)) := by
  cases h : (a == a2) <;> cases h2 : (b == b2) <;> cases h3 : (c == c2) <;> simp [z1M, e3, aEq, z1B, z0A, z2E, h, h2, h3, h1, Tryz.underlying51, Tryz.underlying3]
 rw [key, ← hr];congr 1;rw [Bool.eq_iff_iff];simp [and_assoc]
end Go.Proofs.YteplpegfcpmflaaGreat
namespace Go.Proofs.YteplpegfcpmflaaGreat
open Go.RowKit Go.Am
attribute [local irreducible] aop OpsL Trip zC z36 OpsK OpsR
abbrev AtO (H : Heap) (v : Value) (l : List (R4)) : Prop := RowsAt z0i 4 H v l
abbrev zck (H : Heap) (ob : Option (Nat × Nat)) (v : Value) (l : List (R4)) : Prop := OwnOf z0i 4 43 H ob v l
theorem za9 : Am.z0F Tryz.prog 83 := ⟨Tryz.f83, Tryz.func83, by kernel_rfl, by kernel_rfl⟩
theorem zae : Am.z0F Tryz.prog 67 := ⟨Tryz.f67, Tryz.func67, by kernel_rfl, by kernel_rfl⟩
theorem zh4 (W0 : World) {nx m : Nat} {H : Heap} (hm : m ≤ 1000000) :
  ACalls Tryz.prog W0 83 [.slice none 0 0, .int .i64 m] nx H fun v nx' H' => ∃ ob, zck H' ob v [] ∧ z45 nx H nx' H' ob := by
 refine ze (fn := Tryz.f83) (c := _) Tryz.func83 rfl (fun tm n hn0 htm => ?_);have e0 : tm 0 = .slice none 0 0 := htm 0;have e1 : tm 1 = .int .i64 m := htm 1;clear htm;replace hn0 : n = 27 := hn0;refine z4Q ?_;refine z8c ?_;refine zci ?_;refine z7 (z2F evr (by exact rfl)) ?_;refine zhy ?_;by_cases h0 : 0 < m
 ·refine z1G ?_
  refine zgp ?_;refine z7 (z2F evr (by exact rfl)) ?_;refine z7 (zS (r := .slice none 0 0) (a := none) (b := some (.int .i64 0)) (c := none) evd rfl (by simp only [z0G, ASt.ev, z9, ↓reduceIte, reduceIte, Option.some.injEq, Nat.reduceEqDiff, Option.map_some]; rfl) rfl (z2o (el := 43) (sz := 4) (by exact rfl) (by exact rfl) (.inl ⟨rfl, rfl⟩) (.inr ⟨.i64, rfl⟩))) ?_;refine zba ?_;refine OpsL.new (by subst_vars; decide) (z3p (k := m) (el := 43) (kd := .i64) (size := 4) (bytes := 32) (z := [.int .i64 0, .int .i64 0, .int .i64 0, .int .i64 0]) evd (by simp only [ASt.ev, z9, ↓reduceIte, reduceIte, Nat.reduceEqDiff, zk, *]; simp) (by exact rfl) (by exact rfl) (by exact rfl) (by exact rfl) (by exact rfl) rfl h0 (by omega) (by omega)) ?_
  repeat (refine z7 (by first | exact omv | exact z1s) ?_)
  refine z7 (zS (r := .slice (some ⟨nx, 0, some nx⟩) 0 0) (a := none) (b := some (.int .i64 0)) (c := none) evr rfl (by simp only [z0G, ASt.ev, z9, ↓reduceIte, reduceIte, Option.some.injEq, Nat.reduceEqDiff, Option.map_some]; rfl) rfl (by
   have := zQ (P := Tryz.prog) (H := H.put nx (.cells (z0b [.int .i64 0, .int .i64 0, .int .i64 0, .int .i64 0] m) 4 (some nx) false (some 43))) (t := 26) (el := 43) (sz := 4) (a := ⟨nx, 0, some nx⟩) (len := m) (cap := m) (l := 0) (h := 0) (tg := nx) (lo := none) (hi := some (.int .i64 0)) (by exact rfl) (by exact rfl) z6 rfl rfl rfl (.inl ⟨rfl, rfl⟩) (.inr ⟨.i64, rfl⟩) (Nat.le_refl _) (Nat.zero_le _);simpa using this)) ?_
  refine zdC ?_;refine ⟨.inr rfl, _, zh, some (nx, nx), ?_, ⟨zg, fun b t h => by cases h; exact ⟨Nat.le_refl _, Nat.lt_succ_self _⟩⟩⟩;refine ⟨by simp [z9], rfl, z0b [.int .i64 0, .int .i64 0, .int .i64 0, .int .i64 0] m, ?_⟩;rw [z6];simp
 ·refine z18 ?_
  refine zhC ?_;refine ⟨.inr rfl, _, zh, none, ⟨stp, rfl, rfl⟩, Ext.refl, fun b t h => by cases h⟩
def zcQ (H : Heap) (v : Value) (ls : List (Value × List (R4))) : Prop :=
 ∃ a, v = .slice (some ⟨a, 0, none⟩) ls.length ls.length ∧ H a = some (.cells (ls.map (·.1)) 1 none false (some 26)) ∧ ∀ x ∈ ls, AtO H x.1 x.2
def z1w (ls : List (Value × List (R4))) : List (R4) := ls.flatMap (·.2)
theorem z6k (ls : List (Value × List (R4))) {i : Nat} (h : i < ls.length) : z1w (ls.take (i + 1)) = z1w (ls.take i) ++ ls[i].2 := by
 unfold z1w;rw [List.take_add_one, List.getElem?_eq_getElem h, Option.toList_some, List.flatMap_append];simp
theorem zhd (W0 : World) {nx : Nat} {H : Heap} {v : Value} {ls : List (Value × List (R4))} (hr : zcQ H v ls) (hm : (z1w ls).length ≤ 100000) (hl : ls.length ≤ 100) :
  ACalls Tryz.prog W0 67 [v] nx H fun v nx' H' => ∃ ob, zck H' ob v (z1w ls) ∧ z45 nx H nx' H' ob := by
 obtain ⟨a, rfl, hH, hrows⟩ := hr;refine ze (fn := Tryz.f67) (c := _) Tryz.func67 rfl (fun tm n hn0 htm => ?_);have e0 : tm 0 = .slice (some ⟨a, 0, none⟩) ls.length ls.length := htm 0;clear htm;replace hn0 : n = 36 := hn0;refine Trip.ok fun hok => ?_;replace hok : ∀ id o, H id = some o → id < nx := hok
 have hcell : ∀ (G : Heap), G a = some (.cells (ls.map (·.1)) 1 none false (some 26)) → ∀ i (h : i < ls.length), zb G ⟨a, 0 + (i : Int).toNat * 1, none⟩ ls[i].1 := fun G hG i h => by
  have := z2n (off := i) hG (by simpa using h);simpa using this
 have hlen : ∀ i, i ≤ ls.length → (z1w (ls.take i)).length ≤ (z1w ls).length := fun i hi => by
  have h1 : z1w ls = z1w (ls.take i) ++ z1w (ls.drop i) := by
   unfold z1w;rw [← List.flatMap_append, List.take_append_drop]
  rw [h1, List.length_append]; omega
 refine z8d ?_;refine zu (fun (i : Nat) st => ∃ (tm : Nat → Value), st = ⟨tm, n, H, nx⟩ ∧ tm 0 = .slice (some ⟨a, 0, none⟩) ls.length ls.length ∧ tm 9 = .slice (some ⟨a, 0, none⟩) ls.length ls.length ∧ tm 10 = .int .i64 ls.length ∧ tm 11 = .int .i64 i ∧ tm 3 = .int .i64 (z1w (ls.take i)).length ∧ i ≤ ls.length) (fun i => ls.length - i) 0 ?_ ?_
 ·exact ⟨_, rfl, stp, stp, stp, stp, by simp [z9, z1w], by omega⟩
 ·clear e0
  rintro i st ⟨tm, rfl, e0, e9, e10, e11, e3, hi⟩;by_cases hlt : i < ls.length
  ·have hc := hcell H hH i hlt
   obtain ⟨ua, uc, hu⟩ := (hrows _ (List.getElem_mem hlt)).slice;have hst := z6k ls hlt;have hl1 := hlen (i + 1) (by omega);rw [hst, List.length_append] at hl1;rw [hu] at hc;generalize ls[i].2 = us at *;generalize z1w (ls.take i) = zs at *;refine zhE ?_;exact ⟨i + 1, ⟨_, rfl, stp, stp, stp, stp, by rw [hst]; simp [z9, *], by omega⟩, by omega⟩
  ·have hin : i = ls.length := by omega
   subst hin;rw [List.take_length] at e3;refine zg8 ?_;refine zdJ ?_;refine OpsL.c2 (hf := za9) (hc := (zh4 W0 (m := (z1w ls).length) (by omega)).ok) (h := ?_);rintro gv nx1 H1 ⟨⟨ob1, ho1, hx1, hob1⟩, hok1⟩;refine z8d ?_;refine zu (fun (i : Nat) st => ∃ (tm : Nat → Value) (nx' : Nat) (H' : Heap) (ob : Option (Nat × Nat)) (v : Value), st = ⟨tm, n, H', nx'⟩ ∧ z45 nx H nx' H' ob ∧ (∀ id o, H' id = some o → id < nx') ∧ zck H' ob v (z1w (ls.take i)) ∧ tm 25 = .slice (some ⟨a, 0, none⟩) ls.length ls.length ∧ tm 26 = .int .i64 ls.length ∧ tm 27 = .int .i64 i ∧ tm 6 = v ∧ i ≤ ls.length) (fun i => ls.length - i) 0 ?_ ?_
   ·exact ⟨_, _, _, ob1, gv, rfl, ⟨hx1, hob1⟩, hok1, ho1, stp, stp, stp, stp, by omega⟩
   ·clear e0 e9 e10 e11 e3 ho1 hx1 hob1 hok1
    rintro i st ⟨tm, nx', H', ob, v, rfl, ⟨hx, hob⟩, hok', hown, e25, e26, e27, e6, hi⟩;by_cases hlt : i < ls.length
    ·have hst := z6k ls hlt
     have hl1 := hlen (i + 1) (by omega);rw [hst, List.length_append] at hl1;have hrow := (hrows _ (List.getElem_mem hlt)).ext hx hok;have hc := hcell H' (by rw [hx.2 a (hok _ _ hH)]; exact hH) i hlt;obtain ⟨ua, uc, hu⟩ := hrow.slice;rw [hu] at hc hrow;generalize ls[i].2 = us at *;generalize z1w (ls.take i) = zs at *;refine zeD ?_;refine zR (bytes := 32) (z := [.int .i64 0, .int .i64 0, .int .i64 0, .int .i64 0]) z04 z5C (by omega) (by subst_vars; decide) hown hrow evd evd (fun b t h => (hob b t h).2) (by exact rfl) (by exact rfl) (by exact rfl) (by exact rfl) (by exact rfl) rfl (by omega) (by omega) ?_;intro v' nx2 H2 ob2 hA;refine zg7 ?_;refine ⟨i + 1, ⟨_, nx2, H2, ob2, v', rfl, ⟨⟨by have := hx.1; have := hA.le; omega, fun j hj => ?_⟩, fun b t h => ?_⟩, ?_, by rw [hst]; exact hA.own, stp, stp, stp, stp, by omega⟩, by omega⟩
     ·rw [hA.same j (by have := hx.1; omega) (fun b t h => by have := (hob b t h).1; omega), hx.2 j hj]
     ·obtain ⟨q1, q2⟩ := hA.blk b t h
      refine ⟨?_, q1⟩;rcases q2 with rfl | ⟨t', h'⟩
      ·exact hx.1
      ·exact (hob _ _ h').1
     ·exact hA.ok (fun b t h => (hob b t h).2) hok'
    ·have hin : i = ls.length := by omega
     subst hin;rw [List.take_length] at hown;refine zg8 ?_;refine z9w ?_;exact ⟨.inr rfl, _, zh, ob, stp, hx, hob⟩
end Go.Proofs.YteplpegfcpmflaaGreat
namespace Go.Proofs.YteplpegfcpmflaaGreat
open Go.RowKit Go.Am
attribute [local irreducible] aop OpsL Trip zC z36 OpsK OpsR
theorem zai : Am.z0F Tryz.prog 69 := ⟨Tryz.f69, Tryz.func69, by kernel_rfl, by kernel_rfl⟩
theorem zhh (W0 : World) {nx : Nat} {H : Heap} {ob : Option (Nat × Nat)} {v : Value} {l : List (R4)} (h : zck H ob v l) (hl : l.length ≤ 100000) :
  ACalls Tryz.prog W0 69 [v] nx H fun v' nx' H' => nx' = nx ∧ zck H' ob v' (z34 l) ∧ ∀ i, (∀ b t, ob = some (b, t) → i ≠ b) → H' i = H i := by
 have hrow := h.at z04;obtain ⟨va, vc, rfl⟩ := hrow.slice;refine ze (fn := Tryz.f69) (c := _) Tryz.func69 rfl (fun tm n hn0 htm => ?_);have e0 : tm 0 = .slice va l.length vc := htm 0;clear htm;replace hn0 : n = 61 := hn0;by_cases hsh : l.length < 2
 ·repeat (first | (refine z7 (by first | exact omv | exact z0x | exact z1s) ?_) | refine Trip.seq ?_ | refine zd ?_ | (refine OpsL.nil ?_; (change Trip _ _ _ _ _)))
  refine z0c ?_;refine z6V ?_;refine zdC ?_;exact ⟨.inr rfl, _, zh, rfl, by rw [z3S l (by omega)]; simp [z9, *], fun _ _ => rfl⟩
 ·obtain ⟨b, t, rfl⟩ : ∃ b t, ob = some (b, t) := by
   cases ob with
   | none => obtain ⟨_, _, h2⟩ := h; omega
   | some bt => exact ⟨_, _, rfl⟩
  obtain ⟨hv, _, rest, hH⟩ := h;obtain ⟨rfl, _, rfl⟩ := Value.slice.inj hv
  have hS : ∀ (G : Heap) (A rest : List Value), G b = some (.cells (A ++ rest) 4 (some t) false (some 43)) → ∀ k, k < l.length → z0P Tryz.prog G 26 (.slice (some ⟨b, 0, some t⟩) l.length l.length) (some (.int .i64 k)) none none = some (.slice (some ⟨b, 0 + k * 4, some t⟩) (l.length - k) (l.length - k)) := fun G A rest hG k hk => by
   have := zQ (P := Tryz.prog) (H := G) (t := 26) (el := 43) (sz := 4) (a := ⟨b, 0, some t⟩) (len := l.length) (cap := l.length) (l := k) (h := l.length) (tg := t) (lo := some (.int .i64 k)) (hi := none) (by exact rfl) (by exact rfl) hG rfl rfl rfl (.inr ⟨.i64, rfl⟩) (.inl ⟨rfl, rfl⟩) (by omega) (Nat.le_refl _);rw [if_neg (by omega)] at this;exact this
  have hS2 : ∀ (G : Heap) (A rest : List Value), G b = some (.cells (A ++ rest) 4 (some t) false (some 43)) → ∀ k, k ≤ l.length → z0P Tryz.prog G 26 (.slice (some ⟨b, 0, some t⟩) l.length l.length) none (some (.int .i64 k)) none = some (.slice (some ⟨b, 0, some t⟩) k k) := fun G A rest hG k hk => by
   have := zQ (P := Tryz.prog) (H := G) (t := 26) (el := 43) (sz := 4) (a := ⟨b, 0, some t⟩) (len := l.length) (cap := l.length) (l := 0) (h := k) (tg := t) (lo := none) (hi := some (.int .i64 k)) (by exact rfl) (by exact rfl) hG rfl rfl rfl (.inl ⟨rfl, rfl⟩) (.inr ⟨.i64, rfl⟩) (Nat.zero_le _) hk;simpa using this
  refine zhz ?_;refine zu (fun (k : Nat) st => ∃ (tm : Nat → Value), st = ⟨tm, n, H, nx⟩ ∧ tm 0 = .slice (some ⟨b, 0, some t⟩) l.length l.length ∧ tm 3 = .int .i64 k ∧ 1 ≤ k ∧ k ≤ l.length ∧ ∀ i (h : i < l.length), 0 < i → i < k → l[i - 1] ≠ l[i]) (fun k => l.length - k) 1 ?_ ?_
  ·exact ⟨_, rfl, stp, by simp [z9], by omega, by omega, fun i h h0 h1 => by omega⟩
  ·clear e0
   rintro k st ⟨tm, rfl, e0, e3, hk1, hk2, hne⟩;by_cases hlt : k < l.length
   ·repeat (first | (refine z7 (by first | exact omv | exact z1s) ?_) | refine Trip.seq ?_ | refine zd ?_)
    refine zaA ?_;have g1 := z0l z04 hH hlt;have g2 := z0l z04 hH (show k - 1 < l.length by omega);refine Trip.mono (Q := fun e st => e = .normal ∧ ∃ (tm' : Nat → Value), st = ⟨tm', n, H, nx⟩ ∧ tm' 25 = .bool (decide (l[k] = l[k - 1])) ∧ tm' 0 = .slice (some ⟨b, 0, some t⟩) l.length l.length ∧ tm' 3 = .int .i64 k) ?_ ?_
    ·refine OpsK.drawn (K := fun _ _ => True) z1j krf krf trivial ?_
     refine zdy ?_;refine z7 (za (k := 4) (vs := z0i l[k]) evr (by exact rfl) rfl (by exact rfl) (by show z0L H ⟨b, 0 + (k : Int).toNat * 4, some t⟩ 4 = _; rw [Int.toNat_natCast]; exact g1)) ?_;refine zez ?_;refine z7 (za (k := 4) (vs := z0i l[k - 1]) evr (by exact rfl) rfl (by exact rfl) (by show z0L H ⟨b, 0 + ((k : Int) - 1).toNat * 4, some t⟩ 4 = _; rw [show ((k : Int) - 1).toNat = k - 1 by omega]; exact g2)) ?_;refine z9u ?_;refine z7 (z7I (r := decide (l[k] = l[k - 1])) evd evd krf (eqO _ _ _ _ rfl)) ?_;refine z5q ?_;exact ⟨rfl, _, rfl, by simp [z9], stp, stp⟩
    ·rintro e st ⟨rfl, tm', rfl, e25, e0, e3⟩
     dsimp only;clear g1 g2;by_cases heq : l[k] = l[k - 1]
     ·rw [decide_eq_true heq] at e25
      repeat fail
      refine z8g ?_;refine z7 (zS (a := some (.int .i64 k)) (b := none) (c := none) evd (by simp only [z0G, ASt.ev, z9, ↓reduceIte, reduceIte, Option.some.injEq, Nat.reduceEqDiff, Option.map_some, *]) rfl rfl (hS H _ _ hH k hlt)) ?_;refine z6y ?_
      have hd0 : z34 (l.take (k + 1)) = l.take k := by
       rw [z1k l (by omega) hlt, if_pos heq.symm];exact z21 l k (by omega) (fun i hi a c => hne i hi a c)
      refine zu (fun (k2 : Nat) st => ∃ (tm : Nat → Value) (H' : Heap) (A : List (R4)) (rest : List Value) (kk : Nat), st = ⟨tm, n, H', nx⟩ ∧ H' b = some (.cells (A.flatMap z0i ++ rest) 4 (some t) false (some 43)) ∧ A.length = l.length ∧ (∀ i, i ≠ b → H' i = H i) ∧ tm 0 = .slice (some ⟨b, 0, some t⟩) l.length l.length ∧ tm 3 = .int .i64 kk ∧ tm 4 = .slice (some ⟨b, 0 + k * 4, some t⟩) (l.length - k) (l.length - k) ∧ tm 5 = .int .i64 k2 ∧
       1 ≤ kk ∧ kk ≤ k + k2 - 1 ∧ 1 ≤ k2 ∧ k2 ≤ l.length - k ∧ A.take kk = z34 (l.take (k + k2)) ∧ A.drop (k + k2 - 1) = l.drop (k + k2 - 1)) (fun k2 => l.length - k - k2) 1 ?_ ?_
      ·exact ⟨_, H, l, rest, k, rfl, hH, rfl, fun _ _ => rfl, stp, stp, stp, stp, by omega, by omega, by omega, by omega, hd0.symm, rfl⟩
      ·clear e0 e3 e25
       rintro k2 st ⟨tm, H', A, rest', kk, rfl, hG, hAl, hsame, e0, e3, e4, e5, k1, k3, k4, k5, hta, hda⟩;by_cases hlt2 : k + k2 < l.length
       ·have hA1 : A[k + k2]'(by omega) = l[k + k2] := by
         have : (A.drop (k + k2 - 1))[1]? = (l.drop (k + k2 - 1))[1]? := by rw [hda]
         rw [List.getElem?_drop, List.getElem?_drop, show k + k2 - 1 + 1 = k + k2 by omega, List.getElem?_eq_getElem (by omega), List.getElem?_eq_getElem hlt2] at this;exact Option.some.inj this
        have hA2 : A[k + k2 - 1]'(by omega) = l[k + k2 - 1] := by
         have : (A.drop (k + k2 - 1))[0]? = (l.drop (k + k2 - 1))[0]? := by rw [hda]
         rw [List.getElem?_drop, List.getElem?_drop, Nat.add_zero, List.getElem?_eq_getElem (by omega), List.getElem?_eq_getElem (by omega)] at this;exact Option.some.inj this
        have hstep := z1k l (m := k + k2) (by omega) hlt2
        have hdn : A.drop (k + (k2 + 1) - 1) = l.drop (k + (k2 + 1) - 1) := by
         have := congrArg (List.drop 1) hda;rw [List.drop_drop, List.drop_drop] at this;rw [show k + (k2 + 1) - 1 = k + k2 - 1 + 1 by omega]; exact this
        have g1 := z0l z04 hG (show k + k2 < A.length by omega);have g2 := z0l z04 hG (show k + k2 - 1 < A.length by omega);rw [hA1] at g1;rw [hA2] at g2
        replace g1 : z0L H' ⟨b, 0 + k * 4 + (k2 : Int).toNat * 4, some t⟩ 4 = some (z0i l[k + k2]) := by
         rw [Int.toNat_natCast, show 0 + k * 4 + k2 * 4 = 0 + (k + k2) * 4 by omega]; exact g1
        replace g2 : z0L H' ⟨b, 0 + k * 4 + ((k2 : Int) - 1).toNat * 4, some t⟩ 4 = some (z0i l[k + k2 - 1]) := by
         rw [show 0 + k * 4 + ((k2 : Int) - 1).toNat * 4 = 0 + (k + k2 - 1) * 4 by omega]; exact g2
        refine z6t ?_;refine zaA ?_;refine Trip.mono (Q := fun e st => e = .normal ∧ ∃ (tm' : Nat → Value), st = ⟨tm', n, H', nx⟩ ∧ tm' 44 = .bool (!decide (l[k + k2] = l[k + k2 - 1])) ∧ tm' 0 = .slice (some ⟨b, 0, some t⟩) l.length l.length ∧ tm' 3 = .int .i64 kk ∧ tm' 4 = .slice (some ⟨b, 0 + k * 4, some t⟩) (l.length - k) (l.length - k) ∧ tm' 5 = .int .i64 k2) ?_ ?_
        ·refine OpsK.drawn (K := fun _ _ => True) z1j krf krf trivial ?_
         refine zdy ?_;refine z7 (za (k := 4) (vs := z0i l[k + k2]) evr (by exact rfl) rfl (by exact rfl) g1) ?_;refine zez ?_;refine z7 (za (k := 4) (vs := z0i l[k + k2 - 1]) evr (by exact rfl) rfl (by exact rfl) g2) ?_;refine z9u ?_;refine z7 (z3U (r := decide (l[k + k2] = l[k + k2 - 1])) evd evd krf (eqO _ _ _ _ rfl)) ?_;refine z5q ?_;exact ⟨rfl, _, rfl, by simp [z9], stp, stp, stp, stp⟩
        ·rintro e st ⟨rfl, tm', rfl, e44, e0, e3, e4, e5⟩
         dsimp only;by_cases he2 : l[k + k2] = l[k + k2 - 1]
         ·rw [decide_eq_true he2] at e44
          rw [if_pos he2.symm] at hstep
          repeat fail
          refine zg2 ?_;exact ⟨k2 + 1, ⟨_, H', A, rest', kk, rfl, hG, hAl, hsame, stp, stp, stp, stp, k1, by omega, by omega, by omega, by rw [hta, ← hstep]; rfl, hdn⟩, by omega⟩
         ·rw [decide_eq_false he2] at e44
          rw [if_neg (fun h => he2 h.symm)] at hstep
          repeat fail
          refine z05 ?_;refine zhp ?_;refine z7 (za (k := 4) (vs := z0i l[k + k2]) evr (by exact rfl) rfl (by exact rfl) g1) ?_;refine z6E ?_
          refine OpsL.upd (zp (u := .agg (z0i l[k + k2]).toArray) (o := .cells ((A.set kk l[k + k2]).flatMap z0i ++ rest') 4 (some t) false (some 43)) evr evd (by exact rfl) rfl (by
           have := z4G (x := l[k + k2]) z04 z5C hG (show kk < A.length by omega);show z3Q H' ⟨b, 0 + (kk : Int).toNat * 4, some t⟩ (z0i l[k + k2]) = _;rw [Int.toNat_natCast]; exact this)) ?_
          refine zg7 ?_;refine ⟨k2 + 1, ⟨_, _, A.set kk l[k + k2], rest', kk + 1, rfl, z6, by rw [List.length_set]; exact hAl, fun i hi => by show Heap.put H' b _ i = _; rw [z5 hi]; exact hsame i hi, stp, stp, stp, stp, by omega, by omega, by omega, by omega, ?_, ?_⟩, by omega⟩
          ·rw [show k + (k2 + 1) = k + k2 + 1 by omega, hstep, ← hta, List.take_add_one, List.getElem?_set_self (by omega), List.take_set_of_le (Nat.le_refl _)]
           rfl
          ·rw [List.drop_set_of_lt (by omega)]
           exact hdn
       ·have hk2 : k2 = l.length - k := by omega
        rw [show k + k2 = l.length by omega, List.take_length] at hta;refine z6t ?_;refine z8c ?_;refine zdJ ?_;refine z7 (zS (a := some (.int .i64 kk)) (b := none) (c := none) evd (by simp only [z0G, ASt.ev, z9, ↓reduceIte, reduceIte, Option.some.injEq, Nat.reduceEqDiff, Option.map_some, *]) rfl rfl (hS H' _ _ hG kk (by omega))) ?_;obtain ⟨rest2, hend⟩ := z5y (k := kk) (z := [.int .i64 0, .int .i64 0, .int .i64 0, .int .i64 0]) z04 rfl rfl hG (by omega);rw [hAl, hta] at hend;refine OpsL.clear (z := [.int .i64 0, .int .i64 0, .int .i64 0, .int .i64 0]) evr (by exact rfl) (by exact rfl) (by omega) hend ?_;refine z7i ?_;have hlen : (z34 l).length = kk := by rw [← hta, List.length_take]; omega
        refine z7 (zS (a := none) (b := some (.int .i64 kk)) (c := none) evd rfl (by simp only [z0G, ASt.ev, z9, ↓reduceIte, reduceIte, Option.some.injEq, Nat.reduceEqDiff, Option.map_some, *]) rfl (hS2 _ _ rest2 z6 kk (by omega))) ?_;refine zhu ?_;refine ⟨.inr rfl, _, zh, rfl, ?_, fun i hi => ?_⟩
        ·refine ⟨by simp [z9, hlen], by rw [z03 z04], rest2, z6⟩
        ·show Heap.put H' b _ i = _
         rw [z5 (hi b t rfl)];exact hsame i (hi b t rfl)
     ·rw [decide_eq_false heq] at e25
      repeat fail
      refine zg2 ?_;refine ⟨k + 1, ⟨_, rfl, stp, stp, by omega, by omega, fun i hi h0 h1 => ?_⟩, by omega⟩;by_cases hik : i = k
      ·subst hik
       exact fun hh => heq hh.symm
      ·exact hne i hi h0 (by omega)
   ·repeat (first | (refine z7 (by first | exact omv | exact z1s) ?_) | refine Trip.seq ?_ | refine zd ?_)
    refine z8c ?_;refine z9w ?_;have hd := z21 l l.length (Nat.le_refl _) (fun i hi a c => hne i hi a (by omega));rw [List.take_length] at hd;refine ⟨.inr rfl, _, zh, rfl, ?_, fun _ _ => rfl⟩;rw [hd];exact ⟨stp, by rw [z03 z04], rest, hH⟩
end Go.Proofs.YteplpegfcpmflaaGreat
namespace Go.Proofs.YteplpegfcpmflaaGreat
open Go.RowKit Go.Am
open Go.Sort hiding Below
attribute [local irreducible] aop OpsL Trip zC z36 OpsK OpsR
theorem z7E : Am.z0F Tryz.prog 70 := ⟨Tryz.f70, Tryz.func70, by kernel_rfl, by kernel_rfl⟩
theorem zaQ {xs : List Int} : ∀ i, i ≤ xs.length → (∀ j (h : j < xs.length), j < i → xs[j] = 0) → orF xs = orF (xs.drop i) := by
 induction xs with
 | nil => intro i _ _; simp
 | cons x xs ih =>
  intro i hi h;cases i with
  | zero => rfl
  | succ i =>
   have h0 : x = 0 := h 0 (by simp) (Nat.succ_pos _);rw [List.drop_succ_cons, ← ih i (by simpa using hi) (fun j hj hji => h (j + 1) (by simpa using hj) (by omega))];simp [orF, h0]
theorem orC (W0 : World) {nx : Nat} {H : Heap} {v : Value} {xs : List Int} (hr : IntsAt H v xs) (hm : xs.length ≤ 1000) :
  ACalls Tryz.prog W0 70 [v] nx H fun v nx' H' => v = .int .i64 (orF xs) ∧ nx' = nx ∧ H' = H := by
 obtain ⟨va, vc, rfl⟩ := hr.slice;refine ze (fn := Tryz.f70) (c := _) Tryz.func70 rfl (fun tm n hn0 htm => ?_);have e0 : tm 0 = .slice va xs.length vc := htm 0;clear htm;replace hn0 : n = 18 := hn0;refine z8d ?_;refine zu (fun (i : Nat) st => ∃ (tm : Nat → Value), st = ⟨tm, n, H, nx⟩ ∧ tm 3 = .int .i64 0 ∧ tm 6 = .slice va xs.length vc ∧ tm 7 = .int .i64 xs.length ∧ tm 8 = .int .i64 i ∧ i ≤ xs.length ∧ ∀ j (h : j < xs.length), j < i → xs[j] = 0) (fun i => xs.length - i) 0 ?_ ?_
 ·exact ⟨_, rfl, stp, stp, stp, stp, by omega, fun j _ h => by omega⟩
 ·clear e0
  rintro i st ⟨tm, rfl, e3, e6, e7, e8, hi, hz⟩;by_cases hlt : i < xs.length
  ·obtain ⟨p, rfl, g⟩ := z0k hr hlt
   refine zeD ?_;by_cases hx : xs[i] = 0
   ·refine z16 ?_ (c := hx)
    refine z7j ?_;refine zbc ?_;refine ⟨i + 1, ⟨_, rfl, stp, stp, stp, stp, by omega, fun j hj hji => ?_⟩, by omega⟩;by_cases e : j = i
    ·subst e; exact hx
    ·exact hz j hj (by omega)
   ·refine z1l ?_ (c := hx)
    refine z6V ?_
    repeat (first | (refine z7 (by first | exact omv | exact z0x) ?_) | refine Trip.seq ?_ | refine zd ?_ | (refine Trip.ret ?_; ((repeat (refine z1i ?_)); dsimp only)) | (refine OpsL.nil ?_; (change Trip _ _ _ _ _)))
    refine ⟨.inr rfl, _, zh, ?_, rfl, rfl⟩;rw [zaQ i hi hz, List.drop_eq_getElem_cons hlt];simp [z9, orF, hx]
  ·have hin : i = xs.length := by omega
   subst hin;refine zg8 ?_;refine z9w ?_;refine ⟨.inr rfl, _, zh, ?_, rfl, rfl⟩;rw [zaQ xs.length (Nat.le_refl _) hz];simp [z9, orF, *]
theorem zfP (W0 : World) {nx : Nat} {H : Heap} (x y : R4) :
  ACalls Tryz.prog W0 47 [.agg (z0i x).toArray, .agg (z0i y).toArray] nx H fun v nx' H' => v = .int .i64 (zbf x y) ∧ Ext nx H nx' H' := by
 refine ze (fn := Tryz.f47) (c := _) Tryz.func47 rfl (fun tm n hn0 htm => ?_);have e0 : tm 0 = .agg (z0i x).toArray := htm 0;have e1 : tm 1 = .agg (z0i y).toArray := htm 1;clear htm;replace hn0 : n = 27 := hn0;refine Trip.ok fun hok => ?_;replace hok : ∀ id o, H id = some o → id < nx := hok;refine z5o ?_;refine OpsL.new (by subst_vars; decide) (zW evr) ?_;refine OpsL.new (by subst_vars; decide) (zW evr) ?_;obtain ⟨G, hG⟩ : ∃ G, G = (H.put nx (.cells (Value.agg (z0i x).toArray).cells.toList 0 none false (some 43))).put (nx + 1) (.cells (Value.agg (z0i y).toArray).cells.toList 0 none false (some 43)) := ⟨_, rfl⟩;have hx0 : Ext nx H (nx + 1 + 1) G := by rw [hG]; exact zg.trans zg
 have hokG : ∀ id o, G id = some o → id < nx + 1 + 1 := by rw [hG]; exact zB (zB hok)
 have gx : G nx = some (.cells (z0i x) 0 none false (some 43)) := by rw [hG, z5 (by omega), z6]; rfl
 have gy : G (nx + 1) = some (.cells (z0i y) 0 none false (some 43)) := by rw [hG, z6]; rfl
 rw [← hG];clear hG;have cx0 : zb G ⟨nx, 0 + 0, none⟩ (.int .i64 x.1) := by rw [Nat.zero_add]; exact z8 gx rfl
 have cy0 : zb G ⟨nx + 1, 0 + 0, none⟩ (.int .i64 y.1) := by rw [Nat.zero_add]; exact z8 gy rfl
 have cx1 : zb G ⟨nx, 0 + 1, none⟩ (.int .i64 x.2.1) := by rw [Nat.zero_add]; exact z8 gx rfl
 have cy1 : zb G ⟨nx + 1, 0 + 1, none⟩ (.int .i64 y.2.1) := by rw [Nat.zero_add]; exact z8 gy rfl
 have cx2 : zb G ⟨nx, 0 + 2, none⟩ (.int .i64 x.2.2.1) := by rw [Nat.zero_add]; exact z8 gx rfl
 have cy2 : zb G ⟨nx + 1, 0 + 2, none⟩ (.int .i64 y.2.2.1) := by rw [Nat.zero_add]; exact z8 gy rfl
 have cx3 : zb G ⟨nx, 0 + 3, none⟩ (.int .i64 x.2.2.2) := by rw [Nat.zero_add]; exact z8 gx rfl
 have cy3 : zb G ⟨nx + 1, 0 + 3, none⟩ (.int .i64 y.2.2.2) := by rw [Nat.zero_add]; exact z8 gy rfl
 clear gx gy;refine zfZ ?_;refine OpsR.drawn [4, 9, 14, 19, 20, 21] (K := fun nx1 H1 => Ext (nx + 1 + 1) G nx1 H1) z1j krf krf [0, 1, 2, 3, 5, 6, 7, 8, 10, 11, 12, 13, 15, 16, 17, 18, 4, 9, 14, 19, 20, 21, 22] krf Ext.refl ?_;refine zg3 ?_;refine zD (v := .int .i64 x.1) rfl krf (by subst_vars; decide) Ext.refl (fun H2 nx2 hK => zq evr (by exact rfl) rfl (zm hK hokG cx0)) ?_;refine zg3 ?_;refine zD (v := .int .i64 y.1) rfl krf (by subst_vars; decide) Ext.refl (fun H2 nx2 hK => zq evr (by exact rfl) rfl (zm hK hokG cy0)) ?_;refine zg3 ?_;refine zD (v := .int .i64 x.2.1) rfl krf (by subst_vars; decide) Ext.refl (fun H2 nx2 hK => zq evr (by exact rfl) rfl (zm hK hokG cx1)) ?_;refine zg3 ?_;refine zD (v := .int .i64 y.2.1) rfl krf (by subst_vars; decide) Ext.refl (fun H2 nx2 hK => zq evr (by exact rfl) rfl (zm hK hokG cy1)) ?_;refine zg3 ?_;refine zD (v := .int .i64 x.2.2.1) rfl krf (by subst_vars; decide) Ext.refl (fun H2 nx2 hK => zq evr (by exact rfl) rfl (zm hK hokG cx2)) ?_;refine zg3 ?_;refine zD (v := .int .i64 y.2.2.1) rfl krf (by subst_vars; decide) Ext.refl (fun H2 nx2 hK => zq evr (by exact rfl) rfl (zm hK hokG cy2)) ?_;refine zg3 ?_;refine zD (v := .int .i64 x.2.2.2) rfl krf (by subst_vars; decide) Ext.refl (fun H2 nx2 hK => zq evr (by exact rfl) rfl (zm hK hokG cx3)) ?_;refine zg3 ?_;refine zD (v := .int .i64 y.2.2.2) rfl krf (by subst_vars; decide) Ext.refl (fun H2 nx2 hK => zq evr (by exact rfl) rfl (zm hK hokG cy3)) ?_;refine zZ krf (zH rfl rfl (by subst_vars; decide) (by exact rfl) evd evd z0p (z5M W0 x.1 y.1) ?_);rintro v3 nx3 H3 ⟨rfl, rfl, hG3⟩;have hG3' := hG3.symm;subst hG3';refine ⟨Ext.refl, ?_⟩;refine zZ krf (zH rfl rfl (by subst_vars; decide) (by exact rfl) evd evd z0p (z5M W0 x.2.1 y.2.1) ?_);rintro v4 nx4 H4 ⟨rfl, rfl, hG4⟩;have hG4' := hG4.symm;subst hG4';refine ⟨Ext.refl, ?_⟩;refine zZ krf (zH rfl rfl (by subst_vars; decide) (by exact rfl) evd evd z0p (z5M W0 x.2.2.1 y.2.2.1) ?_);rintro v5 nx5 H5 ⟨rfl, rfl, hG5⟩;have hG5' := hG5.symm;subst hG5';refine ⟨Ext.refl, ?_⟩;refine zZ krf (zH rfl rfl (by subst_vars; decide) (by exact rfl) evd evd z0p (z5M W0 x.2.2.2 y.2.2.2) ?_);rintro v6 nx6 H6 ⟨rfl, rfl, hG6⟩;have hG6' := hG6.symm;subst hG6';refine ⟨Ext.refl, ?_⟩;refine z0K ?_;refine OpsL.new (by subst_vars; decide) (zl (l := [(0, .int .i64 (Lib.compareInt x.1 y.1)), (1, .int .i64 (Lib.compareInt x.2.1 y.2.1)), (2, .int .i64 (Lib.compareInt x.2.2.1 y.2.2.1)), (3, .int .i64 (Lib.compareInt x.2.2.2 y.2.2.2))]) (r := (.slice (some ⟨nx + 1 + 1, 0, none⟩) 4 4, .new (.cells [.int .i64 (Lib.compareInt x.1 y.1), .int .i64 (Lib.compareInt x.2.1 y.2.1), .int .i64 (Lib.compareInt x.2.2.1 y.2.2.1), .int .i64 (Lib.compareInt x.2.2.2 y.2.2.2)] 1 none false (some 3)))) (by simp only [zt, ASt.ev, z9, ↓reduceIte, reduceIte, Option.some.injEq, Nat.reduceEqDiff, *]) krf) ?_
 have hone : IntsAt (G.put (nx + 1 + 1) (.cells [.int .i64 (Lib.compareInt x.1 y.1), .int .i64 (Lib.compareInt x.2.1 y.2.1), .int .i64 (Lib.compareInt x.2.2.1 y.2.2.1), .int .i64 (Lib.compareInt x.2.2.2 y.2.2.2)] 1 none false (some 3))) (.slice (some ⟨nx + 1 + 1, 0, none⟩) 4 4) [Lib.compareInt x.1 y.1, Lib.compareInt x.2.1 y.2.1, Lib.compareInt x.2.2.1 y.2.2.1, Lib.compareInt x.2.2.2 y.2.2.2] := by
  have hcell : (G.put (nx + 1 + 1) (.cells [.int .i64 (Lib.compareInt x.1 y.1), .int .i64 (Lib.compareInt x.2.1 y.2.1), .int .i64 (Lib.compareInt x.2.2.1 y.2.2.1), .int .i64 (Lib.compareInt x.2.2.2 y.2.2.2)] 1 none false (some 3))) (nx + 1 + 1) = some (.cells (([Lib.compareInt x.1 y.1, Lib.compareInt x.2.1 y.2.1, Lib.compareInt x.2.2.1 y.2.2.1, Lib.compareInt x.2.2.2 y.2.2.2] : List Int).map (.int .i64 ·)) 1 none false (some 3)) := z6;refine .inr ⟨⟨nx + 1 + 1, 0, none⟩, 4, rfl, fun j hj => ?_⟩;have := z8 hcell (k := j) (v := .int .i64 (([Lib.compareInt x.1 y.1, Lib.compareInt x.2.1 y.2.1, Lib.compareInt x.2.2.1 y.2.2.1, Lib.compareInt x.2.2.2 y.2.2.2] : List Int)[j])) (by rw [List.getElem?_map, List.getElem?_eq_getElem hj]; rfl);simpa using this
 have hx2 : Ext (nx + 1 + 1) G (nx + 1 + 1 + 1) (G.put (nx + 1 + 1) (.cells [.int .i64 (Lib.compareInt x.1 y.1), .int .i64 (Lib.compareInt x.2.1 y.2.1), .int .i64 (Lib.compareInt x.2.2.1 y.2.2.1), .int .i64 (Lib.compareInt x.2.2.2 y.2.2.2)] 1 none false (some 3))) := zg;generalize G.put (nx + 1 + 1) (.cells [.int .i64 (Lib.compareInt x.1 y.1), .int .i64 (Lib.compareInt x.2.1 y.2.1), .int .i64 (Lib.compareInt x.2.2.1 y.2.2.1), .int .i64 (Lib.compareInt x.2.2.2 y.2.2.2)] 1 none false (some 3)) = G2 at *;refine OpsL.nil ⟨hx2, ?_⟩;refine zZ krf (z3x rfl rfl (by subst_vars; decide) (by exact rfl) evd z7E (orC W0 hone (by simp)) ?_);rintro v9 nx9 H9 ⟨rfl, rfl, h9⟩;have h9' := h9.symm;subst h9';refine ⟨hx2, ?_⟩;refine zcf ?_
 (change Trip _ _ _ _ _)
 refine z8i ?_;exact ⟨.inr rfl, _, zh, by simp [z9, zbf], hx0.trans hx2⟩
theorem z9c (x y : R4) (W : World) : Calls Tryz.prog 47 #[.agg (z0i x).toArray, .agg (z0i y).toArray] W fun e w' => e = .returned (.int .i64 (zbf x y)) ∧ ∃ q os', w' = grow (W.drewN q) os' :=
 z2P (args := [.agg (z0i x).toArray, .agg (z0i y).toArray]) rfl rfl (fun w nx H => ACalls.weaken (zfP w x y) fun _ _ _ h => h.1) W
theorem zej (W0 : World) {nx : Nat} {H : Heap} (x y : R4) :
  ACalls Tryz.prog W0 49 [.agg (z0i x).toArray, .agg (z0i y).toArray] nx H fun v nx' H' => v = .int .i64 (zbf x y) ∧ Ext nx H nx' H' := by
 refine ze (fn := Tryz.f49) (c := _) Tryz.func49 rfl (fun tm n hn0 htm => ?_);have e0 : tm 0 = .agg (z0i x).toArray := htm 0;have e1 : tm 1 = .agg (z0i y).toArray := htm 1;clear htm;replace hn0 : n = 27 := hn0;refine Trip.ok fun hok => ?_;replace hok : ∀ id o, H id = some o → id < nx := hok;refine z5o ?_;refine OpsL.new (by subst_vars; decide) (zW evr) ?_;refine OpsL.new (by subst_vars; decide) (zW evr) ?_;obtain ⟨G, hG⟩ : ∃ G, G = (H.put nx (.cells (Value.agg (z0i x).toArray).cells.toList 0 none false (some 45))).put (nx + 1) (.cells (Value.agg (z0i y).toArray).cells.toList 0 none false (some 45)) := ⟨_, rfl⟩;have hx0 : Ext nx H (nx + 1 + 1) G := by rw [hG]; exact zg.trans zg
 have hokG : ∀ id o, G id = some o → id < nx + 1 + 1 := by rw [hG]; exact zB (zB hok)
 have gx : G nx = some (.cells (z0i x) 0 none false (some 45)) := by rw [hG, z5 (by omega), z6]; rfl
 have gy : G (nx + 1) = some (.cells (z0i y) 0 none false (some 45)) := by rw [hG, z6]; rfl
 rw [← hG];clear hG;have cx0 : zb G ⟨nx, 0 + 0, none⟩ (.int .i64 x.1) := by rw [Nat.zero_add]; exact z8 gx rfl
 have cy0 : zb G ⟨nx + 1, 0 + 0, none⟩ (.int .i64 y.1) := by rw [Nat.zero_add]; exact z8 gy rfl
 have cx1 : zb G ⟨nx, 0 + 1, none⟩ (.int .i64 x.2.1) := by rw [Nat.zero_add]; exact z8 gx rfl
 have cy1 : zb G ⟨nx + 1, 0 + 1, none⟩ (.int .i64 y.2.1) := by rw [Nat.zero_add]; exact z8 gy rfl
 have cx2 : zb G ⟨nx, 0 + 2, none⟩ (.int .i64 x.2.2.1) := by rw [Nat.zero_add]; exact z8 gx rfl
 have cy2 : zb G ⟨nx + 1, 0 + 2, none⟩ (.int .i64 y.2.2.1) := by rw [Nat.zero_add]; exact z8 gy rfl
 have cx3 : zb G ⟨nx, 0 + 3, none⟩ (.int .i64 x.2.2.2) := by rw [Nat.zero_add]; exact z8 gx rfl
 have cy3 : zb G ⟨nx + 1, 0 + 3, none⟩ (.int .i64 y.2.2.2) := by rw [Nat.zero_add]; exact z8 gy rfl
 clear gx gy;refine zfZ ?_;refine OpsR.drawn [4, 9, 14, 19, 20, 21] (K := fun nx1 H1 => Ext (nx + 1 + 1) G nx1 H1) z1j krf krf [0, 1, 2, 3, 5, 6, 7, 8, 10, 11, 12, 13, 15, 16, 17, 18, 4, 9, 14, 19, 20, 21, 22] krf Ext.refl ?_;refine zg3 ?_;refine zD (v := .int .i64 x.1) rfl krf (by subst_vars; decide) Ext.refl (fun H2 nx2 hK => zq evr (by exact rfl) rfl (zm hK hokG cx0)) ?_;refine zg3 ?_;refine zD (v := .int .i64 y.1) rfl krf (by subst_vars; decide) Ext.refl (fun H2 nx2 hK => zq evr (by exact rfl) rfl (zm hK hokG cy0)) ?_;refine zg3 ?_;refine zD (v := .int .i64 x.2.1) rfl krf (by subst_vars; decide) Ext.refl (fun H2 nx2 hK => zq evr (by exact rfl) rfl (zm hK hokG cx1)) ?_;refine zg3 ?_;refine zD (v := .int .i64 y.2.1) rfl krf (by subst_vars; decide) Ext.refl (fun H2 nx2 hK => zq evr (by exact rfl) rfl (zm hK hokG cy1)) ?_;refine zg3 ?_;refine zD (v := .int .i64 x.2.2.1) rfl krf (by subst_vars; decide) Ext.refl (fun H2 nx2 hK => zq evr (by exact rfl) rfl (zm hK hokG cx2)) ?_;refine zg3 ?_;refine zD (v := .int .i64 y.2.2.1) rfl krf (by subst_vars; decide) Ext.refl (fun H2 nx2 hK => zq evr (by exact rfl) rfl (zm hK hokG cy2)) ?_;refine zg3 ?_;refine zD (v := .int .i64 x.2.2.2) rfl krf (by subst_vars; decide) Ext.refl (fun H2 nx2 hK => zq evr (by exact rfl) rfl (zm hK hokG cx3)) ?_;refine zg3 ?_;refine zD (v := .int .i64 y.2.2.2) rfl krf (by subst_vars; decide) Ext.refl (fun H2 nx2 hK => zq evr (by exact rfl) rfl (zm hK hokG cy3)) ?_;refine zZ krf (zH rfl rfl (by subst_vars; decide) (by exact rfl) evd evd z0p (z5M W0 x.1 y.1) ?_);rintro v3 nx3 H3 ⟨rfl, rfl, hG3⟩;have hG3' := hG3.symm;subst hG3';refine ⟨Ext.refl, ?_⟩;refine zZ krf (zH rfl rfl (by subst_vars; decide) (by exact rfl) evd evd z0p (z5M W0 x.2.1 y.2.1) ?_);rintro v4 nx4 H4 ⟨rfl, rfl, hG4⟩;have hG4' := hG4.symm;subst hG4';refine ⟨Ext.refl, ?_⟩;refine zZ krf (zH rfl rfl (by subst_vars; decide) (by exact rfl) evd evd z0p (z5M W0 x.2.2.1 y.2.2.1) ?_);rintro v5 nx5 H5 ⟨rfl, rfl, hG5⟩;have hG5' := hG5.symm;subst hG5';refine ⟨Ext.refl, ?_⟩;refine zZ krf (zH rfl rfl (by subst_vars; decide) (by exact rfl) evd evd z0p (z5M W0 x.2.2.2 y.2.2.2) ?_);rintro v6 nx6 H6 ⟨rfl, rfl, hG6⟩;have hG6' := hG6.symm;subst hG6';refine ⟨Ext.refl, ?_⟩;refine z0K ?_;refine OpsL.new (by subst_vars; decide) (zl (l := [(0, .int .i64 (Lib.compareInt x.1 y.1)), (1, .int .i64 (Lib.compareInt x.2.1 y.2.1)), (2, .int .i64 (Lib.compareInt x.2.2.1 y.2.2.1)), (3, .int .i64 (Lib.compareInt x.2.2.2 y.2.2.2))]) (r := (.slice (some ⟨nx + 1 + 1, 0, none⟩) 4 4, .new (.cells [.int .i64 (Lib.compareInt x.1 y.1), .int .i64 (Lib.compareInt x.2.1 y.2.1), .int .i64 (Lib.compareInt x.2.2.1 y.2.2.1), .int .i64 (Lib.compareInt x.2.2.2 y.2.2.2)] 1 none false (some 3)))) (by simp only [zt, ASt.ev, z9, ↓reduceIte, reduceIte, Option.some.injEq, Nat.reduceEqDiff, *]) krf) ?_
 have hone : IntsAt (G.put (nx + 1 + 1) (.cells [.int .i64 (Lib.compareInt x.1 y.1), .int .i64 (Lib.compareInt x.2.1 y.2.1), .int .i64 (Lib.compareInt x.2.2.1 y.2.2.1), .int .i64 (Lib.compareInt x.2.2.2 y.2.2.2)] 1 none false (some 3))) (.slice (some ⟨nx + 1 + 1, 0, none⟩) 4 4) [Lib.compareInt x.1 y.1, Lib.compareInt x.2.1 y.2.1, Lib.compareInt x.2.2.1 y.2.2.1, Lib.compareInt x.2.2.2 y.2.2.2] := by
  have hcell : (G.put (nx + 1 + 1) (.cells [.int .i64 (Lib.compareInt x.1 y.1), .int .i64 (Lib.compareInt x.2.1 y.2.1), .int .i64 (Lib.compareInt x.2.2.1 y.2.2.1), .int .i64 (Lib.compareInt x.2.2.2 y.2.2.2)] 1 none false (some 3))) (nx + 1 + 1) = some (.cells (([Lib.compareInt x.1 y.1, Lib.compareInt x.2.1 y.2.1, Lib.compareInt x.2.2.1 y.2.2.1, Lib.compareInt x.2.2.2 y.2.2.2] : List Int).map (.int .i64 ·)) 1 none false (some 3)) := z6;refine .inr ⟨⟨nx + 1 + 1, 0, none⟩, 4, rfl, fun j hj => ?_⟩;have := z8 hcell (k := j) (v := .int .i64 (([Lib.compareInt x.1 y.1, Lib.compareInt x.2.1 y.2.1, Lib.compareInt x.2.2.1 y.2.2.1, Lib.compareInt x.2.2.2 y.2.2.2] : List Int)[j])) (by rw [List.getElem?_map, List.getElem?_eq_getElem hj]; rfl);simpa using this
 have hx2 : Ext (nx + 1 + 1) G (nx + 1 + 1 + 1) (G.put (nx + 1 + 1) (.cells [.int .i64 (Lib.compareInt x.1 y.1), .int .i64 (Lib.compareInt x.2.1 y.2.1), .int .i64 (Lib.compareInt x.2.2.1 y.2.2.1), .int .i64 (Lib.compareInt x.2.2.2 y.2.2.2)] 1 none false (some 3))) := zg;generalize G.put (nx + 1 + 1) (.cells [.int .i64 (Lib.compareInt x.1 y.1), .int .i64 (Lib.compareInt x.2.1 y.2.1), .int .i64 (Lib.compareInt x.2.2.1 y.2.2.1), .int .i64 (Lib.compareInt x.2.2.2 y.2.2.2)] 1 none false (some 3)) = G2 at *;refine OpsL.nil ⟨hx2, ?_⟩;refine zZ krf (z3x rfl rfl (by subst_vars; decide) (by exact rfl) evd z7E (orC W0 hone (by simp)) ?_);rintro v9 nx9 H9 ⟨rfl, rfl, h9⟩;have h9' := h9.symm;subst h9';refine ⟨hx2, ?_⟩;refine zcf ?_
 (change Trip _ _ _ _ _)
 refine z8i ?_;exact ⟨.inr rfl, _, zh, by simp [z9, zbf], hx0.trans hx2⟩
theorem z7W (x y : R4) (W : World) : Calls Tryz.prog 49 #[.agg (z0i x).toArray, .agg (z0i y).toArray] W fun e w' => e = .returned (.int .i64 (zbf x y)) ∧ ∃ q os', w' = grow (W.drewN q) os' :=
 z2P (args := [.agg (z0i x).toArray, .agg (z0i y).toArray]) rfl rfl (fun w nx H => ACalls.weaken (zej w x y) fun _ _ _ h => h.1) W
theorem zei (W0 : World) {nx : Nat} {H : Heap} (x y : R3) :
  ACalls Tryz.prog W0 51 [.agg (z1M x).toArray, .agg (z1M y).toArray] nx H fun v nx' H' => v = .int .i64 (zeQ x y) ∧ Ext nx H nx' H' := by
 refine ze (fn := Tryz.f51) (c := _) Tryz.func51 rfl (fun tm n hn0 htm => ?_);have e0 : tm 0 = .agg (z1M x).toArray := htm 0;have e1 : tm 1 = .agg (z1M y).toArray := htm 1;clear htm;replace hn0 : n = 22 := hn0;refine Trip.ok fun hok => ?_;replace hok : ∀ id o, H id = some o → id < nx := hok;refine z5o ?_;refine OpsL.new (by subst_vars; decide) (zW evr) ?_;refine OpsL.new (by subst_vars; decide) (zW evr) ?_;obtain ⟨G, hG⟩ : ∃ G, G = (H.put nx (.cells (Value.agg (z1M x).toArray).cells.toList 0 none false (some 51))).put (nx + 1) (.cells (Value.agg (z1M y).toArray).cells.toList 0 none false (some 51)) := ⟨_, rfl⟩;have hx0 : Ext nx H (nx + 1 + 1) G := by rw [hG]; exact zg.trans zg
 have hokG : ∀ id o, G id = some o → id < nx + 1 + 1 := by rw [hG]; exact zB (zB hok)
 have gx : G nx = some (.cells (z1M x) 0 none false (some 51)) := by rw [hG, z5 (by omega), z6]; rfl
 have gy : G (nx + 1) = some (.cells (z1M y) 0 none false (some 51)) := by rw [hG, z6]; rfl
 rw [← hG];clear hG;have cx0 : zb G ⟨nx, 0 + 0, none⟩ (.int .i64 x.1) := by rw [Nat.zero_add]; exact z8 gx rfl
 have cy0 : zb G ⟨nx + 1, 0 + 0, none⟩ (.int .i64 y.1) := by rw [Nat.zero_add]; exact z8 gy rfl
 have cx1 : zb G ⟨nx, 0 + 1, none⟩ (.int .i64 x.2.1) := by rw [Nat.zero_add]; exact z8 gx rfl
 have cy1 : zb G ⟨nx + 1, 0 + 1, none⟩ (.int .i64 y.2.1) := by rw [Nat.zero_add]; exact z8 gy rfl
 have cx2 : zb G ⟨nx, 0 + 2, none⟩ (.int .i64 x.2.2) := by rw [Nat.zero_add]; exact z8 gx rfl
 have cy2 : zb G ⟨nx + 1, 0 + 2, none⟩ (.int .i64 y.2.2) := by rw [Nat.zero_add]; exact z8 gy rfl
 clear gx gy;refine zfZ ?_;refine OpsR.drawn [4, 9, 14, 15, 16] (K := fun nx1 H1 => Ext (nx + 1 + 1) G nx1 H1) z1j krf krf [0, 1, 2, 3, 5, 6, 7, 8, 10, 11, 12, 13, 4, 9, 14, 15, 16, 17] krf Ext.refl ?_;refine zg3 ?_;refine zD (v := .int .i64 x.1) rfl krf (by subst_vars; decide) Ext.refl (fun H2 nx2 hK => zq evr (by exact rfl) rfl (zm hK hokG cx0)) ?_;refine zg3 ?_;refine zD (v := .int .i64 y.1) rfl krf (by subst_vars; decide) Ext.refl (fun H2 nx2 hK => zq evr (by exact rfl) rfl (zm hK hokG cy0)) ?_;refine zg3 ?_;refine zD (v := .int .i64 x.2.1) rfl krf (by subst_vars; decide) Ext.refl (fun H2 nx2 hK => zq evr (by exact rfl) rfl (zm hK hokG cx1)) ?_;refine zg3 ?_;refine zD (v := .int .i64 y.2.1) rfl krf (by subst_vars; decide) Ext.refl (fun H2 nx2 hK => zq evr (by exact rfl) rfl (zm hK hokG cy1)) ?_;refine zg3 ?_;refine zD (v := .int .i64 x.2.2) rfl krf (by subst_vars; decide) Ext.refl (fun H2 nx2 hK => zq evr (by exact rfl) rfl (zm hK hokG cx2)) ?_;refine zg3 ?_;refine zD (v := .int .i64 y.2.2) rfl krf (by subst_vars; decide) Ext.refl (fun H2 nx2 hK => zq evr (by exact rfl) rfl (zm hK hokG cy2)) ?_;refine zZ krf (zH rfl rfl (by subst_vars; decide) (by exact rfl) evd evd z0p (z5M W0 x.1 y.1) ?_);rintro v3 nx3 H3 ⟨rfl, rfl, hG3⟩;have hG3' := hG3.symm;subst hG3';refine ⟨Ext.refl, ?_⟩;refine zZ krf (zH rfl rfl (by subst_vars; decide) (by exact rfl) evd evd z0p (z5M W0 x.2.1 y.2.1) ?_);rintro v4 nx4 H4 ⟨rfl, rfl, hG4⟩;have hG4' := hG4.symm;subst hG4';refine ⟨Ext.refl, ?_⟩;refine zZ krf (zH rfl rfl (by subst_vars; decide) (by exact rfl) evd evd z0p (z5M W0 x.2.2 y.2.2) ?_);rintro v5 nx5 H5 ⟨rfl, rfl, hG5⟩;have hG5' := hG5.symm;subst hG5';refine ⟨Ext.refl, ?_⟩;refine z0K ?_;refine OpsL.new (by subst_vars; decide) (zl (l := [(0, .int .i64 (Lib.compareInt x.1 y.1)), (1, .int .i64 (Lib.compareInt x.2.1 y.2.1)), (2, .int .i64 (Lib.compareInt x.2.2 y.2.2))]) (r := (.slice (some ⟨nx + 1 + 1, 0, none⟩) 3 3, .new (.cells [.int .i64 (Lib.compareInt x.1 y.1), .int .i64 (Lib.compareInt x.2.1 y.2.1), .int .i64 (Lib.compareInt x.2.2 y.2.2)] 1 none false (some 3)))) (by simp only [zt, ASt.ev, z9, ↓reduceIte, reduceIte, Option.some.injEq, Nat.reduceEqDiff, *]) krf) ?_
 have hone : IntsAt (G.put (nx + 1 + 1) (.cells [.int .i64 (Lib.compareInt x.1 y.1), .int .i64 (Lib.compareInt x.2.1 y.2.1), .int .i64 (Lib.compareInt x.2.2 y.2.2)] 1 none false (some 3))) (.slice (some ⟨nx + 1 + 1, 0, none⟩) 3 3) [Lib.compareInt x.1 y.1, Lib.compareInt x.2.1 y.2.1, Lib.compareInt x.2.2 y.2.2] := by
  have hcell : (G.put (nx + 1 + 1) (.cells [.int .i64 (Lib.compareInt x.1 y.1), .int .i64 (Lib.compareInt x.2.1 y.2.1), .int .i64 (Lib.compareInt x.2.2 y.2.2)] 1 none false (some 3))) (nx + 1 + 1) = some (.cells (([Lib.compareInt x.1 y.1, Lib.compareInt x.2.1 y.2.1, Lib.compareInt x.2.2 y.2.2] : List Int).map (.int .i64 ·)) 1 none false (some 3)) := z6;refine .inr ⟨⟨nx + 1 + 1, 0, none⟩, 3, rfl, fun j hj => ?_⟩;have := z8 hcell (k := j) (v := .int .i64 (([Lib.compareInt x.1 y.1, Lib.compareInt x.2.1 y.2.1, Lib.compareInt x.2.2 y.2.2] : List Int)[j])) (by rw [List.getElem?_map, List.getElem?_eq_getElem hj]; rfl);simpa using this
 have hx2 : Ext (nx + 1 + 1) G (nx + 1 + 1 + 1) (G.put (nx + 1 + 1) (.cells [.int .i64 (Lib.compareInt x.1 y.1), .int .i64 (Lib.compareInt x.2.1 y.2.1), .int .i64 (Lib.compareInt x.2.2 y.2.2)] 1 none false (some 3))) := zg;generalize G.put (nx + 1 + 1) (.cells [.int .i64 (Lib.compareInt x.1 y.1), .int .i64 (Lib.compareInt x.2.1 y.2.1), .int .i64 (Lib.compareInt x.2.2 y.2.2)] 1 none false (some 3)) = G2 at *;refine OpsL.nil ⟨hx2, ?_⟩;refine zZ krf (z3x rfl rfl (by subst_vars; decide) (by exact rfl) evd z7E (orC W0 hone (by simp)) ?_);rintro v9 nx9 H9 ⟨rfl, rfl, h9⟩;have h9' := h9.symm;subst h9';refine ⟨hx2, ?_⟩;refine zcf ?_
 (change Trip _ _ _ _ _)
 refine z8i ?_;exact ⟨.inr rfl, _, zh, by simp [z9, zeQ], hx0.trans hx2⟩
theorem z7V (x y : R3) (W : World) : Calls Tryz.prog 51 #[.agg (z1M x).toArray, .agg (z1M y).toArray] W fun e w' => e = .returned (.int .i64 (zeQ x y)) ∧ ∃ q os', w' = grow (W.drewN q) os' :=
 z2P (args := [.agg (z1M x).toArray, .agg (z1M y).toArray]) rfl rfl (fun w nx H => ACalls.weaken (zei w x y) fun _ _ _ h => h.1) W
end Go.Proofs.YteplpegfcpmflaaGreat
namespace Go.Am
open Go.RowKit Go.Proofs
open Go.Sort hiding Below
section
variable {P : Program} {W0 : World} {C : Corr} {nx : Nat} {H : Heap} {w : World}
def IntV (v : Value) : Prop := ∃ k n, v = .int k n
theorem IntV.refl {v : Value} (h : IntV v) : VR nx H C v v := by obtain ⟨k, n, rfl⟩ := h; exact .int k n
theorem IntV.eq {v v' : Value} (h : IntV v) (hv : VR nx H C v v') : v' = v := by obtain ⟨k, n, rfl⟩ := h; cases hv; rfl
theorem z5Z (hR : Rel W0 C nx H w) {b e : Nat} {t : Option Nat} {q : Option TypeId} {cs rest : List Value} (ho : H b = some (.cells (cs ++ rest) e t false q)) (hi : ∀ v ∈ cs, IntV v) : Holds id w (C.loc b).1 (C.loc b).2 cs.toArray := by
 obtain ⟨Cc, el, fr, h1, h2, h3, h4, h5⟩ := hR.obj _ _ ho;intro j hj;have hj' : j < cs.length := by simpa using hj
 have hlt : (C.loc b).2 + j < Cc.size := by simp at h3; omega
 have hv := h4 j (by simp; omega) hlt;rw [List.getElem_append_left hj'] at hv;have he := (hi _ (List.getElem_mem hj')).eq hv;constructor
 ·simp only [World.cell?, h1]
  rw [Array.getElem?_eq_getElem hlt, he];simp [hj']
 ·have := h5.1 rfl ((C.loc b).2 + j) hlt
  simp only [World.frozen?, h1];simp only [Bool.and_eq_false_iff, decide_eq_false_iff_not];omega
theorem zcH (C : Corr) (b : Nat) : C.put b (C.loc b) (C.siz b) = C := by
 unfold Corr.put;cases C with
 | mk l s => congr 1 <;> (funext i; simp; intro h; rw [h])
theorem z9E (hR : Rel W0 C nx H w) {b e : Nat} {t : Option Nat} {q : Option TypeId} {cs cs' rest : List Value} (ho : H b = some (.cells (cs ++ rest) e t false q)) (hl : cs'.length = cs.length) (hi : ∀ v ∈ cs', IntV v) (m : Nat) (os : Array Obj) :
  Rel W0 C nx (H.put b (.cells (cs' ++ rest) e t false q)) (grow (putRow id (Sort.ahead w m) (C.loc b).1 (C.loc b).2 cs'.toArray) os) ∧ Stp nx H C nx (H.put b (.cells (cs' ++ rest) e t false q)) C := by
 obtain ⟨Cc, el, fr, h1, h2, h3, h4, h5⟩ := hR.obj _ _ ho;have hblk := (hR.obj _ _ ho).blk;have hown := hR.own _ _ ho rfl;have hsz : (putRow id (Sort.ahead w m) (C.loc b).1 (C.loc b).2 cs'.toArray).heap.size = w.heap.size := by simp [putRow, mapBlock, Sort.ahead]
 have hold : ∀ k, k < w.heap.size → (grow (putRow id (Sort.ahead w m) (C.loc b).1 (C.loc b).2 cs'.toArray) os).heap[k]? = (w.heap.modify (C.loc b).1 (onCells (putCells id (C.loc b).2 cs'.toArray)))[k]? := fun k hk => by
  rw [heap_grow_old _ _ (by rw [hsz]; exact hk)];rfl
 have hother : ∀ k, k < w.heap.size → k ≠ (C.loc b).1 → (grow (putRow id (Sort.ahead w m) (C.loc b).1 (C.loc b).2 cs'.toArray) os).heap[k]? = w.heap[k]? := fun k hk hne => by
  rw [hold k hk, Array.getElem?_modify];simp [Ne.symm hne]
 have hthis : (grow (putRow id (Sort.ahead w m) (C.loc b).1 (C.loc b).2 cs'.toArray) os).heap[(C.loc b).1]? = some (.cells (putCells id (C.loc b).2 cs'.toArray Cc) el fr) := by
  rw [hold _ hblk, Array.getElem?_modify];simp [h1, onCells]
 have hbel : BelD W0.heap.size W0 (grow (putRow id (Sort.ahead w m) (C.loc b).1 (C.loc b).2 cs'.toArray) os) := hR.below.trans ⟨rfl, rfl, rfl, by simp [grow, putRow, mapBlock, Sort.ahead], fun k hk => hother k (by have := hR.below.size; omega) (by omega), by simp [grow, putRow, mapBlock, Sort.ahead]⟩;have key := hR.set (w' := grow (putRow id (Sort.ahead w m) (C.loc b).1 (C.loc b).2 cs'.toArray) os) b _ (.cells (cs' ++ rest) e t false q) (C.loc b) (C.siz b) ho rfl (Nat.le_refl _) (.inl ⟨rfl, rfl, rfl, rfl⟩) (.inl rfl) (fun _ => rfl) hbel hother ?_
 ·rw [zcH] at key
  exact key
 ·rintro C' rfl hst
  rw [zcH] at hst ⊢;have hsz2 : (putCells id (C.loc b).2 cs'.toArray Cc).size = Cc.size := by simp [putCells]
  refine ⟨_, el, fr, hthis, by rw [hsz2, h2], ?_, ?_, ⟨fun _ => (by rw [hsz2]; exact h5.1 rfl), h5.2.1, fun _ ht => (by
   obtain ⟨q1, q2⟩ := h5.2.2.1 rfl ht;refine ⟨q1, ?_⟩;rw [hsz2, q2]; simp; omega), h5.2.2.2⟩⟩
  ·rw [hsz2]; simp at h3 ⊢; omega
  ·intro i hi1 hi2
   have hi3 : (C.loc b).2 + i < Cc.size := by rw [hsz2] at hi2; exact hi2
   have hget : (putCells id (C.loc b).2 cs'.toArray Cc)[(C.loc b).2 + i] = if i < cs'.length then cs'.toArray[i]! else Cc[(C.loc b).2 + i] := by
    simp only [putCells, Array.getElem_mapIdx, id];by_cases hc : i < cs'.length
    ·rw [if_pos (by simp; omega), if_pos hc]; congr 1; omega
    ·rw [if_neg (by simp; omega), if_neg hc]
   rw [hget];by_cases hc : i < cs'.length
   ·rw [if_pos hc, List.getElem_append_left hc]
    have e1 : cs'.toArray[i]! = cs'[i] := by simp [hc]
    rw [e1];exact (hi _ (List.getElem_mem hc)).refl
   ·rw [if_neg hc, List.getElem_append_right (by omega)]
    have := (h4 i (by simp at hi1 ⊢; omega) hi3).mono hst;rw [List.getElem_append_right (by omega)] at this;have e2 : rest[i - cs'.length]'(by simp at hi1; omega) = rest[i - cs.length]'(by simp at hi1; omega) := by congr 1; omega
    rw [e2];exact this
theorem z7a {α : Type} [Inhabited α] (enc : α → List Value) (k : Nat) (hk : ∀ x, (enc x).length = k) (l : List α) : (flatK enc k l.toArray).toList = l.flatMap enc := by
 apply List.ext_getElem?;intro i
 have hlen : (l.flatMap enc).length = l.length * k := by
  induction l with
  | nil => simp
  | cons x l ih => simp only [List.flatMap_cons, List.length_append, hk, ih, List.length_cons, Nat.add_mul]; omega
 by_cases hi : i < l.length * k
 ·have hk0 : 0 < k := by
   rcases Nat.eq_zero_or_pos k with h | h
   ·subst h; simp at hi
   ·exact h
  have hq : i / k < l.length := by rw [Nat.div_lt_iff_lt_mul hk0]; exact hi
  have e1 : (flatK enc k l.toArray).toList[i]? = some ((enc l[i / k])[i % k]!) := by
   rw [Array.getElem?_toList, Array.getElem?_eq_getElem (by simpa using hi)];simp [flatK, hq]
  rw [e1]
  have gen : ∀ (l : List α) (i : Nat), i < l.length * k → (h : i / k < l.length) → (l.flatMap enc)[i]? = some ((enc l[i / k])[i % k]!) := by
   intro l
   induction l with
   | nil => intro i hi; simp at hi
   | cons x l ih =>
    intro i hi h;rw [List.flatMap_cons];by_cases hik : i < k
    ·rw [List.getElem?_append_left (by rw [hk]; exact hik)]
     have e0 : i / k = 0 := Nat.div_eq_of_lt hik;have e2 : i % k = i := Nat.mod_eq_of_lt hik;simp only [e0, e2, List.getElem_cons_zero];rw [List.getElem?_eq_getElem (by rw [hk]; exact hik)];simp [hk, hik]
    ·rw [List.getElem?_append_right (by rw [hk]; omega), hk]
     have hi' : i - k < l.length * k := by simp only [List.length_cons, Nat.add_mul] at hi; omega
     have ed : i / k = (i - k) / k + 1 := by
      rw [Nat.div_eq_sub_div hk0 (by omega)]
     have em : i % k = (i - k) % k := Nat.mod_eq_sub_mod (by omega);have hq' : (i - k) / k < l.length := by rw [Nat.div_lt_iff_lt_mul hk0]; exact hi'
     rw [ih (i - k) hi' hq'];simp only [ed, em, List.getElem_cons_succ]
  exact (gen l i hi hq).symm
 ·rw [List.getElem?_eq_none (by simp; omega), List.getElem?_eq_none (by rw [hlen]; omega)]
theorem z8H {α : Type} [Inhabited α] {l l' : List α} (h : PermIn 0 l.length l.toArray l'.toArray) : l'.Perm l := by
 obtain ⟨h1, _, h2⟩ := h;have e : l'.length = l.length := by simpa using h1
 have e1 : l'.toArray.extract 0 l.length = l'.toArray := by rw [← e]; simp
 have e2 : l.toArray.extract 0 l.length = l.toArray := by simp
 rw [e1, e2] at h2;simpa using h2
theorem z68 {α : Type} [Inhabited α] {cf : α → α → Int} {l : List α} (h : SortedIn (ltOf cf) 0 l.length l.toArray) : l.Pairwise (fun x y => ¬ cf y x < 0) := by
 rw [List.pairwise_iff_getElem];intro i j hi hj hij;have := h i j (Nat.zero_le _) hij hj;simp [hi, hj, ltOf] at this;omega
theorem z4k {α : Type} [Inhabited α] {enc : α → List Value} {k : Nat} (hk : ∀ x, (enc x).length = k) (hi : ∀ x, ∀ v ∈ enc x, IntV v) {cf : α → α → Int} {f g : FuncId}
  (hs : ∀ (blk off cap : Nat) (d : Array α) (w : World), HoldsK enc k w blk off d → blk < w.heap.size → d.size < 4611686018427387904 → Calls P f #[.slice (some ⟨blk, off, none⟩) d.size cap, .func (.func g) #[] #[]] w fun e w' => e = .returned (.tuple #[]) ∧ ∃ d' n os, PermIn 0 d.size d d' ∧ SortedIn (ltOf cf) 0 d.size d' ∧ w' = sortWorldK enc k w blk off n d' os)
  {b t e : Nat} {q : Option TypeId} {l : List α} {rest : List Value} {c : Nat} (ho : H b = some (.cells (l.flatMap enc ++ rest) e (some t) false q)) (hl : l.length < 4611686018427387904) :
  ACalls P W0 f [.slice (some ⟨b, 0, some t⟩) l.length c, .func (.func g) #[] #[]] nx H fun v nx' H' => v = .tuple #[] ∧ nx' = nx ∧ ∃ l' : List α, l'.Perm l ∧ l'.Pairwise (fun x y => ¬ cf y x < 0) ∧ H' = H.put b (.cells (l'.flatMap enc ++ rest) e (some t) false q) := by
 intro C w args' hR ha
 have hI : ∀ l : List α, ∀ v ∈ l.flatMap enc, IntV v := fun l v hv => by
  obtain ⟨x, _, hx⟩ := List.mem_flatMap.1 hv;exact hi x v hx
 have hlen : ∀ l : List α, (l.flatMap enc).length = l.length * k := fun l => by
  induction l with
  | nil => simp
  | cons x l ih => simp only [List.flatMap_cons, List.length_append, hk, ih, List.length_cons, Nat.add_mul]; omega
 obtain ⟨h1, h2⟩ := ha
 obtain ⟨v1, v2, rfl⟩ : ∃ v1 v2, args' = [v1, v2] := by
  match args', h1 with
  | [v1, v2], _ => exact ⟨v1, v2, rfl⟩
 have hv1 := h2 0 (by simp) (by simp);have hv2 := h2 1 (by simp) (by simp);simp only [List.getElem_cons_zero, List.getElem_cons_succ] at hv1 hv2
 obtain ⟨cap', rfl⟩ : ∃ cap', v1 = .slice (some ⟨(C.loc b).1, (C.loc b).2, none⟩) l.length cap' := by
  cases hv1 with
  | slc _ _ _ b' cap' k1 k2 =>
   obtain ⟨e1, _⟩ := k2 _ ho rfl;exact ⟨cap', by rw [e1]; simp [Corr.at]⟩
 obtain rfl : v2 = .func (.func g) #[] #[] := by
  cases hv2 with
  | func _ _ a' _ b' ha hb _ _ =>
   have : a' = #[] := by apply Array.eq_empty_of_size_eq_zero; simpa using ha.symm
   have : b' = #[] := by apply Array.eq_empty_of_size_eq_zero; simpa using hb.symm
   subst_vars; rfl
 have hH : HoldsK enc k w (C.loc b).1 (C.loc b).2 l.toArray := by
  unfold HoldsK;have := z5Z hR ho (hI l)
  rwa [← z7a enc k hk l, Array.toArray_toList] at this
 refine (hs (C.loc b).1 (C.loc b).2 cap' l.toArray w hH (hR.obj _ _ ho).blk (by simpa using hl)).mono ?_;rintro e' w' ⟨rfl, d', n, os, hp, hso, rfl⟩;obtain ⟨l', rfl⟩ : ∃ l' : List α, d' = l'.toArray := ⟨d'.toList, by simp⟩;have hsize : l'.length = l.length := by have := hp.1; simpa using this
 have hput := z9E hR ho (cs' := l'.flatMap enc) (by rw [hlen, hlen, hsize]) (hI l') n os
 have hw : sortWorldK enc k w (C.loc b).1 (C.loc b).2 n l'.toArray os = grow (putRow id (Sort.ahead w n) (C.loc b).1 (C.loc b).2 (l'.flatMap enc).toArray) os := by
  unfold sortWorldK putRowK;rw [← z7a enc k hk l', Array.toArray_toList]
 rw [hw];exact ⟨_, _, C, nx, _, rfl, ⟨rfl, rfl, l', z8H (by simpa using hp), z68 (by rw [hsize]; simpa using hso), rfl⟩, hput.1, .tuple _ _ rfl (fun i h => absurd h (by simp)), hput.2⟩
theorem z8M {α : Type} [Inhabited α] {enc : α → Value} {blk off : Nat} {l : List α} (h : Holds id w blk off (l.map enc).toArray) : Holds enc w blk off l.toArray := by
 intro j hj;have hj' : j < l.length := by simpa using hj
 have := h j (by simpa using hj);simpa [hj'] using this
theorem z75 {α : Type} [Inhabited α] (enc : α → Value) (w : World) (blk off : Nat) (l : List α) : putRow enc w blk off l.toArray = putRow id w blk off (l.map enc).toArray := by
 unfold putRow;congr 1;funext c;unfold putCells;congr 1;funext k x;by_cases h : off ≤ k ∧ k < off + l.length
 ·rw [if_pos (by simpa using h), if_pos (by simpa using h)]
  have : k - off < l.length := by omega
  simp [this]
 ·rw [if_neg (by simpa using h), if_neg (by simpa using h)]
theorem z9R {α : Type} [Inhabited α] {enc : α → Value} (hi : ∀ x, IntV (enc x)) {cf : α → α → Int} {f g : FuncId}
  (hs : ∀ (blk off cap : Nat) (d : Array α) (w : World), Holds enc w blk off d → blk < w.heap.size → d.size < 4611686018427387904 → Calls P f #[.slice (some ⟨blk, off, none⟩) d.size cap, .func (.func g) #[] #[]] w fun e w' => e = .returned (.tuple #[]) ∧ ∃ d' n os, PermIn 0 d.size d d' ∧ SortedIn (ltOf cf) 0 d.size d' ∧ w' = sortWorld enc w blk off n d' os)
  {b t e : Nat} {q : Option TypeId} {l : List α} {rest : List Value} {c : Nat} (ho : H b = some (.cells (l.map enc ++ rest) e (some t) false q)) (hl : l.length < 4611686018427387904) :
  ACalls P W0 f [.slice (some ⟨b, 0, some t⟩) l.length c, .func (.func g) #[] #[]] nx H fun v nx' H' => v = .tuple #[] ∧ nx' = nx ∧ ∃ l' : List α, l'.Perm l ∧ l'.Pairwise (fun x y => ¬ cf y x < 0) ∧ H' = H.put b (.cells (l'.map enc ++ rest) e (some t) false q) := by
 intro C w args' hR ha
 have hI : ∀ l : List α, ∀ v ∈ l.map enc, IntV v := fun l v hv => by
  obtain ⟨x, _, rfl⟩ := List.mem_map.1 hv;exact hi x
 obtain ⟨h1, h2⟩ := ha
 obtain ⟨v1, v2, rfl⟩ : ∃ v1 v2, args' = [v1, v2] := by
  match args', h1 with
  | [v1, v2], _ => exact ⟨v1, v2, rfl⟩
 have hv1 := h2 0 (by simp) (by simp);have hv2 := h2 1 (by simp) (by simp);simp only [List.getElem_cons_zero, List.getElem_cons_succ] at hv1 hv2
 obtain ⟨cap', rfl⟩ : ∃ cap', v1 = .slice (some ⟨(C.loc b).1, (C.loc b).2, none⟩) l.length cap' := by
  cases hv1 with
  | slc _ _ _ b' cap' k1 k2 =>
   obtain ⟨e1, _⟩ := k2 _ ho rfl;exact ⟨cap', by rw [e1]; simp [Corr.at]⟩
 obtain rfl : v2 = .func (.func g) #[] #[] := by
  cases hv2 with
  | func _ _ a' _ b' ha hb _ _ =>
   have : a' = #[] := by apply Array.eq_empty_of_size_eq_zero; simpa using ha.symm
   have : b' = #[] := by apply Array.eq_empty_of_size_eq_zero; simpa using hb.symm
   subst_vars; rfl
 have hH := z8M (z5Z hR ho (hI l));refine (hs (C.loc b).1 (C.loc b).2 cap' l.toArray w hH (hR.obj _ _ ho).blk (by simpa using hl)).mono ?_;rintro e' w' ⟨rfl, d', n, os, hp, hso, rfl⟩;obtain ⟨l', rfl⟩ : ∃ l' : List α, d' = l'.toArray := ⟨d'.toList, by simp⟩;have hsize : l'.length = l.length := by have := hp.1; simpa using this
 have hput := z9E hR ho (cs' := l'.map enc) (by simp [hsize]) (hI l') n os
 have hw : sortWorld enc w (C.loc b).1 (C.loc b).2 n l'.toArray os = grow (putRow id (Sort.ahead w n) (C.loc b).1 (C.loc b).2 (l'.map enc).toArray) os := by
  unfold sortWorld;rw [z75]
 rw [hw];exact ⟨_, _, C, nx, _, rfl, ⟨rfl, rfl, l', z8H (by simpa using hp), z68 (by rw [hsize]; simpa using hso), rfl⟩, hput.1, .tuple _ _ rfl (fun i h => absurd h (by simp)), hput.2⟩
end
end Go.Am
namespace Go.Proofs.YteplpegfcpmflaaGreat
open Go.Shelf Go.RowKit Go.Lib Go.Am
open Go.Sort hiding Below
shelf_lay_g SlLaysF0.n6 Slsf 6 at Tryz 68 as sortOL
shelf_lay_g SlLaysF0.n6 Slsf 6 at Tryz 72 as sortCL
shelf_lay_g SlLaysF0.n6 Slsf 6 at Tryz 75 as sortNL
shelf_lay_g SlLaysF.n6 Slsf 6 at Tryz 64 as sortIL
theorem zh1 (w : World) : (isAgg 43).run Tryz.prog w = .ok true w := z1P Tryz.underlying43 w
theorem zfA (w : World) : (Go.sizeOf 43).run Tryz.prog w = .ok 4 w := zI rfl w
theorem zh3 (w : World) : (isAgg 45).run Tryz.prog w = .ok true w := z1P Tryz.underlying45 w
theorem zfC (w : World) : (Go.sizeOf 45).run Tryz.prog w = .ok 4 w := zI rfl w
theorem zh2 (w : World) : (isAgg 51).run Tryz.prog w = .ok true w := z1P Tryz.underlying51 w
theorem zfB (w : World) : (Go.sizeOf 51).run Tryz.prog w = .ok 3 w := zI rfl w
theorem zic : Sort.SWO (ltOf zbf) where
 irrefl x := by unfold ltOf; simp only [decide_eq_false_iff_not]; rw [z5W]; exact zeK.irr x
 trans x y z h1 h2 := by unfold ltOf at *; simp only [decide_eq_true_eq, z5W] at *; exact zeK.tr h1 h2
 ntrans x y z h1 h2 := by unfold ltOf at *; simp only [decide_eq_false_iff_not, z5W] at *; unfold lt4 at *; omega
theorem zil : Sort.SWO (ltOf zeQ) where
 irrefl x := by unfold ltOf; simp only [decide_eq_false_iff_not]; rw [z7r]; exact zgi.irr x
 trans x y z h1 h2 := by unfold ltOf at *; simp only [decide_eq_true_eq, z7r] at *; exact zgi.tr h1 h2
 ntrans x y z h1 h2 := by unfold ltOf at *; simp only [decide_eq_false_iff_not, z7r] at *; unfold lt3 at *; omega
theorem zim : Sort.SWO (ltOf Lib.compareInt) where
 irrefl x := by unfold ltOf; simp only [decide_eq_false_iff_not]; rw [z7s]; exact zeL.irr x
 trans x y z h1 h2 := by unfold ltOf at *; simp only [decide_eq_true_eq, z7s] at *; exact zeL.tr h1 h2
 ntrans x y z h1 h2 := by unfold ltOf at *; simp only [decide_eq_false_iff_not, z7s] at *; unfold lt1 at *; omega
theorem zhR (x : R4) : ∀ v ∈ z0i x, ∃ k n, v = .int k n := fun v hv => by simp [z0i, e4] at hv; rcases hv with rfl | rfl | rfl | rfl <;> exact ⟨_, _, rfl⟩
theorem zig (x : R3) : ∀ v ∈ z1M x, ∃ k n, v = .int k n := fun v hv => by simp [z1M, e3] at hv; rcases hv with rfl | rfl | rfl <;> exact ⟨_, _, rfl⟩
theorem zie (x : R4) : ∀ v ∈ z0i x, v.oneCell' = true := fun v hv => by obtain ⟨k, n, rfl⟩ := zhR x v hv; rfl
theorem ziq (x : R3) : ∀ v ∈ z1M x, v.oneCell' = true := fun v hv => by obtain ⟨k, n, rfl⟩ := zig x v hv; rfl
theorem za5 : Am.z0F Tryz.prog 68 := ⟨Tryz.f68, Tryz.func68, by kernel_rfl, by kernel_rfl⟩
theorem zgT (W0 : World) {nx b t e c : Nat} {H : Heap} {q : Option TypeId} {l : List R4} {rest : List Value} (ho : H b = some (.cells (l.flatMap z0i ++ rest) e (some t) false q)) (hl : l.length < 1000000000000) :
  ACalls Tryz.prog W0 68 [.slice (some ⟨b, 0, some t⟩) l.length c, .func (.func 47) #[] #[]] nx H fun v nx' H' => v = .tuple #[] ∧ nx' = nx ∧ ∃ l' : List R4, l'.Perm l ∧ z3d lt4 l' ∧ H' = H.put b (.cells (l'.flatMap z0i ++ rest) e (some t) false q) := by
 have eg : ∀ args w, (callFunc 47 args).run Tryz.prog w = .ok (.enter 47 args) w := enters_of Tryz.func47 krf rfl
 have := z4k (P := Tryz.prog) (W0 := W0) (nx := nx) (H := H) (enc := z0i) (k := 4) (cf := zbf) (f := 68) (g := 47) (fun _ => rfl) zhR
  (fun blk off cap d w hH hb hsz => AnyQ.slices_SortFunc sortOL 4 zh1 zfA z0i (fun _ => rfl) zie zbf zic 47 #[] blk off cap d w eg (fun _ _ _ _ x y => z9c x y _) hH hb hsz) (c := c) ho (by omega)
 refine ACalls.weaken this ?_;rintro v nx' H' ⟨h1, h2, l', h3, h4, h5⟩;exact ⟨h1, h2, l', h3, h4.imp (fun {x y} h hlt => h ((z5W y x).2 hlt)), h5⟩
theorem za8 : Am.z0F Tryz.prog 72 := ⟨Tryz.f72, Tryz.func72, by kernel_rfl, by kernel_rfl⟩
theorem zgW (W0 : World) {nx b t e c : Nat} {H : Heap} {q : Option TypeId} {l : List R4} {rest : List Value} (ho : H b = some (.cells (l.flatMap z0i ++ rest) e (some t) false q)) (hl : l.length < 1000000000000) :
  ACalls Tryz.prog W0 72 [.slice (some ⟨b, 0, some t⟩) l.length c, .func (.func 49) #[] #[]] nx H fun v nx' H' => v = .tuple #[] ∧ nx' = nx ∧ ∃ l' : List R4, l'.Perm l ∧ z3d lt4 l' ∧ H' = H.put b (.cells (l'.flatMap z0i ++ rest) e (some t) false q) := by
 have eg : ∀ args w, (callFunc 49 args).run Tryz.prog w = .ok (.enter 49 args) w := enters_of Tryz.func49 krf rfl
 have := z4k (P := Tryz.prog) (W0 := W0) (nx := nx) (H := H) (enc := z0i) (k := 4) (cf := zbf) (f := 72) (g := 49) (fun _ => rfl) zhR
  (fun blk off cap d w hH hb hsz => AnyQ.slices_SortFunc sortCL 4 zh3 zfC z0i (fun _ => rfl) zie zbf zic 49 #[] blk off cap d w eg (fun _ _ _ _ x y => z7W x y _) hH hb hsz) (c := c) ho (by omega)
 refine ACalls.weaken this ?_;rintro v nx' H' ⟨h1, h2, l', h3, h4, h5⟩;exact ⟨h1, h2, l', h3, h4.imp (fun {x y} h hlt => h ((z5W y x).2 hlt)), h5⟩
theorem za6 : Am.z0F Tryz.prog 75 := ⟨Tryz.f75, Tryz.func75, by kernel_rfl, by kernel_rfl⟩
theorem zgU (W0 : World) {nx b t e c : Nat} {H : Heap} {q : Option TypeId} {l : List R3} {rest : List Value} (ho : H b = some (.cells (l.flatMap z1M ++ rest) e (some t) false q)) (hl : l.length < 1000000000000) :
  ACalls Tryz.prog W0 75 [.slice (some ⟨b, 0, some t⟩) l.length c, .func (.func 51) #[] #[]] nx H fun v nx' H' => v = .tuple #[] ∧ nx' = nx ∧ ∃ l' : List R3, l'.Perm l ∧ z3d lt3 l' ∧ H' = H.put b (.cells (l'.flatMap z1M ++ rest) e (some t) false q) := by
 have eg : ∀ args w, (callFunc 51 args).run Tryz.prog w = .ok (.enter 51 args) w := enters_of Tryz.func51 krf rfl
 have := z4k (P := Tryz.prog) (W0 := W0) (nx := nx) (H := H) (enc := z1M) (k := 3) (cf := zeQ) (f := 75) (g := 51) (fun _ => rfl) zig
  (fun blk off cap d w hH hb hsz => AnyQ.slices_SortFunc sortNL 3 zh2 zfB z1M (fun _ => rfl) ziq zeQ zil 51 #[] blk off cap d w eg (fun _ _ _ _ x y => z7V x y _) hH hb hsz) (c := c) ho (by omega)
 refine ACalls.weaken this ?_;rintro v nx' H' ⟨h1, h2, l', h3, h4, h5⟩;exact ⟨h1, h2, l', h3, h4.imp (fun {x y} h hlt => h ((z7r y x).2 hlt)), h5⟩
theorem za7 : Am.z0F Tryz.prog 64 := ⟨Tryz.f64, Tryz.func64, by kernel_rfl, by kernel_rfl⟩
theorem zgV (W0 : World) {nx b t e c : Nat} {H : Heap} {q : Option TypeId} {l : List Int} {rest : List Value} (ho : H b = some (.cells (l.map (.int .i64 ·) ++ rest) e (some t) false q)) (hl : l.length < 1000000000000) :
  ACalls Tryz.prog W0 64 [.slice (some ⟨b, 0, some t⟩) l.length c, .func (.func 45) #[] #[]] nx H fun v nx' H' => v = .tuple #[] ∧ nx' = nx ∧ ∃ l' : List Int, l'.Perm l ∧ z3d lt1 l' ∧ H' = H.put b (.cells (l'.map (.int .i64 ·) ++ rest) e (some t) false q) := by
 have eg : ∀ args w, (callFunc 45 args).run Tryz.prog w = .ok (.enter 45 args) w := enters_of Tryz.func45 krf rfl
 have := z9R (P := Tryz.prog) (W0 := W0) (nx := nx) (H := H) (enc := fun x : Int => .int .i64 x) (cf := Lib.compareInt) (f := 64) (g := 45) (fun x => ⟨_, _, rfl⟩)
  (fun blk off cap d w hH hb hsz => Any.slices_SortFunc sortIL (fun x : Int => .int .i64 x) (fun _ => rfl) Lib.compareInt zim 45 #[] blk off cap d w eg (fun _ _ _ _ x y => zbX x y _) hH hb hsz) (c := c) ho (by omega)
 refine ACalls.weaken this ?_;rintro v nx' H' ⟨h1, h2, l', h3, h4, h5⟩;exact ⟨h1, h2, l', h3, h4.imp (fun {x y} h hlt => h ((z7s y x).2 hlt)), h5⟩
end Go.Proofs.YteplpegfcpmflaaGreat
namespace Go.Proofs.YteplpegfcpmflaaGreat
open Go.RowKit Go.Am
attribute [local irreducible] aop OpsL Trip zC z36 OpsK OpsR
theorem za2 : Am.z0F Tryz.prog 46 := ⟨Tryz.f46, Tryz.func46, by kernel_rfl, by kernel_rfl⟩
theorem zdP (W0 : World) {nx : Nat} {H : Heap} {ob : Option (Nat × Nat)} {v : Value} {l : List (R4)} (h : zck H ob v l) (hl : l.length ≤ 1000000) :
  ACalls Tryz.prog W0 68 [v, .func (.func 47) #[] #[]] nx H fun _ nx' H' => nx' = nx ∧ ∃ l' : List (R4), l'.Perm l ∧ z3d lt4 l' ∧ zck H' ob v l' ∧ ∀ i, (∀ b t, ob = some (b, t) → i ≠ b) → H' i = H i := by
 cases ob with
 | none =>
  obtain ⟨rfl, _, hl0⟩ := h;have hnil : l = [] := List.eq_nil_of_length_eq_zero hl0;subst hnil;intro C w args' hR ha;obtain ⟨h1, h2⟩ := ha
  obtain ⟨v1, v2, rfl⟩ : ∃ v1 v2, args' = [v1, v2] := by
   match args', h1 with
   | [v1, v2], _ => exact ⟨v1, v2, rfl⟩
  have hv1 := h2 0 (by simp) (by simp);simp only [List.getElem_cons_zero] at hv1;obtain rfl : v1 = .slice none 0 0 := by cases hv1; rfl
  refine (AnyF.slices_SortFunc_none { sortOL with } none 0 v2 w).mono ?_;rintro e w' ⟨rfl, rfl⟩;exact ⟨_, _, C, nx, H, rfl, ⟨rfl, [], List.Perm.refl _, List.Pairwise.nil, ⟨rfl, rfl, rfl⟩, fun _ _ => rfl⟩, hR, .tuple #[] #[] rfl (fun i h => absurd h (by simp)), Stp.refl _ _ _⟩
 | some bt =>
  obtain ⟨b, t⟩ := bt;obtain ⟨rfl, _, rest, hH⟩ := h;refine ACalls.weaken (zgT W0 hH (by omega)) ?_;rintro v nx' H' ⟨_, rfl, l', hp, hs, rfl⟩;refine ⟨rfl, l', hp, hs, ⟨by rw [hp.length_eq], by rw [z03 z04], rest, z6⟩, fun i hi => z5 (hi b t rfl)⟩
theorem zgQ (W0 : World) {nx : Nat} {H : Heap} {v : Value} {l : List R4} (hr : AtO H v l) (hm : l.length ≤ 100000) :
  ACalls Tryz.prog W0 46 [v, .func (.func 47) #[] #[]] nx H fun v nx' H' => ∃ ob, zck H' ob v (zT lt4 l) ∧ z45 nx H nx' H' ob := by
 refine ze (fn := Tryz.f46) (c := _) Tryz.func46 rfl (fun tm n hn0 htm => ?_);have e0 : tm 0 = v := htm 0;have e1 : tm 1 = .func (.func 47) #[] #[] := htm 1;clear htm;replace hn0 : n = 13 := hn0;refine Trip.ok fun hok => ?_;replace hok : ∀ id o, H id = some o → id < nx := hok;obtain ⟨va, vc, rfl⟩ := hr.slice;refine z4Q ?_;refine OpsL.new (by subst_vars; decide) (zl (l := [(0, .slice va l.length vc)]) (r := (.slice (some ⟨nx, 0, none⟩) 1 1, .new (.cells [.slice va l.length vc] 1 none false (some 26)))) (by simp only [zt, ASt.ev, z9, ↓reduceIte, reduceIte, Option.some.injEq, Nat.reduceEqDiff, *]) krf) ?_;have hx0 : Ext nx H (nx + 1) (H.put nx (.cells [.slice va l.length vc] 1 none false (some 26))) := zg;have hin : zcQ (H.put nx (.cells [.slice va l.length vc] 1 none false (some 26))) (.slice (some ⟨nx, 0, none⟩) 1 1) [(.slice va l.length vc, l)] := ⟨nx, rfl, z6, fun x hx => by rw [List.mem_singleton] at hx; subst hx; exact hr.ext hx0 hok⟩;have hall : z1w [(Value.slice va l.length vc, l)] = l := by simp [z1w]
 refine z0g (hf := zae) (hc := (zhd W0 hin (by rw [hall]; exact hm) (by simp))) (h := ?_);rintro v1 nx1 H1 ⟨ob, ho1, hx1, hob1⟩;rw [hall] at ho1;refine z4Q ?_;refine OpsL.c2 (hf := za5) (hc := (zdP W0 ho1 (by omega))) (h := ?_);rintro v2 nx2 H2 ⟨rfl, l', hp, hs, ho2, hsame2⟩;refine z7i ?_;refine z0g (hf := zai) (hc := (zhh W0 ho2 (by rw [hp.length_eq]; omega))) (h := ?_);rintro v3 nx3 H3 ⟨rfl, ho3, hsame3⟩;refine zfg ?_;have heq := z4B zeK (z3k zeK l' hs) (fun x => by rw [z3T, hp.mem_iff] : ∀ x, x ∈ z34 l' ↔ x ∈ l);rw [heq] at ho3;refine ⟨.inr rfl, _, zh, ob, by simpa [z9] using ho3, hx0.trans ⟨hx1.1, fun i hi => ?_⟩, fun b t h => by have := hob1 b t h; omega⟩;rw [hsame3 i (fun b t h => by have := (hob1 b t h).1; omega), hsame2 i (fun b t h => by have := (hob1 b t h).1; omega), hx1.2 i hi]
end Go.Proofs.YteplpegfcpmflaaGreat
namespace Go.Proofs.YteplpegfcpmflaaGreat
open Go.RowKit Go.Am
attribute [local irreducible] aop OpsL Trip zC z36 OpsK OpsR
abbrev AtC (H : Heap) (v : Value) (l : List (R4)) : Prop := RowsAt z0i 4 H v l
abbrev zcm (H : Heap) (ob : Option (Nat × Nat)) (v : Value) (l : List (R4)) : Prop := OwnOf z0i 4 45 H ob v l
theorem zac : Am.z0F Tryz.prog 85 := ⟨Tryz.f85, Tryz.func85, by kernel_rfl, by kernel_rfl⟩
theorem zah : Am.z0F Tryz.prog 71 := ⟨Tryz.f71, Tryz.func71, by kernel_rfl, by kernel_rfl⟩
theorem zh7 (W0 : World) {nx m : Nat} {H : Heap} (hm : m ≤ 1000000) :
  ACalls Tryz.prog W0 85 [.slice none 0 0, .int .i64 m] nx H fun v nx' H' => ∃ ob, zcm H' ob v [] ∧ z45 nx H nx' H' ob := by
 refine ze (fn := Tryz.f85) (c := _) Tryz.func85 rfl (fun tm n hn0 htm => ?_);have e0 : tm 0 = .slice none 0 0 := htm 0;have e1 : tm 1 = .int .i64 m := htm 1;clear htm;replace hn0 : n = 27 := hn0;refine z4Q ?_;refine z8c ?_;refine zci ?_;refine z7 (z2F evr (by exact rfl)) ?_;refine zhy ?_;by_cases h0 : 0 < m
 ·refine z1G ?_
  refine zgp ?_;refine z7 (z2F evr (by exact rfl)) ?_;refine z7 (zS (r := .slice none 0 0) (a := none) (b := some (.int .i64 0)) (c := none) evd rfl (by simp only [z0G, ASt.ev, z9, ↓reduceIte, reduceIte, Option.some.injEq, Nat.reduceEqDiff, Option.map_some]; rfl) rfl (z2o (el := 45) (sz := 4) (by exact rfl) (by exact rfl) (.inl ⟨rfl, rfl⟩) (.inr ⟨.i64, rfl⟩))) ?_;refine zba ?_;refine OpsL.new (by subst_vars; decide) (z3p (k := m) (el := 45) (kd := .i64) (size := 4) (bytes := 32) (z := [.int .i64 0, .int .i64 0, .int .i64 0, .int .i64 0]) evd (by simp only [ASt.ev, z9, ↓reduceIte, reduceIte, Nat.reduceEqDiff, zk, *]; simp) (by exact rfl) (by exact rfl) (by exact rfl) (by exact rfl) (by exact rfl) rfl h0 (by omega) (by omega)) ?_
  repeat (refine z7 (by first | exact omv | exact z1s) ?_)
  refine z7 (zS (r := .slice (some ⟨nx, 0, some nx⟩) 0 0) (a := none) (b := some (.int .i64 0)) (c := none) evr rfl (by simp only [z0G, ASt.ev, z9, ↓reduceIte, reduceIte, Option.some.injEq, Nat.reduceEqDiff, Option.map_some]; rfl) rfl (by
   have := zQ (P := Tryz.prog) (H := H.put nx (.cells (z0b [.int .i64 0, .int .i64 0, .int .i64 0, .int .i64 0] m) 4 (some nx) false (some 45))) (t := 27) (el := 45) (sz := 4) (a := ⟨nx, 0, some nx⟩) (len := m) (cap := m) (l := 0) (h := 0) (tg := nx) (lo := none) (hi := some (.int .i64 0)) (by exact rfl) (by exact rfl) z6 rfl rfl rfl (.inl ⟨rfl, rfl⟩) (.inr ⟨.i64, rfl⟩) (Nat.le_refl _) (Nat.zero_le _);simpa using this)) ?_
  refine zdC ?_;refine ⟨.inr rfl, _, zh, some (nx, nx), ?_, ⟨zg, fun b t h => by cases h; exact ⟨Nat.le_refl _, Nat.lt_succ_self _⟩⟩⟩;refine ⟨by simp [z9], rfl, z0b [.int .i64 0, .int .i64 0, .int .i64 0, .int .i64 0] m, ?_⟩;rw [z6];simp
 ·refine z18 ?_
  refine zhC ?_;refine ⟨.inr rfl, _, zh, none, ⟨stp, rfl, rfl⟩, Ext.refl, fun b t h => by cases h⟩
def zcT (H : Heap) (v : Value) (ls : List (Value × List (R4))) : Prop :=
 ∃ a, v = .slice (some ⟨a, 0, none⟩) ls.length ls.length ∧ H a = some (.cells (ls.map (·.1)) 1 none false (some 27)) ∧ ∀ x ∈ ls, AtC H x.1 x.2
def z1z (ls : List (Value × List (R4))) : List (R4) := ls.flatMap (·.2)
theorem z6n (ls : List (Value × List (R4))) {i : Nat} (h : i < ls.length) : z1z (ls.take (i + 1)) = z1z (ls.take i) ++ ls[i].2 := by
 unfold z1z;rw [List.take_add_one, List.getElem?_eq_getElem h, Option.toList_some, List.flatMap_append];simp
theorem zhg (W0 : World) {nx : Nat} {H : Heap} {v : Value} {ls : List (Value × List (R4))} (hr : zcT H v ls) (hm : (z1z ls).length ≤ 100000) (hl : ls.length ≤ 100) :
  ACalls Tryz.prog W0 71 [v] nx H fun v nx' H' => ∃ ob, zcm H' ob v (z1z ls) ∧ z45 nx H nx' H' ob := by
 obtain ⟨a, rfl, hH, hrows⟩ := hr;refine ze (fn := Tryz.f71) (c := _) Tryz.func71 rfl (fun tm n hn0 htm => ?_);have e0 : tm 0 = .slice (some ⟨a, 0, none⟩) ls.length ls.length := htm 0;clear htm;replace hn0 : n = 36 := hn0;refine Trip.ok fun hok => ?_;replace hok : ∀ id o, H id = some o → id < nx := hok
 have hcell : ∀ (G : Heap), G a = some (.cells (ls.map (·.1)) 1 none false (some 27)) → ∀ i (h : i < ls.length), zb G ⟨a, 0 + (i : Int).toNat * 1, none⟩ ls[i].1 := fun G hG i h => by
  have := z2n (off := i) hG (by simpa using h);simpa using this
 have hlen : ∀ i, i ≤ ls.length → (z1z (ls.take i)).length ≤ (z1z ls).length := fun i hi => by
  have h1 : z1z ls = z1z (ls.take i) ++ z1z (ls.drop i) := by
   unfold z1z;rw [← List.flatMap_append, List.take_append_drop]
  rw [h1, List.length_append]; omega
 refine z8d ?_;refine zu (fun (i : Nat) st => ∃ (tm : Nat → Value), st = ⟨tm, n, H, nx⟩ ∧ tm 0 = .slice (some ⟨a, 0, none⟩) ls.length ls.length ∧ tm 9 = .slice (some ⟨a, 0, none⟩) ls.length ls.length ∧ tm 10 = .int .i64 ls.length ∧ tm 11 = .int .i64 i ∧ tm 3 = .int .i64 (z1z (ls.take i)).length ∧ i ≤ ls.length) (fun i => ls.length - i) 0 ?_ ?_
 ·exact ⟨_, rfl, stp, stp, stp, stp, by simp [z9, z1z], by omega⟩
 ·clear e0
  rintro i st ⟨tm, rfl, e0, e9, e10, e11, e3, hi⟩;by_cases hlt : i < ls.length
  ·have hc := hcell H hH i hlt
   obtain ⟨ua, uc, hu⟩ := (hrows _ (List.getElem_mem hlt)).slice;have hst := z6n ls hlt;have hl1 := hlen (i + 1) (by omega);rw [hst, List.length_append] at hl1;rw [hu] at hc;generalize ls[i].2 = us at *;generalize z1z (ls.take i) = zs at *;refine zhE ?_;exact ⟨i + 1, ⟨_, rfl, stp, stp, stp, stp, by rw [hst]; simp [z9, *], by omega⟩, by omega⟩
  ·have hin : i = ls.length := by omega
   subst hin;rw [List.take_length] at e3;refine zg8 ?_;refine zdJ ?_;refine OpsL.c2 (hf := zac) (hc := (zh7 W0 (m := (z1z ls).length) (by omega)).ok) (h := ?_);rintro gv nx1 H1 ⟨⟨ob1, ho1, hx1, hob1⟩, hok1⟩;refine z8d ?_;refine zu (fun (i : Nat) st => ∃ (tm : Nat → Value) (nx' : Nat) (H' : Heap) (ob : Option (Nat × Nat)) (v : Value), st = ⟨tm, n, H', nx'⟩ ∧ z45 nx H nx' H' ob ∧ (∀ id o, H' id = some o → id < nx') ∧ zcm H' ob v (z1z (ls.take i)) ∧ tm 25 = .slice (some ⟨a, 0, none⟩) ls.length ls.length ∧ tm 26 = .int .i64 ls.length ∧ tm 27 = .int .i64 i ∧ tm 6 = v ∧ i ≤ ls.length) (fun i => ls.length - i) 0 ?_ ?_
   ·exact ⟨_, _, _, ob1, gv, rfl, ⟨hx1, hob1⟩, hok1, ho1, stp, stp, stp, stp, by omega⟩
   ·clear e0 e9 e10 e11 e3 ho1 hx1 hob1 hok1
    rintro i st ⟨tm, nx', H', ob, v, rfl, ⟨hx, hob⟩, hok', hown, e25, e26, e27, e6, hi⟩;by_cases hlt : i < ls.length
    ·have hst := z6n ls hlt
     have hl1 := hlen (i + 1) (by omega);rw [hst, List.length_append] at hl1;have hrow := (hrows _ (List.getElem_mem hlt)).ext hx hok;have hc := hcell H' (by rw [hx.2 a (hok _ _ hH)]; exact hH) i hlt;obtain ⟨ua, uc, hu⟩ := hrow.slice;rw [hu] at hc hrow;generalize ls[i].2 = us at *;generalize z1z (ls.take i) = zs at *;refine zeD ?_;refine zR (bytes := 32) (z := [.int .i64 0, .int .i64 0, .int .i64 0, .int .i64 0]) z04 z5C (by omega) (by subst_vars; decide) hown hrow evd evd (fun b t h => (hob b t h).2) (by exact rfl) (by exact rfl) (by exact rfl) (by exact rfl) (by exact rfl) rfl (by omega) (by omega) ?_;intro v' nx2 H2 ob2 hA;refine zg7 ?_;refine ⟨i + 1, ⟨_, nx2, H2, ob2, v', rfl, ⟨⟨by have := hx.1; have := hA.le; omega, fun j hj => ?_⟩, fun b t h => ?_⟩, ?_, by rw [hst]; exact hA.own, stp, stp, stp, stp, by omega⟩, by omega⟩
     ·rw [hA.same j (by have := hx.1; omega) (fun b t h => by have := (hob b t h).1; omega), hx.2 j hj]
     ·obtain ⟨q1, q2⟩ := hA.blk b t h
      refine ⟨?_, q1⟩;rcases q2 with rfl | ⟨t', h'⟩
      ·exact hx.1
      ·exact (hob _ _ h').1
     ·exact hA.ok (fun b t h => (hob b t h).2) hok'
    ·have hin : i = ls.length := by omega
     subst hin;rw [List.take_length] at hown;refine zg8 ?_;refine z9w ?_;exact ⟨.inr rfl, _, zh, ob, stp, hx, hob⟩
end Go.Proofs.YteplpegfcpmflaaGreat
namespace Go.Proofs.YteplpegfcpmflaaGreat
open Go.RowKit Go.Am
attribute [local irreducible] aop OpsL Trip zC z36 OpsK OpsR
theorem zal : Am.z0F Tryz.prog 73 := ⟨Tryz.f73, Tryz.func73, by kernel_rfl, by kernel_rfl⟩
theorem zhk (W0 : World) {nx : Nat} {H : Heap} {ob : Option (Nat × Nat)} {v : Value} {l : List (R4)} (h : zcm H ob v l) (hl : l.length ≤ 100000) :
  ACalls Tryz.prog W0 73 [v] nx H fun v' nx' H' => nx' = nx ∧ zcm H' ob v' (z34 l) ∧ ∀ i, (∀ b t, ob = some (b, t) → i ≠ b) → H' i = H i := by
 have hrow := h.at z04;obtain ⟨va, vc, rfl⟩ := hrow.slice;refine ze (fn := Tryz.f73) (c := _) Tryz.func73 rfl (fun tm n hn0 htm => ?_);have e0 : tm 0 = .slice va l.length vc := htm 0;clear htm;replace hn0 : n = 61 := hn0;by_cases hsh : l.length < 2
 ·repeat (first | (refine z7 (by first | exact omv | exact z0x | exact z1s) ?_) | refine Trip.seq ?_ | refine zd ?_ | (refine OpsL.nil ?_; (change Trip _ _ _ _ _)))
  refine z0c ?_;refine z6V ?_;refine zdC ?_;exact ⟨.inr rfl, _, zh, rfl, by rw [z3S l (by omega)]; simp [z9, *], fun _ _ => rfl⟩
 ·obtain ⟨b, t, rfl⟩ : ∃ b t, ob = some (b, t) := by
   cases ob with
   | none => obtain ⟨_, _, h2⟩ := h; omega
   | some bt => exact ⟨_, _, rfl⟩
  obtain ⟨hv, _, rest, hH⟩ := h;obtain ⟨rfl, _, rfl⟩ := Value.slice.inj hv
  have hS : ∀ (G : Heap) (A rest : List Value), G b = some (.cells (A ++ rest) 4 (some t) false (some 45)) → ∀ k, k < l.length → z0P Tryz.prog G 27 (.slice (some ⟨b, 0, some t⟩) l.length l.length) (some (.int .i64 k)) none none = some (.slice (some ⟨b, 0 + k * 4, some t⟩) (l.length - k) (l.length - k)) := fun G A rest hG k hk => by
   have := zQ (P := Tryz.prog) (H := G) (t := 27) (el := 45) (sz := 4) (a := ⟨b, 0, some t⟩) (len := l.length) (cap := l.length) (l := k) (h := l.length) (tg := t) (lo := some (.int .i64 k)) (hi := none) (by exact rfl) (by exact rfl) hG rfl rfl rfl (.inr ⟨.i64, rfl⟩) (.inl ⟨rfl, rfl⟩) (by omega) (Nat.le_refl _);rw [if_neg (by omega)] at this;exact this
  have hS2 : ∀ (G : Heap) (A rest : List Value), G b = some (.cells (A ++ rest) 4 (some t) false (some 45)) → ∀ k, k ≤ l.length → z0P Tryz.prog G 27 (.slice (some ⟨b, 0, some t⟩) l.length l.length) none (some (.int .i64 k)) none = some (.slice (some ⟨b, 0, some t⟩) k k) := fun G A rest hG k hk => by
   have := zQ (P := Tryz.prog) (H := G) (t := 27) (el := 45) (sz := 4) (a := ⟨b, 0, some t⟩) (len := l.length) (cap := l.length) (l := 0) (h := k) (tg := t) (lo := none) (hi := some (.int .i64 k)) (by exact rfl) (by exact rfl) hG rfl rfl rfl (.inl ⟨rfl, rfl⟩) (.inr ⟨.i64, rfl⟩) (Nat.zero_le _) hk;simpa using this
  refine zhz ?_;refine zu (fun (k : Nat) st => ∃ (tm : Nat → Value), st = ⟨tm, n, H, nx⟩ ∧ tm 0 = .slice (some ⟨b, 0, some t⟩) l.length l.length ∧ tm 3 = .int .i64 k ∧ 1 ≤ k ∧ k ≤ l.length ∧ ∀ i (h : i < l.length), 0 < i → i < k → l[i - 1] ≠ l[i]) (fun k => l.length - k) 1 ?_ ?_
  ·exact ⟨_, rfl, stp, by simp [z9], by omega, by omega, fun i h h0 h1 => by omega⟩
  ·clear e0
   rintro k st ⟨tm, rfl, e0, e3, hk1, hk2, hne⟩;by_cases hlt : k < l.length
   ·repeat (first | (refine z7 (by first | exact omv | exact z1s) ?_) | refine Trip.seq ?_ | refine zd ?_)
    refine zaA ?_;have g1 := z0l z04 hH hlt;have g2 := z0l z04 hH (show k - 1 < l.length by omega);refine Trip.mono (Q := fun e st => e = .normal ∧ ∃ (tm' : Nat → Value), st = ⟨tm', n, H, nx⟩ ∧ tm' 25 = .bool (decide (l[k] = l[k - 1])) ∧ tm' 0 = .slice (some ⟨b, 0, some t⟩) l.length l.length ∧ tm' 3 = .int .i64 k) ?_ ?_
    ·refine OpsK.drawn (K := fun _ _ => True) z1j krf krf trivial ?_
     refine zdy ?_;refine z7 (za (k := 4) (vs := z0i l[k]) evr (by exact rfl) rfl (by exact rfl) (by show z0L H ⟨b, 0 + (k : Int).toNat * 4, some t⟩ 4 = _; rw [Int.toNat_natCast]; exact g1)) ?_;refine zez ?_;refine z7 (za (k := 4) (vs := z0i l[k - 1]) evr (by exact rfl) rfl (by exact rfl) (by show z0L H ⟨b, 0 + ((k : Int) - 1).toNat * 4, some t⟩ 4 = _; rw [show ((k : Int) - 1).toNat = k - 1 by omega]; exact g2)) ?_;refine z9u ?_;refine z7 (z7I (r := decide (l[k] = l[k - 1])) evd evd krf (eqC _ _ _ _ rfl)) ?_;refine z5q ?_;exact ⟨rfl, _, rfl, by simp [z9], stp, stp⟩
    ·rintro e st ⟨rfl, tm', rfl, e25, e0, e3⟩
     dsimp only;clear g1 g2;by_cases heq : l[k] = l[k - 1]
     ·rw [decide_eq_true heq] at e25
      repeat fail
      refine z8g ?_;refine z7 (zS (a := some (.int .i64 k)) (b := none) (c := none) evd (by simp only [z0G, ASt.ev, z9, ↓reduceIte, reduceIte, Option.some.injEq, Nat.reduceEqDiff, Option.map_some, *]) rfl rfl (hS H _ _ hH k hlt)) ?_;refine z6y ?_
      have hd0 : z34 (l.take (k + 1)) = l.take k := by
       rw [z1k l (by omega) hlt, if_pos heq.symm];exact z21 l k (by omega) (fun i hi a c => hne i hi a c)
      refine zu (fun (k2 : Nat) st => ∃ (tm : Nat → Value) (H' : Heap) (A : List (R4)) (rest : List Value) (kk : Nat), st = ⟨tm, n, H', nx⟩ ∧ H' b = some (.cells (A.flatMap z0i ++ rest) 4 (some t) false (some 45)) ∧ A.length = l.length ∧ (∀ i, i ≠ b → H' i = H i) ∧ tm 0 = .slice (some ⟨b, 0, some t⟩) l.length l.length ∧ tm 3 = .int .i64 kk ∧ tm 4 = .slice (some ⟨b, 0 + k * 4, some t⟩) (l.length - k) (l.length - k) ∧ tm 5 = .int .i64 k2 ∧
       1 ≤ kk ∧ kk ≤ k + k2 - 1 ∧ 1 ≤ k2 ∧ k2 ≤ l.length - k ∧ A.take kk = z34 (l.take (k + k2)) ∧ A.drop (k + k2 - 1) = l.drop (k + k2 - 1)) (fun k2 => l.length - k - k2) 1 ?_ ?_
      ·exact ⟨_, H, l, rest, k, rfl, hH, rfl, fun _ _ => rfl, stp, stp, stp, stp, by omega, by omega, by omega, by omega, hd0.symm, rfl⟩
      ·clear e0 e3 e25
       rintro k2 st ⟨tm, H', A, rest', kk, rfl, hG, hAl, hsame, e0, e3, e4, e5, k1, k3, k4, k5, hta, hda⟩;by_cases hlt2 : k + k2 < l.length
       ·have hA1 : A[k + k2]'(by omega) = l[k + k2] := by
         have : (A.drop (k + k2 - 1))[1]? = (l.drop (k + k2 - 1))[1]? := by rw [hda]
         rw [List.getElem?_drop, List.getElem?_drop, show k + k2 - 1 + 1 = k + k2 by omega, List.getElem?_eq_getElem (by omega), List.getElem?_eq_getElem hlt2] at this;exact Option.some.inj this
        have hA2 : A[k + k2 - 1]'(by omega) = l[k + k2 - 1] := by
         have : (A.drop (k + k2 - 1))[0]? = (l.drop (k + k2 - 1))[0]? := by rw [hda]
         rw [List.getElem?_drop, List.getElem?_drop, Nat.add_zero, List.getElem?_eq_getElem (by omega), List.getElem?_eq_getElem (by omega)] at this;exact Option.some.inj this
        have hstep := z1k l (m := k + k2) (by omega) hlt2
        have hdn : A.drop (k + (k2 + 1) - 1) = l.drop (k + (k2 + 1) - 1) := by
         have := congrArg (List.drop 1) hda;rw [List.drop_drop, List.drop_drop] at this;rw [show k + (k2 + 1) - 1 = k + k2 - 1 + 1 by omega]; exact this
        have g1 := z0l z04 hG (show k + k2 < A.length by omega);have g2 := z0l z04 hG (show k + k2 - 1 < A.length by omega);rw [hA1] at g1;rw [hA2] at g2
        replace g1 : z0L H' ⟨b, 0 + k * 4 + (k2 : Int).toNat * 4, some t⟩ 4 = some (z0i l[k + k2]) := by
         rw [Int.toNat_natCast, show 0 + k * 4 + k2 * 4 = 0 + (k + k2) * 4 by omega]; exact g1
        replace g2 : z0L H' ⟨b, 0 + k * 4 + ((k2 : Int) - 1).toNat * 4, some t⟩ 4 = some (z0i l[k + k2 - 1]) := by
         rw [show 0 + k * 4 + ((k2 : Int) - 1).toNat * 4 = 0 + (k + k2 - 1) * 4 by omega]; exact g2
        refine z6t ?_;refine zaA ?_;refine Trip.mono (Q := fun e st => e = .normal ∧ ∃ (tm' : Nat → Value), st = ⟨tm', n, H', nx⟩ ∧ tm' 44 = .bool (!decide (l[k + k2] = l[k + k2 - 1])) ∧ tm' 0 = .slice (some ⟨b, 0, some t⟩) l.length l.length ∧ tm' 3 = .int .i64 kk ∧ tm' 4 = .slice (some ⟨b, 0 + k * 4, some t⟩) (l.length - k) (l.length - k) ∧ tm' 5 = .int .i64 k2) ?_ ?_
        ·refine OpsK.drawn (K := fun _ _ => True) z1j krf krf trivial ?_
         refine zdy ?_;refine z7 (za (k := 4) (vs := z0i l[k + k2]) evr (by exact rfl) rfl (by exact rfl) g1) ?_;refine zez ?_;refine z7 (za (k := 4) (vs := z0i l[k + k2 - 1]) evr (by exact rfl) rfl (by exact rfl) g2) ?_;refine z9u ?_;refine z7 (z3U (r := decide (l[k + k2] = l[k + k2 - 1])) evd evd krf (eqC _ _ _ _ rfl)) ?_;refine z5q ?_;exact ⟨rfl, _, rfl, by simp [z9], stp, stp, stp, stp⟩
        ·rintro e st ⟨rfl, tm', rfl, e44, e0, e3, e4, e5⟩
         dsimp only;by_cases he2 : l[k + k2] = l[k + k2 - 1]
         ·rw [decide_eq_true he2] at e44
          rw [if_pos he2.symm] at hstep
          repeat fail
          refine zg2 ?_;exact ⟨k2 + 1, ⟨_, H', A, rest', kk, rfl, hG, hAl, hsame, stp, stp, stp, stp, k1, by omega, by omega, by omega, by rw [hta, ← hstep]; rfl, hdn⟩, by omega⟩
         ·rw [decide_eq_false he2] at e44
          rw [if_neg (fun h => he2 h.symm)] at hstep
          repeat fail
          refine z05 ?_;refine zhp ?_;refine z7 (za (k := 4) (vs := z0i l[k + k2]) evr (by exact rfl) rfl (by exact rfl) g1) ?_;refine z6E ?_
          refine OpsL.upd (zp (u := .agg (z0i l[k + k2]).toArray) (o := .cells ((A.set kk l[k + k2]).flatMap z0i ++ rest') 4 (some t) false (some 45)) evr evd (by exact rfl) rfl (by
           have := z4G (x := l[k + k2]) z04 z5C hG (show kk < A.length by omega);show z3Q H' ⟨b, 0 + (kk : Int).toNat * 4, some t⟩ (z0i l[k + k2]) = _;rw [Int.toNat_natCast]; exact this)) ?_
          refine zg7 ?_;refine ⟨k2 + 1, ⟨_, _, A.set kk l[k + k2], rest', kk + 1, rfl, z6, by rw [List.length_set]; exact hAl, fun i hi => by show Heap.put H' b _ i = _; rw [z5 hi]; exact hsame i hi, stp, stp, stp, stp, by omega, by omega, by omega, by omega, ?_, ?_⟩, by omega⟩
          ·rw [show k + (k2 + 1) = k + k2 + 1 by omega, hstep, ← hta, List.take_add_one, List.getElem?_set_self (by omega), List.take_set_of_le (Nat.le_refl _)]
           rfl
          ·rw [List.drop_set_of_lt (by omega)]
           exact hdn
       ·have hk2 : k2 = l.length - k := by omega
        rw [show k + k2 = l.length by omega, List.take_length] at hta;refine z6t ?_;refine z8c ?_;refine zdJ ?_;refine z7 (zS (a := some (.int .i64 kk)) (b := none) (c := none) evd (by simp only [z0G, ASt.ev, z9, ↓reduceIte, reduceIte, Option.some.injEq, Nat.reduceEqDiff, Option.map_some, *]) rfl rfl (hS H' _ _ hG kk (by omega))) ?_;obtain ⟨rest2, hend⟩ := z5y (k := kk) (z := [.int .i64 0, .int .i64 0, .int .i64 0, .int .i64 0]) z04 rfl rfl hG (by omega);rw [hAl, hta] at hend;refine OpsL.clear (z := [.int .i64 0, .int .i64 0, .int .i64 0, .int .i64 0]) evr (by exact rfl) (by exact rfl) (by omega) hend ?_;refine z7i ?_;have hlen : (z34 l).length = kk := by rw [← hta, List.length_take]; omega
        refine z7 (zS (a := none) (b := some (.int .i64 kk)) (c := none) evd rfl (by simp only [z0G, ASt.ev, z9, ↓reduceIte, reduceIte, Option.some.injEq, Nat.reduceEqDiff, Option.map_some, *]) rfl (hS2 _ _ rest2 z6 kk (by omega))) ?_;refine zhu ?_;refine ⟨.inr rfl, _, zh, rfl, ?_, fun i hi => ?_⟩
        ·refine ⟨by simp [z9, hlen], by rw [z03 z04], rest2, z6⟩
        ·show Heap.put H' b _ i = _
         rw [z5 (hi b t rfl)];exact hsame i (hi b t rfl)
     ·rw [decide_eq_false heq] at e25
      repeat fail
      refine zg2 ?_;refine ⟨k + 1, ⟨_, rfl, stp, stp, by omega, by omega, fun i hi h0 h1 => ?_⟩, by omega⟩;by_cases hik : i = k
      ·subst hik
       exact fun hh => heq hh.symm
      ·exact hne i hi h0 (by omega)
   ·repeat (first | (refine z7 (by first | exact omv | exact z1s) ?_) | refine Trip.seq ?_ | refine zd ?_)
    refine z8c ?_;refine z9w ?_;have hd := z21 l l.length (Nat.le_refl _) (fun i hi a c => hne i hi a (by omega));rw [List.take_length] at hd;refine ⟨.inr rfl, _, zh, rfl, ?_, fun _ _ => rfl⟩;rw [hd];exact ⟨stp, by rw [z03 z04], rest, hH⟩
end Go.Proofs.YteplpegfcpmflaaGreat
