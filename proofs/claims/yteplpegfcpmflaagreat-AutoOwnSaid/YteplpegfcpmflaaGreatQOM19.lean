import Derived.Test.YteplpegfcpmflaaGreatQOM18
set_option linter.unusedSimpArgs false
set_option linter.unusedVariables false
set_option maxRecDepth 100000
set_option maxHeartbeats 64000000
namespace Go.Proofs.YteplpegfcpmflaaGreat
open Go.RowKit Go.Am
attribute [local irreducible] aop OpsL Trip zI z2r OpsK OpsR
theorem z9Y {r : List Int} {k : Nat} {x : Int} (h : z0P lt1 r) (hk : k ≤ r.length) (h1 : ∀ j (hj : j < r.length), k ≤ j → lt1 x r[j]) (h2 : k = 0 ∨ ∃ h : k - 1 < r.length, lt1 r[k - 1] x) : z0P lt1 (r.take k ++ x :: r.drop k) := by
 unfold z0P at *;have hp : (r.take k ++ r.drop k).Pairwise lt1 := by rw [List.take_append_drop]; exact h
 obtain ⟨p1, p2, p3⟩ := List.pairwise_append.1 hp
 have hxd : ∀ y ∈ r.drop k, lt1 x y := fun y hy => by
  obtain ⟨i, hi, rfl⟩ := List.getElem_of_mem hy;rw [List.length_drop] at hi;rw [List.getElem_drop];exact h1 _ zom zom
 refine List.pairwise_append.2 ⟨p1, List.pairwise_cons.2 ⟨hxd, p2⟩, fun a ha b hb => ?_⟩
 have hax : lt1 a x := by
  obtain ⟨i, hi, rfl⟩ := List.getElem_of_mem ha;rw [List.length_take] at hi;rw [List.getElem_take];rcases h2 with h2 | ⟨hlt, h2⟩
  ·omega
  ·by_cases hik : i = k - 1
   ·subst hik; exact h2
   ·exact zbq.tr (List.pairwise_iff_getElem.1 h i (k - 1) zom hlt zom) h2
 rcases List.mem_cons.1 hb with rfl | hb
 ·exact hax
 ·exact zbq.tr hax (hxd b hb)
theorem zex {r : List Int} {k : Nat} {x y : Int} : y ∈ r.take k ++ x :: r.drop k ↔ y ∈ r ∨ y = x := by
 have : y ∈ r ↔ y ∈ r.take k ∨ y ∈ r.drop k := by rw [← List.mem_append, List.take_append_drop]
 rw [List.mem_append, List.mem_cons, this];constructor
 ·rintro (h | h | h)
  ·exact .inl (.inl h)
  ·exact .inr h
  ·exact .inl (.inr h)
 ·rintro ((h | h) | h)
  ·exact .inl h
  ·exact .inr (.inr h)
  ·exact .inr (.inl h)
theorem zbG {H : Heap} {ob : Option (Nat × Nat)} {v : Value} {l : List Int} {k : Nat} (h : z5H H ob v l) (hk : k ≤ l.length) :
  (∃ r, z0E Tryz.prog H 22 v none (some (.int .i64 k)) none = some r ∧ AtI H r (l.take k)) ∧ ∃ r, z0E Tryz.prog H 22 v (some (.int .i64 k)) none none = some r ∧ AtI H r (l.drop k) := by
 cases ob with
 | none =>
  obtain ⟨rfl, _, h2⟩ := h;have hl : l = [] := List.eq_nil_of_length_eq_zero h2;subst hl;have hk0 : k = 0 := by simpa using hk
  subst hk0;exact ⟨⟨_, z3f zxr (sz := 1) zxr (.inl ⟨rfl, rfl⟩) (.inr ⟨.i64, rfl⟩), .inl ⟨0, rfl, rfl⟩⟩, ⟨_, z3f zxr (sz := 1) zxr (.inr ⟨.i64, rfl⟩) (.inl ⟨rfl, rfl⟩), .inl ⟨0, rfl, rfl⟩⟩⟩
 | some bt =>
  obtain ⟨b, t⟩ := bt;obtain ⟨rfl, _, rest, ho⟩ := h;refine ⟨⟨_, z03 (el := 3) (sz := 1) (a := ⟨b, 0, some t⟩) (l := 0) (h := k) zxr zxr ho rfl rfl rfl (.inl ⟨rfl, rfl⟩) (.inr ⟨.i64, rfl⟩) (Nat.zero_le _) hk, ?_⟩, ⟨_, z03 (el := 3) (sz := 1) (a := ⟨b, 0, some t⟩) (l := k) (h := l.length) zxr zxr ho rfl rfl rfl (.inr ⟨.i64, rfl⟩) (.inl ⟨rfl, rfl⟩) hk (Nat.le_refl _), ?_⟩⟩
  ·rw [if_neg zom];refine .inr ⟨⟨b, 0 + 0 * 1, some t⟩, k - 0, by rw [List.length_take, Nat.min_eq_left hk, Nat.sub_zero], fun i hi => ?_⟩;rw [List.length_take] at hi;have := z0G (i := i) z04 ho zom;rw [List.getElem_take];show z0A H ⟨b, 0 + 0 * 1 + i * 1, some t⟩ 1 = _;rw [show 0 + 0 * 1 + i * 1 = 0 + i * 1 by omega];exact this
  ·refine .inr ⟨⟨b, 0 + k * 1, if k = l.length ∧ 0 < k then none else some t⟩, l.length - k, by rw [List.length_drop], fun i hi => ?_⟩;rw [List.length_drop] at hi;rw [if_neg zom];have := z0G (i := k + i) z04 ho zom;rw [List.getElem_drop];show z0A H ⟨b, 0 + k * 1 + i * 1, some t⟩ 1 = _;rw [show 0 + k * 1 + i * 1 = 0 + (k + i) * 1 by omega];exact this
theorem zem {H : Heap} {ob : Option (Nat × Nat)} {a : Option Addr} {m c : Nat} {l : List Int} {nx : Nat} (h : z5H H ob (.slice a m c) l) (hok : ∀ id o, H id = some o → id < nx) : ∀ p, a = some p → p.block < nx := by
 intro p hp;subst hp;cases ob with
 | none => obtain ⟨h1, _⟩ := h; cases h1
 | some bt =>
  obtain ⟨b, t⟩ := bt;obtain ⟨h1, _, rest, hH⟩ := h;obtain ⟨h3, _, _⟩ := Value.slice.inj h1;cases Option.some.inj h3;exact hok _ _ hH
theorem z2C : Am.z0O Tryz.prog 56 := ⟨Tryz.f56, Tryz.func56, by kernel_rfl, by kernel_rfl⟩
theorem zh3 {A : Prop} (h : A := by
 refine OpsL.nil ⟨x7, ?_⟩;clear hv1 hv2 p1 hrb hrb' hor hown g1;refine zg6 ?_;refine z0S (bytes := 8) (z := [.int .i64 0]) z04 z2k zom zsd hR7 hO7 evd evd (fun b t h => (hb7 b t h).2) zxr zxr zxr zxr zxr rfl (by simp; omega) zom ?_;intro u8 nx8 H8 o8 hA8;have x8 : Ext nx' H' nx8 H8 := ⟨by have := x7.1; have := hA8.le; omega, fun i hi => by rw [hA8.same i (by have := x7.1; omega) (fun b t h => by have := hb7 b t h; omega), x7.2 i hi]⟩;have k8 := hA8.ok (fun b t h => (hb7 b t h).2) k7
 have hb8 : ∀ b t, o8 = some (b, t) → nx' ≤ b ∧ b < nx8 := fun b t h => by
  obtain ⟨i1, i2⟩ := hA8.blk b t h;rcases i2 with rfl | ⟨t', h'⟩
  ·exact ⟨x7.1, i1⟩
  ·exact ⟨(hb7 _ _ h').1, i1⟩
 refine OpsL.nil ⟨x8, ?_⟩;refine zg6 ?_;refine z0S (bytes := 8) (z := [.int .i64 0]) z04 z2k zom zsd hA8.own (RowsAt.ext x8 hok' p2) evd evd (fun b t h => (hb8 b t h).2) zxr zxr zxr zxr zxr rfl (by simp; omega) zom ?_;intro u9 nx9 H9 o9 hA9;have x9 : Ext nx' H' nx9 H9 := ⟨by have := x8.1; have := hA9.le; omega, fun i hi => by rw [hA9.same i (by have := x8.1; omega) (fun b t h => by have := hb8 b t h; omega), x8.2 i hi]⟩
 have hb9 : ∀ b t, o9 = some (b, t) → nx' ≤ b ∧ b < nx9 := fun b t h => by
  obtain ⟨i1, i2⟩ := hA9.blk b t h;rcases i2 with rfl | ⟨t', h'⟩
  ·exact ⟨x8.1, i1⟩
  ·exact ⟨(hb8 _ _ h').1, i1⟩
 have hown9 : z5H H9 o9 u9 (r.take k ++ x :: r.drop k) := by
  have h := hA9.own;rw [List.append_assoc, List.singleton_append] at h;rcases h with h | ⟨_, h, _⟩
  ·exact h
  ·simp at h
 refine OpsL.nil ⟨x9, ?_⟩;refine ziQ ?_;refine ⟨x9, ?_⟩;refine z0M ?_;exact ⟨rfl, _, nx9, H9, o9, u9, rfl, x9, hown9, hb9, stp, stp, stp⟩) : A := h
theorem z8n (W0 : World) {nx : Nat} {H : Heap} {v : Value} {l : List Int} (hr : AtI H v l) (hm : l.length ≤ 100000) :
  ACalls Tryz.prog W0 56 [v] nx H fun v nx' H' => ∃ ob r, z0P lt1 r ∧ (∀ x, x ∈ r ↔ x ∈ l) ∧ r.length ≤ l.length ∧ z5H H' ob v r ∧ z2g nx H nx' H' ob := by
 obtain ⟨va, vc, rfl⟩ := hr.slice;refine zm (fn := Tryz.f56) (c := _) Tryz.func56 rfl (fun tm n hn0 htm => ?_);have e0 : tm 0 = .slice va l.length vc := htm 0;clear htm;replace hn0 : n = 60 := hn0;refine Trip.ok fun hok => ?_;replace hok : ∀ id o, H id = some o → id < nx := hok;refine zg9 ?_;refine zu (fun (i : Nat) st => ∃ (tm : Nat → Value) (nx' : Nat) (H' : Heap) (ob : Option (Nat × Nat)) (v : Value) (r : List Int), st = ⟨tm, n, H', nx'⟩ ∧ z2g nx H nx' H' ob ∧ z5H H' ob v r ∧ z0P lt1 r ∧ (∀ x, x ∈ r ↔ x ∈ l.take i) ∧ r.length ≤ i ∧ tm 0 = .slice va l.length vc ∧ tm 3 = v ∧ tm 4 = .int .i64 i ∧ i ≤ l.length) (fun i => l.length - i) 0 ?_ ?_
 ·exact ⟨_, _, _, none, _, [], rfl, ⟨Ext.refl, fun _ _ h => (by cases h)⟩, ⟨rfl, rfl, rfl⟩, List.Pairwise.nil, fun x => by simp, Nat.le_refl _, stp, stp, stp, zom⟩
 ·clear e0;rintro i st ⟨tm, nx', H', ob, v, r, rfl, ⟨hx, hob⟩, hown, hst, hmem, hrl, e0, e3, e4, hi⟩;refine Trip.ok fun hok' => ?_;replace hok' : ∀ id o, H' id = some o → id < nx' := hok';by_cases hlt : i < l.length
  ·obtain ⟨p, rfl, g0⟩ := zX hr hlt;have g1 : zh H' ⟨p.block, p.off + (i : Int).toNat * 1, p.spot⟩ (.int .i64 l[i]) := z1r hx hok g0;have hor := hown.at z04;have hrb : ∀ q c m, v = .slice (some q) m c → q.block < nx' := fun q c m e => zem (by rw [← e]; exact hown) hok' q rfl;obtain ⟨ra, rc, rfl⟩ := hor.slice;have hmt : ∀ x, x ∈ l.take (i + 1) ↔ x ∈ r ∨ x = l[i] := fun x => by rw [List.take_add_one, List.getElem?_eq_getElem hlt, Option.toList_some, List.mem_append, List.mem_singleton, hmem]
   generalize l[i] = x at *;refine z4s ?_;refine z6z ?_
   repeat (first | (refine zd (by first | exact omv | exact z0y | exact z1D) ?_) | refine Trip.seq ?_ | refine zk ?_ | refine Trip.block ?_ | (refine Trip.skip ?_; (change Trip _ _ _ _ _)) | (refine OpsL.nil ?_; (change Trip _ _ _ _ _)))
   -- where it belongs
   refine Trip.mono (Q := fun e st => e = .exit 2 ∧ ∃ (tm' : Nat → Value) (k : Nat), st = ⟨tm', n, H', nx'⟩ ∧ k ≤ r.length ∧ (∀ j (hj : j < r.length), k ≤ j → lt1 x r[j]) ∧ (k = 0 ∨ ∃ h : k - 1 < r.length, 0 < k ∧ ¬ lt1 x r[k - 1]) ∧ tm' 0 = .slice (some p) l.length vc ∧ tm' 3 = .slice ra r.length rc ∧ tm' 4 = .int .i64 i ∧ tm' 5 = .int .i64 k) ?_ ?_
   ·refine zu (fun (k : Nat) st => ∃ (tm : Nat → Value), st = ⟨tm, n, H', nx'⟩ ∧ k ≤ r.length ∧ (∀ j (hj : j < r.length), k ≤ j → lt1 x r[j]) ∧ tm 0 = .slice (some p) l.length vc ∧ tm 3 = .slice ra r.length rc ∧ tm 4 = .int .i64 i ∧ tm 5 = .int .i64 k) (fun k => k) r.length ?_ ?_
    ·exact ⟨_, rfl, Nat.le_refl _, fun j hj h => by omega, stp, stp, stp, stp⟩
    ·clear e0 e3 e4;rintro k st ⟨tm, rfl, hk, hgt, e0, e3, e4, e5⟩;by_cases hk0 : 0 < k
     ·obtain ⟨q, rfl, g2⟩ := z65 hor hk0 hk;replace g2 : zh H' ⟨q.block, q.off + ((k : Int) - 1).toNat * 1, q.spot⟩ (.int .i64 (r[k - 1]'zom)) := g2;refine z41 ?_;refine Trip.mono (Q := fun e st => e = .normal ∧ ∃ (tm' : Nat → Value), st = ⟨tm', n, H', nx'⟩ ∧ tm' 0 = .slice (some p) l.length vc ∧ tm' 3 = .slice (some q) r.length rc ∧ tm' 4 = .int .i64 i ∧ tm' 5 = .int .i64 k ∧ tm' 27 = .bool (decide (lt1 x (r[k - 1]'zom)))) ?_ ?_
      ·refine OpsK.drawn (K := fun _ _ => True) z0q krf krf trivial ?_;refine zg2 ?_;refine z2y ?_;refine z4X ?_;refine z89 ?_;refine z2P ?_;refine z89 ?_;refine zgy ?_;refine zfA ?_;refine zgy ?_
       repeat (refine zA ?_)
       refine zd (zaH) ?_;refine z9B ?_;exact ⟨rfl, _, rfl, stp, stp, stp, stp, by simp [zl, lt1]⟩
      ·clear e0 e3 e4 e5;rintro e st ⟨rfl, tm', rfl, e0, e3, e4, e5, e27⟩
       (change Trip _ _ _ _ _)
       by_cases hxl : lt1 x (r[k - 1]'zom)
       ·rw [decide_eq_true hxl] at e27
        repeat fail
        refine z11 ?_
        repeat (first | (refine zd (by first | exact omv | exact z0y | exact zct) ?_) | refine zk ?_ | refine Trip.block ?_ | (refine Trip.skip ?_; (change Trip _ _ _ _ _)) | (refine OpsL.nil ?_; ((repeat (refine zQ ?_)); dsimp only)))
        refine ⟨k - 1, ⟨_, rfl, zom, fun j hj h => ?_, stp, stp, stp, by simp [zl, *]; omega⟩, zom⟩;by_cases hjk : j = k - 1
        ·subst hjk; exact hxl
        ·exact hgt j hj zom
       ·rw [decide_eq_false hxl] at e27
        repeat fail
        refine z6y ?_;exact ⟨rfl, _, k, rfl, hk, hgt, .inr ⟨zom, hk0, hxl⟩, stp, stp, stp, stp⟩
     ·have hk00 : k = 0 := by omega
      subst hk00;refine z41 ?_;refine Trip.mono (Q := fun e st => e = .normal ∧ ∃ (tm' : Nat → Value), st = ⟨tm', n, H', nx'⟩ ∧ tm' 0 = .slice (some p) l.length vc ∧ tm' 3 = .slice ra r.length rc ∧ tm' 4 = .int .i64 i ∧ tm' 5 = .int .i64 (0 : Nat) ∧ tm' 27 = .bool false) ?_ ?_
      ·refine OpsK.drawn (K := fun _ _ => True) z0q krf krf trivial ?_;refine zg2 ?_;refine z1L ?_;refine z4X ?_;refine zg3 ?_;refine ze1 ?_;refine zaC ?_;refine OpsK.nil ?_;exact ⟨rfl, _, rfl, stp, stp, stp, stp, by simp [zl]⟩
      ·clear e0 e3 e4 e5;rintro e st ⟨rfl, tm', rfl, e0, e3, e4, e5, e27⟩
       (change Trip _ _ _ _ _)
       repeat fail
       refine z6y ?_;exact ⟨rfl, _, 0, rfl, hk, hgt, .inl rfl, stp, stp, stp, stp⟩
   ·clear e0 e3 e4;rintro e st ⟨rfl, tm', k, rfl, hk, hgt, hle, e0, e3, e4, e5⟩;refine z4r ?_;refine z41 ?_;refine Trip.mono (Q := fun e st => e = .normal ∧ ∃ (tm' : Nat → Value) (B : Bool), st = ⟨tm', n, H', nx'⟩ ∧ tm' 0 = .slice (some p) l.length vc ∧ tm' 3 = .slice ra r.length rc ∧ tm' 4 = .int .i64 i ∧ tm' 5 = .int .i64 k ∧ tm' 43 = .bool B ∧ (B = true → k = 0 ∨ ∃ h : k - 1 < r.length, r[k - 1] ≠ x) ∧ (B = false → x ∈ r)) ?_ ?_
    ·by_cases hk0 : 0 < k
     ·obtain ⟨q, rfl, g2⟩ := z65 hor hk0 hk;replace g2 : zh H' ⟨q.block, q.off + ((k : Int) - 1).toNat * 1, q.spot⟩ (.int .i64 (r[k - 1]'zom)) := g2;refine OpsK.drawn (K := fun _ _ => True) z0q krf krf trivial ?_;refine zg2 ?_;refine z0e ?_;refine z4X ?_;refine zfA ?_;refine zgy ?_;refine z89 ?_;refine z2P ?_;refine z89 ?_;refine zgy ?_
      repeat (refine zA ?_)
      refine zd (zhT) ?_;refine z88 ?_;refine zaC ?_;refine OpsK.nil ?_;refine ⟨rfl, _, decide (r[k - 1]'zom ≠ x), rfl, stp, stp, stp, stp, by simp [zl], fun h => .inr ⟨zom, by simpa using h⟩, fun h => ?_⟩;have : r[k - 1]'zom = x := by simpa using h
      rw [← this];exact List.getElem_mem _
     ·have hk00 : k = 0 := by omega
      subst hk00;refine OpsK.drawn (K := fun _ _ => True) z0q krf krf trivial ?_;refine zg2 ?_;refine z0d ?_;refine z4X ?_;refine zg3 ?_;refine ze1 ?_;refine z9p ?_;refine OpsK.nil ?_;exact ⟨rfl, _, true, rfl, stp, stp, stp, stp, by simp [zl], fun h => .inl rfl, fun h => (by cases h)⟩
    ·clear e0 e3 e4 e5;rintro e st ⟨rfl, tm', B, rfl, e0, e3, e4, e5, e43, hB1, hB2⟩
     (change Trip _ _ _ _ _)
     cases B with
     | false =>
      have hxr := hB2 rfl
      repeat fail
      refine zg4 ?_;refine ⟨i + 1, ⟨_, nx', H', ob, _, r, rfl, ⟨hx, hob⟩, hown, hst, fun y => ?_, zom, stp, stp, stp, zom⟩, zom⟩;rw [hmt];constructor
      ·exact .inl
      ·rintro (h | h)
       ·exact h
       ·rw [h]; exact hxr
     | true =>
      have hfront : k = 0 ∨ ∃ h : k - 1 < r.length, lt1 r[k - 1] x := by
       rcases hB1 rfl with h | ⟨h, hne⟩
       ·exact .inl h
       ·rcases hle with h0 | ⟨h0, h1, h2⟩
        ·exact .inl h0
        ·refine .inr ⟨h0, ?_⟩;by_cases h3 : lt1 r[k - 1] x
         ·exact h3
         ·exact absurd (zbq.tot h3 h2) hne
      obtain ⟨⟨v1, hv1, p1⟩, ⟨v2, hv2, p2⟩⟩ := zbG hown hk;have hrb' : ∀ q, ra = some q → q.block < nx' := fun q e => hrb q rc r.length (by rw [e])
      repeat fail
      refine z11 ?_
      repeat fail
      refine Trip.mono (Q := fun e st => e = .normal ∧ ∃ (tm' : Nat → Value) (nx5 : Nat) (H5 : Heap) (ob5 : Option (Nat × Nat)) (v5 : Value), st = ⟨tm', n, H5, nx5⟩ ∧ Ext nx' H' nx5 H5 ∧ z5H H5 ob5 v5 (r.take k ++ x :: r.drop k) ∧ (∀ b t, ob5 = some (b, t) → nx' ≤ b ∧ b < nx5) ∧ tm' 0 = .slice (some p) l.length vc ∧ tm' 3 = v5 ∧ tm' 4 = .int .i64 i) ?_ ?_
      ·refine zG [0, 4, 9, 10, 14, 15] (K := fun nx1 H1 => Ext nx' H' nx1 H1) z0q krf krf [1, 2, 3, 5, 6, 7, 8, 11, 12, 13, 0, 9, 4, 10, 14, 15] krf Ext.refl ?_;refine z5z ?_;refine zx (v := v1) rfl krf zsd Ext.refl (fun H2 nx2 hK => z06 (r := v1) (a := none) (b := some (.int .i64 k)) (c := none) evr rfl zer rfl (by rw [z6o (fun q hq => hK.2 _ (hrb' q hq))]; exact hv1)) ?_;refine z5z ?_;refine z3C ?_;refine zx (v := .int .i64 x) rfl krf zsd Ext.refl (fun H2 nx2 hK => zp evr zxr rfl (z1r hK hok' g1)) ?_;refine z5z ?_;refine zx (v := v2) rfl krf zsd Ext.refl (fun H2 nx2 hK => z06 (r := v2) (a := some (.int .i64 k)) (b := none) (c := none) evr zer rfl rfl (by rw [z6o (fun q hq => hK.2 _ (hrb' q hq))]; exact hv2)) ?_;refine z07 krf (zt rfl rfl ?_) (zt rfl rfl ?_)
       ·skip;refine OpsL.new zsd (zq (l := []) (r := (.slice (some ⟨nx', 0, none⟩) 0 0, .new (.cells [] 1 none false (some 3)))) (by simp only [z0i]) krf) ?_;have xGA : Ext nx' H' (nx' + 1) ((H').put nx' (.cells [] 1 none false (some 3))) := zj;have kGA := zF (o := (.cells [] 1 none false (some 3))) hok';have hEGA : RowE z9x 1 3 ((H').put nx' (.cells [] 1 none false (some 3))) none (.slice (some ⟨nx', 0, none⟩) 0 0) ([] : List Int) := .inr ⟨rfl, rfl, nx', 1, false, _, rfl, zb⟩;generalize ((H').put nx' (.cells [] 1 none false (some 3))) = GA at *;refine OpsL.nil ⟨xGA, ?_⟩;refine z07 krf (zt rfl rfl ?_) (zt rfl rfl ?_)
        ·skip;refine OpsL.new zsd (zq (l := [(0, .int .i64 x)]) (r := (.slice (some ⟨(nx' + 1), 0, none⟩) 1 1, .new (.cells [.int .i64 x] 1 none false (some 3)))) zeq krf) ?_;have xGB : Ext (nx' + 1) GA ((nx' + 1) + 1) ((GA).put (nx' + 1) (.cells [.int .i64 x] 1 none false (some 3))) := zj;have kGB := zF (o := (.cells [.int .i64 x] 1 none false (some 3))) kGA
         have hOGB : AtI ((GA).put (nx' + 1) (.cells [.int .i64 x] 1 none false (some 3))) (.slice (some ⟨(nx' + 1), 0, none⟩) 1 1) [x] := by
          refine .inr ⟨⟨(nx' + 1), 0, none⟩, 1, rfl, fun j hj => ?_⟩;have : j = 0 := by simpa using hj
          subst this;exact z01 (by show 0 + 1 ≤ 1; decide)
         generalize ((GA).put (nx' + 1) (.cells [.int .i64 x] 1 none false (some 3))) = GB at *;have xB := xGA.trans xGB;refine OpsL.nil ⟨xB, ?_⟩;refine zg6 ?_;refine z0S (bytes := 8) (z := [.int .i64 0]) z04 z2k zom zsd (hEGA.same xGB kGA (fun b t h => by cases h)) (RowsAt.ext xB hok' p1) evd evd (fun b t h => by cases h) zxr zxr zxr zxr zxr rfl (by simp; omega) zom ?_;intro u7 nx7 H7 o7 hA7;have x7 : Ext nx' H' nx7 H7 := xB.trans ⟨hA7.le, fun i hi => hA7.same i hi (fun b t h => by cases h)⟩;have k7 := hA7.ok (fun b t h => by cases h) kGB
         have hb7 : ∀ b t, o7 = some (b, t) → nx' ≤ b ∧ b < nx7 := fun b t h => by
          obtain ⟨i1, i2⟩ := hA7.blk b t h;rcases i2 with rfl | ⟨t', h'⟩
          ·exact ⟨zom, i1⟩
          ·cases h'
         have hR7 := hA7.own;rw [List.nil_append] at hR7;have hO7 := RowsAt.ext (nx' := nx7) (H' := H7) ⟨hA7.le, fun i hi => hA7.same i hi (fun b t h => by cases h)⟩ kGB hOGB;exact zh3
        ·skip;refine z0S (bytes := 8) (z := [.int .i64 0]) z04 z2k zom zsd hEGA (RowsAt.ext xGA hok' p1) evd evd (fun b t h => by cases h) zxr zxr zxr zxr zxr rfl (by simp; omega) zom ?_;intro u6 nx6 H6 o6 hA6;have x6 : Ext nx' H' nx6 H6 := xGA.trans ⟨hA6.le, fun i hi => hA6.same i hi (fun b t h => by cases h)⟩;have k6 := hA6.ok (fun b t h => by cases h) kGA
         have hb6 : ∀ b t, o6 = some (b, t) → nx' ≤ b ∧ b < nx6 := fun b t h => by
          obtain ⟨i1, i2⟩ := hA6.blk b t h;rcases i2 with rfl | ⟨t', h'⟩
          ·exact ⟨zom, i1⟩
          ·cases h'
         have hR6 := hA6.own;rw [List.nil_append] at hR6;refine OpsL.nil ⟨x6, ?_⟩;refine zg6 ?_;refine OpsL.new zsd (zq (l := [(0, .int .i64 x)]) (r := (.slice (some ⟨nx6, 0, none⟩) 1 1, .new (.cells [.int .i64 x] 1 none false (some 3)))) zeq krf) ?_;have xH7 : Ext nx6 H6 (nx6 + 1) ((H6).put nx6 (.cells [.int .i64 x] 1 none false (some 3))) := zj;have kH7 := zF (o := (.cells [.int .i64 x] 1 none false (some 3))) k6
         have hOH7 : AtI ((H6).put nx6 (.cells [.int .i64 x] 1 none false (some 3))) (.slice (some ⟨nx6, 0, none⟩) 1 1) [x] := by
          refine .inr ⟨⟨nx6, 0, none⟩, 1, rfl, fun j hj => ?_⟩;have : j = 0 := by simpa using hj
          subst this;exact z01 (by show 0 + 1 ≤ 1; decide)
         generalize ((H6).put nx6 (.cells [.int .i64 x] 1 none false (some 3))) = H7 at *;obtain ⟨nx7, hnx7⟩ : ∃ m, m = nx6 + 1 := ⟨_, rfl⟩;rw [← hnx7] at xH7 kH7 ⊢;have x7 : Ext nx' H' nx7 H7 := x6.trans xH7;have k7 := kH7;have hO7 := hOH7;have hR7 := hR6.same xH7 k6 (fun b t h => (hb6 b t h).2);have hb7 : ∀ b t, o6 = some (b, t) → nx' ≤ b ∧ b < nx7 := fun b t h => by have := hb6 b t h; omega
         exact zh3
       ·skip;refine OpsL.new zsd (zq (l := [(0, .int .i64 x)]) (r := (.slice (some ⟨nx', 0, none⟩) 1 1, .new (.cells [.int .i64 x] 1 none false (some 3)))) zeq krf) ?_;have xGA : Ext nx' H' (nx' + 1) ((H').put nx' (.cells [.int .i64 x] 1 none false (some 3))) := zj;have kGA := zF (o := (.cells [.int .i64 x] 1 none false (some 3))) hok'
        have hOGA : AtI ((H').put nx' (.cells [.int .i64 x] 1 none false (some 3))) (.slice (some ⟨nx', 0, none⟩) 1 1) [x] := by
         refine .inr ⟨⟨nx', 0, none⟩, 1, rfl, fun j hj => ?_⟩;have : j = 0 := by simpa using hj
         subst this;exact z01 (by show 0 + 1 ≤ 1; decide)
        generalize ((H').put nx' (.cells [.int .i64 x] 1 none false (some 3))) = GA at *;refine OpsL.nil ⟨xGA, ?_⟩;refine zg6 ?_;refine OpsL.new zsd (zq (l := []) (r := (.slice (some ⟨(nx' + 1), 0, none⟩) 0 0, .new (.cells [] 1 none false (some 3)))) (by simp only [z0i]) krf) ?_;have xGB : Ext (nx' + 1) GA ((nx' + 1) + 1) ((GA).put (nx' + 1) (.cells [] 1 none false (some 3))) := zj;have kGB := zF (o := (.cells [] 1 none false (some 3))) kGA;have hEGB : RowE z9x 1 3 ((GA).put (nx' + 1) (.cells [] 1 none false (some 3))) none (.slice (some ⟨(nx' + 1), 0, none⟩) 0 0) ([] : List Int) := .inr ⟨rfl, rfl, (nx' + 1), 1, false, _, rfl, zb⟩;generalize ((GA).put (nx' + 1) (.cells [] 1 none false (some 3))) = GB at *;have xB := xGA.trans xGB;refine OpsL.nil ⟨xB, ?_⟩;refine zg6 ?_;refine z0S (bytes := 8) (z := [.int .i64 0]) z04 z2k zom zsd hEGB (RowsAt.ext xB hok' p1) evd evd (fun b t h => by cases h) zxr zxr zxr zxr zxr rfl (by simp; omega) zom ?_;intro u7 nx7 H7 o7 hA7;have x7 : Ext nx' H' nx7 H7 := xB.trans ⟨hA7.le, fun i hi => hA7.same i hi (fun b t h => by cases h)⟩;have k7 := hA7.ok (fun b t h => by cases h) kGB
        have hb7 : ∀ b t, o7 = some (b, t) → nx' ≤ b ∧ b < nx7 := fun b t h => by
         obtain ⟨i1, i2⟩ := hA7.blk b t h;rcases i2 with rfl | ⟨t', h'⟩
         ·exact ⟨zom, i1⟩
         ·cases h'
        have hR7 := hA7.own;rw [List.nil_append] at hR7;have hO7 := RowsAt.ext (nx' := nx7) (H' := H7) ⟨hA7.le, fun i hi => hA7.same i hi (fun b t h => by cases h)⟩ kGB (RowsAt.ext xGB kGA hOGA);exact zh3
      ·skip;clear e0 e3 e4 e5 e43;rintro e st ⟨rfl, tm', nx5, H5, ob5, v5, rfl, x5, hown5, hb5, e0, e3, e4⟩;refine zfq ?_;refine ⟨i + 1, ⟨_, nx5, H5, ob5, v5, r.take k ++ x :: r.drop k, rfl, ⟨hx.trans x5, fun b t h => by have := hb5 b t h; have := hx.1; omega⟩, hown5, z9Y hst hk hgt hfront, fun y => by rw [hmt, zex], ?_, stp, stp, stp, zom⟩, zom⟩;rw [List.length_append, List.length_cons, List.length_take, List.length_drop];omega
  ·have hin : i = l.length := by omega
   subst hin;rw [List.take_length] at hmem;refine z4s ?_;refine z7a ?_;refine z9w ?_;exact ⟨.inr rfl, _, zy, ob, r, hst, hmem, hrl, stp, hx, hob⟩
end Go.Proofs.YteplpegfcpmflaaGreat
namespace Go.Am
theorem z00 {P : Program} {nx : Nat} {H : Heap} {ev : Operand → Option Value} {dst : Option Tmp} {type : TypeId} {pos : String} {after : Array Edge} {guard : Option (Nat × Bool)} {t e : TypeId} {x i : Operand} {a : Addr} {len sz : Nat} {k : IntKind} {j : Int} (hx : ev x = some (.pointer (some a))) (hi : ev i = some (.int k j)) (hu : P.underlying t = some (.array len e)) (hs : z1w P e = some sz) (h0 : 0 ≤ j) (h1 : j < len) :
  aop P H nx ev ⟨dst, .indexAddr t x i, type, pos, after, guard⟩ = some (.pointer (some ⟨a.block, a.off + j.toNat * sz, a.spot⟩), .none) := by
 simp [aop, z3g, hx, hi, hu, hs, h0, h1]
def l4 (x : R4) : List Int := [x.1, x.2.1, x.2.2.1, x.2.2.2]
theorem z4B (x : R4) : (l4 x).length = 4 := rfl
theorem zj5 {x y : R4} {i : Nat} (hi : i < 4) (hs : ∀ (j : Nat), j < i → (l4 x)[j]? = (l4 y)[j]?) (hne : (l4 x)[i]'(by rw [z4B]; exact hi) ≠ (l4 y)[i]'(by rw [z4B]; exact hi)) : lt4 x y ↔ (l4 x)[i]'(by rw [z4B]; exact hi) < (l4 y)[i]'(by rw [z4B]; exact hi) := by
 obtain ⟨a, b, c, d⟩ := x;obtain ⟨a2, b2, c2, d2⟩ := y
 match i, hi with
 | 0, _ => simp [l4, lt4] at *; omega
 | 1, _ =>
  have h0 := hs 0 zom;simp [l4, lt4] at *; omega
 | 2, _ =>
  have h0 := hs 0 zom;have h1 := hs 1 zom;simp [l4, lt4] at *; omega
 | 3, _ =>
  have h0 := hs 0 zom;have h1 := hs 1 zom;have h2 := hs 2 zom;simp [l4, lt4] at *; omega
theorem zfZ {x y : R4} (hs : ∀ (j : Nat), j < 4 → (l4 x)[j]? = (l4 y)[j]?) : ¬ lt4 x y := by
 obtain ⟨a, b, c, d⟩ := x;obtain ⟨a2, b2, c2, d2⟩ := y;have h0 := hs 0 zom;have h1 := hs 1 zom;have h2 := hs 2 zom;have h3 := hs 3 zom;simp [l4, lt4] at *; omega
end Go.Am
namespace Go.Proofs.YteplpegfcpmflaaGreat
open Go.RowKit Go.Am
attribute [local irreducible] aop OpsL Trip zI z2r OpsK OpsR
theorem zap : Am.z0O Tryz.prog 77 := ⟨Tryz.f77, Tryz.func77, by kernel_rfl, by kernel_rfl⟩
theorem zcR {H : Heap} {b : Nat} {x : R4} {q : Option TypeId} (h : H b = some (.cells (e4 x) 0 none false q)) {i : Nat} (hi : i < 4) : zh H ⟨b, 0 + (i : Int).toNat * 1, none⟩ (.int .i64 ((l4 x)[i]'(by rw [z4B]; exact hi))) := by
 rw [Int.toNat_natCast, Nat.zero_add, Nat.mul_one];refine ze h ?_
 match i, hi with
 | 0, _ => rfl
 | 1, _ => rfl
 | 2, _ => rfl
 | 3, _ => rfl
theorem zhC (W0 : World) {nx : Nat} {H : Heap} (x y : R4) :
  ACalls Tryz.prog W0 77 [.agg (zS x).toArray, .agg (zS y).toArray] nx H fun v nx' H' => v = .bool (decide (lt4 x y)) ∧ Ext nx H nx' H' := by
 refine zm (fn := Tryz.f77) (c := _) Tryz.func77 rfl (fun tm n hn0 htm => ?_);have e0 : tm 0 = .agg (zS x).toArray := htm 0;have e1 : tm 1 = .agg (zS y).toArray := htm 1;clear htm;replace hn0 : n = 24 := hn0;refine z5h ?_;refine OpsL.new zsd (z0a evr) ?_;refine OpsL.new zsd (z0a evr) ?_;obtain ⟨G, hG⟩ : ∃ G, G = (H.put nx (.cells (Value.agg (zS x).toArray).cells.toList 0 none false (some 62))).put (nx + 1) (.cells (Value.agg (zS y).toArray).cells.toList 0 none false (some 62)) := ⟨_, rfl⟩;have hx0 : Ext nx H (nx + 1 + 1) G := by rw [hG]; exact zj.trans zj
 have gx : G nx = some (.cells (e4 x) 0 none false (some 62)) := by rw [hG, za zom, zb]; rfl
 have gy : G (nx + 1) = some (.cells (e4 y) 0 none false (some 62)) := by rw [hG, zb]; rfl
 rw [← hG];clear hG e0 e1;refine zg9 ?_;refine zu (fun (i : Nat) st => ∃ (tm : Nat → Value), st = ⟨tm, n, G, nx + 1 + 1⟩ ∧ tm 2 = .pointer (some ⟨nx, 0, none⟩) ∧ tm 3 = .pointer (some ⟨nx + 1, 0, none⟩) ∧ tm 5 = .int .i64 i ∧ i ≤ 4 ∧ ∀ (j : Nat), j < i → (l4 x)[j]? = (l4 y)[j]?) (fun i => 4 - i) 0 ?_ ?_
 ·exact ⟨_, rfl, stp, stp, stp, zom, fun j h => by omega⟩
 ·rintro i st ⟨tm, rfl, e2, e3, e5, hi, hs⟩;by_cases hlt : i < 4
  ·have cx := zcR gx hlt;have cy := zcR gy hlt;have hX := zj5 hlt hs;have hXe : (l4 x)[i]? = some ((l4 x)[i]'(by rw [z4B]; exact hlt)) := List.getElem?_eq_getElem _;have hYe : (l4 y)[i]? = some ((l4 y)[i]'(by rw [z4B]; exact hlt)) := List.getElem?_eq_getElem _;generalize (l4 x)[i]'(by rw [z4B]; exact hlt) = p at *;generalize (l4 y)[i]'(by rw [z4B]; exact hlt) = q at *;refine zaD ?_;refine z9r ?_;refine Trip.mono (Q := fun e st => e = .normal ∧ ∃ (tm' : Nat → Value), st = ⟨tm', n, G, nx + 1 + 1⟩ ∧ tm' 16 = .bool (decide (p ≠ q)) ∧ tm' 2 = .pointer (some ⟨nx, 0, none⟩) ∧ tm' 3 = .pointer (some ⟨nx + 1, 0, none⟩) ∧ tm' 5 = .int .i64 i) ?_ ?_
   ·refine OpsK.drawn (K := fun _ _ => True) z0q krf krf trivial ?_;refine zg2 ?_;refine zd (z00 (len := 4) (e := 3) (sz := 1) evr evr zxr zxr zom zom) ?_;refine z4f ?_;refine z2P ?_;refine z9v ?_;refine zg2 ?_;refine zd (z00 (len := 4) (e := 3) (sz := 1) evr evr zxr zxr zom zom) ?_;refine z4f ?_;refine z2P ?_;refine z9v ?_;refine z2P ?_;refine zd (zhT) ?_;refine z5S ?_;exact ⟨rfl, _, rfl, by simp [zl], stp, stp, stp⟩
   ·clear e2 e3 e5;rintro e st ⟨rfl, tm', rfl, e16, e2, e3, e5⟩
    (change Trip _ _ _ _ _)
    by_cases hpq : p = q
    ·rw [decide_eq_false (fun h => h hpq)] at e16
     repeat fail
     refine zg4 ?_;refine ⟨i + 1, ⟨_, rfl, stp, stp, stp, zom, fun j hj => ?_⟩, zom⟩;by_cases e : j = i
     ·subst e; rw [hXe, hYe, hpq]
     ·exact hs j zom
    ·rw [decide_eq_true hpq] at e16
     repeat fail
     refine z11 ?_;refine z41 ?_;refine Trip.mono (Q := fun e st => e = .normal ∧ ∃ (tm' : Nat → Value), st = ⟨tm', n, G, nx + 1 + 1⟩ ∧ tm' 4 = .bool (decide (p < q))) ?_ ?_
     ·refine OpsK.drawn (K := fun _ _ => True) z0q krf krf trivial ?_;refine zg2 ?_;refine zd (z00 (len := 4) (e := 3) (sz := 1) evr evr zxr zxr zom zom) ?_;refine z4f ?_;refine z2P ?_;refine z9v ?_;refine zg2 ?_;refine zd (z00 (len := 4) (e := 3) (sz := 1) evr evr zxr zxr zom zom) ?_;refine z4f ?_;refine z2P ?_;refine z9v ?_;refine z2P ?_;refine zd (zaH) ?_;refine z88 ?_
      repeat (first | refine zd (by exact z0y) ?_ | (refine OpsL.nil ?_; (skip)))
      refine OpsK.nil ?_;exact ⟨rfl, _, rfl, by simp [zl]⟩
     ·clear e16 e2 e3 e5;rintro e st ⟨rfl, tm', rfl, e4'⟩
      (change Trip _ _ _ _ _)
      repeat (first | (refine Trip.ret ?_; ((repeat (refine z0W ?_)); dsimp only)))
      refine ⟨.inr rfl, _, zy, ?_, hx0⟩;simp only [e4', hX hpq]
  ·have hin : i = 4 := by omega
   subst hin;refine zaD ?_;refine z7a ?_;refine zhQ ?_;refine ⟨.inr rfl, _, zy, by simp [zl, zfZ hs], hx0⟩
end Go.Proofs.YteplpegfcpmflaaGreat
namespace Go.Am
section
variable {α : Type} {lt : α → α → Prop}
structure MergeI (lt : α → α → Prop) (r1 r2 out : List α) (i k : Nat) : Prop where
 strict : z0P lt out
 mem : ∀ z, z ∈ out ↔ z ∈ r1.take i ∨ z ∈ r2.take k
 low1 : ∀ z ∈ out, ∀ (j : Nat) (h : j < r1.length), i ≤ j → ¬ lt r1[j] z
 low2 : ∀ z ∈ out, ∀ (j : Nat) (h : j < r2.length), k ≤ j → ¬ lt r2[j] z
theorem z9n (r1 r2 : List α) : MergeI lt r1 r2 [] 0 0 := ⟨List.Pairwise.nil, fun z => (by simp), fun z h => (by cases h), fun z h => (by cases h)⟩
theorem MergeI.swap {r1 r2 out : List α} {i k : Nat} (h : MergeI lt r1 r2 out i k) : MergeI lt r2 r1 out k i := ⟨h.strict, fun z => by rw [h.mem]; exact Or.comm, h.low2, h.low1⟩
theorem zb7 {l : List α} {x : α} (h : l.getLast? = some x) : x ∈ l := List.mem_of_getLast? h
theorem MergeI.step (ho : OrdL lt) {r1 r2 out : List α} {i k : Nat} (hs1 : z0P lt r1) (hs2 : z0P lt r2) (h : MergeI lt r1 r2 out i k) (hi : i < r1.length) (hk : ∀ (h : k < r2.length), ¬ lt r2[k] r1[i]) :
  (out.getLast? = some r1[i] → MergeI lt r1 r2 out (i + 1) k) ∧ (out.getLast? ≠ some r1[i] → MergeI lt r1 r2 (out ++ [r1[i]]) (i + 1) k) := by
 have hmem : ∀ z, z ∈ r1.take (i + 1) ↔ z ∈ r1.take i ∨ z = r1[i] := fun z => by
  rw [List.take_succ_eq_append_getElem hi, List.mem_append, List.mem_singleton]
 have hx1 : ∀ (j : Nat) (h : j < r1.length), i + 1 ≤ j → ¬ lt r1[j] r1[i] := fun j hj hij hlt => by
  have := List.pairwise_iff_getElem.1 hs1 i j hi hj zom;exact ho.irr _ (ho.tr this hlt)
 have hx2 : ∀ (j : Nat) (h : j < r2.length), k ≤ j → ¬ lt r2[j] r1[i] := fun j hj hkj hlt => by
  by_cases e : j = k
  ·subst e; exact hk hj hlt
  ·have := List.pairwise_iff_getElem.1 hs2 k j zom hj zom;exact hk zom (ho.tr this hlt)
 constructor
 ·intro hl;refine ⟨h.strict, fun z => ?_, fun z hz j hj hij => h.low1 z hz j hj zom, h.low2⟩;rw [h.mem, hmem];constructor
  ·rintro (a | a)
   ·exact .inl (.inl a)
   ·exact .inr a
  ·rintro ((a | a) | a)
   ·exact .inl a
   ·subst a; exact (h.mem _).1 (zb7 hl)
   ·exact .inr a
 ·intro hl
  have hbel : ∀ z ∈ out, lt z r1[i] := fun z hz => by
   by_cases hc : lt z r1[i]
   ·exact hc
   ·have e := ho.tot hc (h.low1 z hz i hi (Nat.le_refl _));subst e;exfalso
    obtain ⟨y, hy⟩ : ∃ y, out.getLast? = some y := by
     cases hg : out.getLast? with
     | some y => exact ⟨y, rfl⟩
     | none => rw [List.getLast?_eq_none_iff] at hg; rw [hg] at hz; cases hz
    have hym := zb7 hy;obtain ⟨p, hp, hpe⟩ := List.getElem_of_mem hz;have hlast : out[out.length - 1]? = some y := by rw [← List.getLast?_eq_getElem?]; exact hy
    obtain ⟨hl1, hl2⟩ := List.getElem?_eq_some_iff.1 hlast;by_cases hpl : p = out.length - 1
    ·subst hpl; rw [hpe] at hl2; exact hl (by rw [hy, ← hl2])
    ·have := List.pairwise_iff_getElem.1 h.strict p (out.length - 1) hp hl1 zom;rw [hpe, hl2] at this;exact h.low1 y hym i hi (Nat.le_refl _) this
  have hin : ∀ z, z ∈ out ++ [r1[i]] ↔ z ∈ out ∨ z = r1[i] := fun z => by rw [List.mem_append, List.mem_singleton]
  refine ⟨List.pairwise_append.2 ⟨h.strict, List.pairwise_singleton _ _, fun a ha b hb => ?_⟩, fun z => ?_, fun z hz j hj hij => ?_, fun z hz j hj hkj => ?_⟩
  ·rw [List.mem_singleton] at hb; subst hb; exact hbel a ha
  ·rw [hin, h.mem, hmem];constructor
   ·rintro ((a | a) | a)
    ·exact .inl (.inl a)
    ·exact .inr a
    ·exact .inl (.inr a)
   ·rintro ((a | a) | a)
    ·exact .inl (.inl a)
    ·exact .inr a
    ·exact .inl (.inr a)
  ·rcases (hin z).1 hz with hz | rfl
   ·exact h.low1 z hz j hj zom
   ·exact hx1 j hj hij
  ·rcases (hin z).1 hz with hz | rfl
   ·exact h.low2 z hz j hj hkj
   ·exact hx2 j hj hkj
theorem MergeI.all [DecidableEq α] [DecidableRel lt] (ho : OrdL lt) {l r1 r2 out : List α} {m : Nat} (h1 : r1 = zB lt (l.take m)) (h2 : r2 = zB lt (l.drop m)) (h : MergeI lt r1 r2 out r1.length r2.length) : out = zB lt l := by
 refine z2J ho h.strict fun x => ?_;rw [h.mem, List.take_length, List.take_length, h1, h2, z34, z34, ← List.mem_append, List.take_append_drop]
end
end Go.Am
namespace Go.Proofs.YteplpegfcpmflaaGreat
open Go.RowKit Go.Am
attribute [local irreducible] aop OpsL Trip zI z2r OpsK OpsR
def InQ (H : Heap) (v : Value) (l : List R4) : Prop :=
 (v = .slice none 0 0 ∧ l = []) ∨ ∃ b off t c cs, v = .slice (some ⟨b, off, some t⟩) l.length c ∧ H b = some (.cells cs 4 (some t) false (some 62)) ∧ off + l.length * 4 ≤ cs.length ∧ ∀ (j : Nat) (h : j < l.length), (cs.drop (off + j * 4)).take 4 = zS l[j]
theorem InQ.ext {nx nx' : Nat} {H H' : Heap} {v : Value} {l : List R4} (h : InQ H v l) (hx : Ext nx H nx' H') (hok : ∀ id o, H id = some o → id < nx) : InQ H' v l := by
 rcases h with h | ⟨b, off, t, c, cs, h1, h2, h3⟩
 ·exact .inl h
 ·exact .inr ⟨b, off, t, c, cs, h1, by rw [hx.2 b (hok _ _ h2)]; exact h2, h3⟩
theorem InQ.at {H : Heap} {v : Value} {l : List R4} (h : InQ H v l) : RowsAt zS 4 H v l := by
 rcases h with ⟨rfl, rfl⟩ | ⟨b, off, t, c, cs, rfl, h2, h3, h4⟩
 ·exact .inl ⟨0, rfl, rfl⟩
 ·refine .inr ⟨⟨b, off, some t⟩, c, rfl, fun j hj => ?_⟩;have := h4 j hj;unfold z0A;simp only [h2];rw [if_pos ⟨trivial, zom⟩, this]
theorem InQ.slice {H : Heap} {v : Value} {l : List R4} (h : InQ H v l) : ∃ a c, v = .slice a l.length c := h.at.slice
theorem InQ.own {H : Heap} {ob : Option (Nat × Nat)} {v : Value} {l : List R4} (h : OwnOf zS 4 62 H ob v l) : InQ H v l := by
 cases ob with
 | none =>
  obtain ⟨rfl, _, h2⟩ := h;exact .inl ⟨rfl, List.eq_nil_of_length_eq_zero h2⟩
 | some bt =>
  obtain ⟨b, t⟩ := bt;obtain ⟨rfl, h1, rest, ho⟩ := h;refine .inr ⟨b, 0, t, _, _, rfl, ho, by rw [List.length_append, h1]; omega, fun j hj => ?_⟩;have hf := z53 (enc := zS) z0f l j hj;have hlen := z0j z0f l;rw [Nat.zero_add, List.drop_append_of_le_length zom, List.take_append_of_le_length (by rw [List.length_drop]; omega)];exact hf
theorem InQ.take {nx : Nat} {H : Heap} {v : Value} {l : List R4} {k : Nat} (h : InQ H v l) (hok : ∀ id o, H id = some o → id < nx) (hk : k ≤ l.length) (h0 : 0 < l.length) : ∃ r, ∀ (nx' : Nat) (H' : Heap), Ext nx H nx' H' → z0E Tryz.prog H' 94 v none (some (.int .i64 k)) none = some r ∧ InQ H' r (l.take k) := by
 rcases h with ⟨_, rfl⟩ | ⟨b, off, t, c, cs, rfl, h2, h3, h4⟩
 ·simp at h0
 ·refine ⟨.slice (some ⟨b, off + 0 * 4, if 0 = l.length ∧ 0 < 0 then none else some t⟩) (k - 0) (k - 0), fun nx' H' hx => ?_⟩;have h2' : H' b = some (.cells cs 4 (some t) false (some 62)) := by rw [hx.2 b (hok _ _ h2)]; exact h2
  refine ⟨z03 (el := 62) (sz := 4) (a := ⟨b, off, some t⟩) (l := 0) (h := k) zxr zxr h2' rfl rfl rfl (.inl ⟨rfl, rfl⟩) (.inr ⟨.i64, rfl⟩) (Nat.zero_le _) hk, ?_⟩;rw [if_neg zom];refine .inr ⟨b, off + 0 * 4, t, k - 0, cs, by rw [List.length_take, Nat.min_eq_left hk, Nat.sub_zero], h2', by rw [List.length_take]; omega, fun j hj => ?_⟩;rw [List.length_take] at hj;rw [List.getElem_take, show off + 0 * 4 + j * 4 = off + j * 4 by omega];exact h4 j zom
theorem InQ.drop {nx : Nat} {H : Heap} {v : Value} {l : List R4} {k : Nat} (h : InQ H v l) (hok : ∀ id o, H id = some o → id < nx) (hk : k < l.length) : ∃ r, ∀ (nx' : Nat) (H' : Heap), Ext nx H nx' H' → z0E Tryz.prog H' 94 v (some (.int .i64 k)) none none = some r ∧ InQ H' r (l.drop k) := by
 rcases h with ⟨_, rfl⟩ | ⟨b, off, t, c, cs, rfl, h2, h3, h4⟩
 ·simp at hk
 ·refine ⟨.slice (some ⟨b, off + k * 4, if k = l.length ∧ 0 < k then none else some t⟩) (l.length - k) (l.length - k), fun nx' H' hx => ?_⟩;have h2' : H' b = some (.cells cs 4 (some t) false (some 62)) := by rw [hx.2 b (hok _ _ h2)]; exact h2
  refine ⟨z03 (el := 62) (sz := 4) (a := ⟨b, off, some t⟩) (l := k) (h := l.length) zxr zxr h2' rfl rfl rfl (.inr ⟨.i64, rfl⟩) (.inl ⟨rfl, rfl⟩) zom (Nat.le_refl _), ?_⟩;rw [if_neg zom];refine .inr ⟨b, off + k * 4, t, l.length - k, cs, by rw [List.length_drop], h2', by rw [List.length_drop]; omega, fun j hj => ?_⟩;rw [List.length_drop] at hj;rw [List.getElem_drop, show off + k * 4 + j * 4 = off + (k + j) * 4 by omega];exact h4 (k + j) zom
theorem eqQ (H : Heap) (x y : R4) (r : Bool) (hr : decide (x = y) = r) : aEq Tryz.prog H 60 62 (.agg (zS x).toArray) (.agg (zS y).toArray) = some r := by
 obtain ⟨a, b, c, d⟩ := x;obtain ⟨a2, b2, c2, d2⟩ := y;have hsz : z1w Tryz.prog 3 = some 1 := by kernel_rfl
 have hr4 : List.range 4 = [0, 1, 2, 3] := rfl;have hu : Tryz.prog.underlying 62 = some (.array 4 3) := by kernel_rfl
 have hi : Tryz.prog.underlying 3 = some (.int .i64) := by kernel_rfl
 have h1 : ∀ p q : Int, aEq Tryz.prog H 59 3 (.int .i64 p) (.int .i64 q) = some (p == q) := fun p q => by simp [aEq, hi]
 have hg : ∀ (l : List Value) (i : Nat) (k : Int), l[i]? = some (.int .i64 k) → z0C Tryz.prog 3 l i = some (.int .i64 k) := fun l i k h => by simp [z0C, hi, z2t, hsz, h]
 have key : aEq Tryz.prog H 60 62 (.agg (zS (a, b, c, d)).toArray) (.agg (zS (a2, b2, c2, d2)).toArray) = some ((a == a2) && (b == b2) && (c == c2) && (d == d2)) := by
  have e : aEq Tryz.prog H 60 62 (.agg (zS (a, b, c, d)).toArray) (.agg (zS (a2, b2, c2, d2)).toArray) = z4h Tryz.prog (aEq Tryz.prog H 59) 3 1 (zS (a, b, c, d)) (zS (a2, b2, c2, d2)) [0, 1, 2, 3] := by
   rw [aEq];simp only [hu, hsz, hr4]
  rw [e];simp only [z4h, hg (zS (a, b, c, d)) (0 * 1) a rfl, hg (zS (a, b, c, d)) (1 * 1) b rfl, hg (zS (a, b, c, d)) (2 * 1) c rfl, hg (zS (a, b, c, d)) (3 * 1) d rfl, hg (zS (a2, b2, c2, d2)) (0 * 1) a2 rfl, hg (zS (a2, b2, c2, d2)) (1 * 1) b2 rfl, hg (zS (a2, b2, c2, d2)) (2 * 1) c2 rfl, hg (zS (a2, b2, c2, d2)) (3 * 1) d2 rfl, h1];cases (a == a2) <;> cases (b == b2) <;> cases (c == c2) <;> cases (d == d2) <;> rfl
 rw [key, ← hr];congr 1;rw [Bool.eq_iff_iff];simp [and_assoc]
end Go.Proofs.YteplpegfcpmflaaGreat
namespace Go.Proofs.YteplpegfcpmflaaGreat
open Go.RowKit Go.Am
attribute [local irreducible] aop OpsL Trip zI z2r OpsK OpsR
abbrev zfu (H : Heap) (ob : Option (Nat × Nat)) (v : Value) (l : List R4) : Prop := OwnOf zS 4 62 H ob v l
theorem z3b : Am.z0O Tryz.prog 57 := ⟨Tryz.f57, Tryz.func57, by kernel_rfl, by kernel_rfl⟩
theorem z8U {l : List R4} (h : l.length < 2) : l = zB lt4 l := by
 match l, h with
 | [], _ => rfl
 | [x], _ => rfl
def z4 : List Value := rep 4 [.int .i64 0]
theorem zgN (W0 : World) {nx : Nat} {H : Heap} {v : Value} {l : List R4} (hq : InQ H v l) (hm : l.length ≤ 1000)
  (ih : ∀ {nx : Nat} {H : Heap} {v : Value} {l' : List R4}, l'.length < l.length → InQ H v l' → ACalls Tryz.prog W0 57 [v] nx H fun v nx' H' => RowsAt zS 4 H' v (zB lt4 l') ∧ Ext nx H nx' H') :
  ACalls Tryz.prog W0 57 [v] nx H fun v nx' H' => RowsAt zS 4 H' v (zB lt4 l) ∧ Ext nx H nx' H' := by
 obtain ⟨va, vc, rfl⟩ := hq.slice;refine zm (fn := Tryz.f57) (c := _) Tryz.func57 rfl (fun tm n hn0 htm => ?_);have e0 : tm 0 = .slice va l.length vc := htm 0;clear htm;replace hn0 : n = 88 := hn0;refine Trip.ok fun hok => ?_;replace hok : ∀ id o, H id = some o → id < nx := hok;by_cases hsh : l.length < 2
 ·repeat (first | (refine zd (by first | exact omv | exact z0y | exact z1D) ?_) | refine Trip.seq ?_ | refine zk ?_ | (refine OpsL.nil ?_; (change Trip _ _ _ _ _)))
  refine z6z ?_;refine zcr ?_;refine ⟨.inr rfl, _, zy, ?_, Ext.refl⟩;rw [← z8U hsh];simpa [zl, *] using hq.at
 ·obtain ⟨v1, hv1⟩ := hq.take hok (k := l.length / 2) zom zom;obtain ⟨v2, hv2⟩ := hq.drop hok (k := l.length / 2) zom;have hq2 : (l.length : Int) / 2 = ((l.length / 2 : Nat) : Int) := by omega
  have hl1 : (l.take (l.length / 2)).length < l.length := by rw [List.length_take]; omega
  have hl2 : (l.drop (l.length / 2)).length < l.length := by rw [List.length_drop]; omega
  refine zgl ?_;refine z7a ?_
  repeat (first | refine Trip.seq ?_ | (refine Trip.skip ?_; (change Trip _ _ _ _ _)))
  refine Trip.mono (Q := fun e st => e = .normal ∧ ∃ (tm' : Nat → Value) (nx1 : Nat) (H1 : Heap) (w1 w2 : Value), st = ⟨tm', n, H1, nx1⟩ ∧ Ext nx H nx1 H1 ∧ (∀ id o, H1 id = some o → id < nx1) ∧ RowsAt zS 4 H1 w1 (zB lt4 (l.take (l.length / 2))) ∧ RowsAt zS 4 H1 w2 (zB lt4 (l.drop (l.length / 2))) ∧ tm' 3 = w1 ∧ tm' 4 = w2) ?_ ?_
  ·refine zG [5, 11] (K := fun nx1 H1 => Ext nx H nx1 H1) z0q krf krf [0, 1, 2, 3, 4, 6, 7, 8, 9, 10, 5, 11, 12, 13] krf Ext.refl ?_;refine z5z ?_;refine zeX ?_;refine z1R (v := .int .i64 ((l.length / 2 : Nat) : Int)) zsd (by rw [← hq2]; exact z2m evd evr zom zom zom) ?_;refine z3B ?_;refine zx (v := v1) rfl krf zsd Ext.refl (fun H2 nx2 hK => z06 (r := v1) (a := none) (b := some (.int .i64 (l.length / 2 : Nat))) (c := none) evd rfl (by simp only [z2d, ASt.ev, zl, ↓reduceIte, reduceIte, Option.some.injEq, Nat.reduceEqDiff, Option.map_some]) rfl (hv1 _ _ hK).1) ?_;refine z5z ?_;refine zx (v := .int .i64 l.length) rfl krf zsd Ext.refl (fun H2 nx2 hK => z1D) ?_;refine zg5 ?_;refine z1R (v := .int .i64 ((l.length / 2 : Nat) : Int)) zsd (by rw [← hq2]; exact z2m evd evr zom zom zom) ?_;refine z3B ?_;refine zx (v := v2) rfl krf zsd Ext.refl (fun H2 nx2 hK => z06 (r := v2) (a := some (.int .i64 (l.length / 2 : Nat))) (b := none) (c := none) evd (by simp only [z2d, ASt.ev, zl, ↓reduceIte, reduceIte, Option.some.injEq, Nat.reduceEqDiff, Option.map_some]) rfl rfl (hv2 _ _ hK).1) ?_;refine z05 krf (z0w rfl rfl zsd zxr evd z3b (ih hl1 (hv1 _ _ Ext.refl).2).ok ?_);rintro w1 nx1 H1 ⟨⟨r1, x1⟩, ok1⟩;refine ⟨x1, ?_⟩;refine z05 krf (z0w rfl rfl zsd zxr evd z3b (ih hl2 (hv2 _ _ x1).2).ok ?_);rintro w2 nx2 H2 ⟨⟨r2, x2⟩, ok2⟩;refine ⟨x1.trans x2, ?_⟩;refine zg5 ?_
   repeat (first | refine zd (by exact z0y) ?_ | (refine OpsL.nil ?_; (skip)))
   refine zbo ?_;exact ⟨rfl, _, nx2, H2, w1, w2, rfl, x1.trans x2, ok2, r1.ext x2 ok1, r2, stp, stp⟩
  ·clear e0 hv1 hv2;rintro e st ⟨rfl, tm', nx1, H1, w1, w2, rfl, hx1, hok1, hr1, hr2, e3, e4⟩
   (change Trip _ _ _ _ _)
   obtain ⟨a1, c1, rfl⟩ := hr1.slice;obtain ⟨a2, c2, rfl⟩ := hr2.slice;have hs1 := z2L zaG (l.take (l.length / 2));have hs2 := z2L zaG (l.drop (l.length / 2));have hb1 := zK (lt := lt4) (l.take (l.length / 2));have hb2 := zK (lt := lt4) (l.drop (l.length / 2));obtain ⟨r1, hr1e⟩ : ∃ r, zB lt4 (l.take (l.length / 2)) = r := ⟨_, rfl⟩;obtain ⟨r2, hr2e⟩ : ∃ r, zB lt4 (l.drop (l.length / 2)) = r := ⟨_, rfl⟩;rw [hr1e] at hr1 hs1 hb1 e3;rw [hr2e] at hr2 hs2 hb2 e4;have hb1' : r1.length ≤ 1000 := by omega
   have hb2' : r2.length ≤ 1000 := by omega
   clear hl1 hl2 hq2 ih hq hb1 hb2;refine zg9 ?_;refine zu (fun (p : Nat × Nat) st => ∃ (tm' : Nat → Value) (nx' : Nat) (H' : Heap) (ob : Option (Nat × Nat)) (v : Value) (out : List R4), st = ⟨tm', n, H', nx'⟩ ∧ z2g nx1 H1 nx' H' ob ∧ (∀ id o, H' id = some o → id < nx') ∧ zfu H' ob v out ∧ MergeI lt4 r1 r2 out p.1 p.2 ∧ out.length ≤ p.1 + p.2 ∧ tm' 3 = .slice a1 r1.length c1 ∧ tm' 4 = .slice a2 r2.length c2 ∧ tm' 5 = v ∧ tm' 6 = .int .i64 p.1 ∧ tm' 7 = .int .i64 p.2 ∧ p.1 ≤ r1.length ∧ p.2 ≤ r2.length) (fun p => (r1.length - p.1) + (r2.length - p.2)) (0, 0) ?_ ?_
   ·exact ⟨_, _, _, none, _, [], rfl, ⟨Ext.refl, fun _ _ h => (by cases h)⟩, hok1, ⟨rfl, rfl, rfl⟩, z9n _ _, Nat.le_refl _, stp, stp, stp, stp, stp, Nat.zero_le _, Nat.zero_le _⟩
   ·clear e3 e4;rintro ⟨i, k⟩ st ⟨tm, nx', H', ob, v, out, rfl, ⟨hx, hob⟩, hok', hown, hM, hol, e3, e4, e5, e6, e7, hi, hk⟩;dsimp only at hM hol e6 e7 hi hk;have hr1' := hr1.ext hx hok1;have hr2' := hr2.ext hx hok1;by_cases hdone : i = r1.length ∧ k = r2.length
    ·obtain ⟨rfl, rfl⟩ := hdone;refine z4s ?_;refine z0H ?_
     repeat (first | (refine zd (by first | exact omv | exact z1D) ?_) | refine zA ?_)
     refine z0H ?_;refine zcx ?_;refine z0h ?_;refine z9w ?_;refine ⟨.inr rfl, _, zy, ?_, hx1.trans hx⟩;rw [← hM.all zaG hr1e.symm hr2e.symm];simpa [zl, *] using hown.at z0f
    ·refine Trip.seq ?_;refine Trip.mono (Q := fun e st => e = .normal ∧ ∃ (tm' : Nat → Value), st = ⟨tm', n, H', nx'⟩ ∧ tm' 3 = .slice a1 r1.length c1 ∧ tm' 4 = .slice a2 r2.length c2 ∧ tm' 5 = v ∧ tm' 6 = .int .i64 i ∧ tm' 7 = .int .i64 k) ?_ ?_
     ·by_cases hi' : i < r1.length
      ·repeat (first | (refine zd (by first | exact omv | exact z1D) ?_) | refine Trip.seq ?_ | refine zk ?_)
       refine z0z ?_;refine zfy ?_;refine z11 ?_
       repeat (refine Trip.skip ?_; (skip))
       exact ⟨rfl, _, rfl, stp, stp, stp, stp, stp⟩
      ·repeat (first | (refine zd (by first | exact omv | exact z1D) ?_) | refine Trip.seq ?_ | refine zk ?_)
       refine z0H ?_
       repeat (first | (refine zd (by first | exact omv | exact z1D) ?_) | refine zA ?_)
       refine z0z ?_;refine zcx ?_;refine z11 ?_
       repeat (refine Trip.skip ?_; (skip))
       exact ⟨rfl, _, rfl, stp, stp, stp, stp, stp⟩
     ·clear e3 e4 e5 e6 e7;rintro e st ⟨rfl, tm', rfl, e3, e4, e5, e6, e7⟩
      (change Trip _ _ _ _ _)
      repeat (first | refine Trip.seq ?_ | refine zk ?_ | refine Trip.block ?_)
      refine OpsL.new zsd (zD (l := z4) krf) ?_;have hx4 : Ext nx' H' (nx' + 1) (H'.put nx' (.cells z4 0 none false (some 62))) := zj;have hok4 := zF (o := .cells z4 0 none false (some 62)) hok';have hX4 : (H'.put nx' (.cells z4 0 none false (some 62))) nx' = some (.cells z4 0 none false (some 62)) := zb;generalize H'.put nx' (.cells z4 0 none false (some 62)) = G4 at *;refine zdU ?_;refine Trip.mono (Q := fun e st => e = .normal ∧ ∃ (tm' : Nat → Value) (nx5 : Nat) (H5 : Heap) (B : Bool), st = ⟨tm', n, H5, nx5⟩ ∧ Ext (nx' + 1) G4 nx5 H5 ∧ (∀ id o, H5 id = some o → id < nx5) ∧ tm' 57 = .bool B ∧ tm' 8 = .pointer (some ⟨nx', 0, none⟩) ∧ tm' 3 = .slice a1 r1.length c1 ∧ tm' 4 = .slice a2 r2.length c2 ∧ tm' 5 = v ∧ tm' 6 = .int .i64 i ∧ tm' 7 = .int .i64 k ∧ (B = true → ∃ hi : i < r1.length, ∀ h : k < r2.length, ¬ lt4 r2[k] r1[i]) ∧ (B = false → ∃ hk : k < r2.length, ∀ h : i < r1.length, ¬ lt4 r1[i] r2[k])) ?_ ?_
      ·by_cases hk' : k = r2.length
       ·-- the second one is at its end
        refine zG [18] (K := fun _ _ => True) z0q krf krf [0, 1, 2, 3, 4, 5, 6, 7, 8, 9, 10, 11, 12, 13, 14, 15, 16, 17, 18, 19, 20, 21] krf trivial ?_;refine z5z ?_;refine zeX ?_;refine z0d ?_;refine z3B ?_;refine zg0 ?_;refine zgz ?_;refine z8f ?_;refine zdK ?_;refine ziR ?_;refine ziR ?_;refine zg5 ?_
        repeat (first | (refine OpsL.nil ?_; (skip)) | refine z3o ?_)
        refine zg5 ?_
        repeat (first | (refine OpsL.nil ?_; (skip)) | refine z3o ?_)
        refine z05 krf (z86 rfl rfl zsd zxr evd ?_);refine zg5 ?_
        repeat (first | (refine OpsL.nil ?_; (skip)) | refine z3o ?_)
        refine z8f ?_;refine z9p ?_;refine z0M ?_;exact ⟨rfl, _, _, _, true, rfl, Ext.refl, hok4, by simp [zl], stp, stp, stp, stp, stp, stp, fun _ => ⟨zom, fun h => by omega⟩, fun h => (by cases h)⟩
       ·by_cases hi' : i < r1.length
        ·obtain ⟨p1, rfl, g1⟩ := zX (hr1'.ext hx4 hok') hi';obtain ⟨p2, rfl, g2⟩ := zX (hr2'.ext hx4 hok') (show k < r2.length by omega);refine zG [18] (K := fun _ _ => True) z0q krf krf [0, 1, 2, 3, 4, 5, 6, 7, 8, 9, 10, 11, 12, 13, 14, 15, 16, 17, 18, 19, 20, 21] krf trivial ?_;refine z5z ?_;refine zeX ?_;refine z0e ?_;refine z3B ?_;refine zgG ?_;refine z0z ?_;refine z3B ?_;refine z8g ?_;refine z89 ?_;refine z8g ?_;refine ze2 ?_;refine zg5 ?_
         repeat (refine zA ?_)
         refine zd (zg (k := 4) (vs := zS r2[k]) evr zxr rfl zxr g2) ?_;refine z3B ?_;refine z8g ?_;refine z89 ?_;refine zg5 ?_;refine ze2 ?_;refine zg5 ?_
         repeat (refine zA ?_)
         refine zd (zg (k := 4) (vs := zS r1[i]) evr zxr rfl zxr g1) ?_;refine z3B ?_;refine z05 krf (z6M rfl rfl zsd zxr evd zxr evd evd zap (zhC W0 r2[k] r1[i]).ok ?_);rintro v9 nx9 H9 ⟨⟨rfl, hx9⟩, hok9⟩;refine ⟨trivial, ?_⟩;refine zg5 ?_
         repeat (first | refine zd (by exact z7e) ?_ | (refine OpsL.nil ?_; (skip)) | refine zA ?_)
         refine zg5 ?_
         repeat (first | refine zd (by exact z3i) ?_ | (refine OpsL.nil ?_; (skip)) | refine zA ?_)
         refine zg5 ?_;refine zaC ?_;refine z0M ?_;refine ⟨rfl, _, _, _, !decide (lt4 r2[k] r1[i]), rfl, hx9, hok9, by simp [zl], stp, stp, stp, stp, stp, stp, fun h => ⟨hi', fun _ => by simpa using h⟩, fun h => ⟨zom, fun _ hlt => ?_⟩⟩;have h2 : lt4 r2[k] r1[i] := by simpa using h
         exact zaG.irr _ (zaG.tr h2 hlt)
        ·refine zG [18] (K := fun _ _ => True) z0q krf krf [0, 1, 2, 3, 4, 5, 6, 7, 8, 9, 10, 11, 12, 13, 14, 15, 16, 17, 18, 19, 20, 21] krf trivial ?_;refine z5z ?_;refine zeX ?_;refine z0e ?_;refine z3B ?_;refine zgG ?_;refine z0H ?_;refine z3B ?_;refine z8g ?_;refine zgz ?_;refine zg5 ?_;refine zgz ?_;refine z8f ?_;refine zdK ?_;refine z05 krf (ActStep.skip rfl rfl zsd zxr evr ?_);refine z8f ?_
         repeat (first | refine zd (by exact z2Y) ?_ | (refine OpsL.nil ?_; (skip)) | refine zA ?_)
         refine zg5 ?_;refine zaC ?_;refine z0M ?_;exact ⟨rfl, _, _, _, false, rfl, Ext.refl, hok4, by simp [zl], stp, stp, stp, stp, stp, stp, fun h => (by cases h), fun _ => ⟨zom, fun h => by omega⟩⟩
      ·clear e3 e4 e5 e6 e7;rintro e st ⟨rfl, tm', nx5, H5, B, rfl, hx5, hok5, e57, e8, e3, e4, e5, e6, e7, hB1, hB2⟩
       (change Trip _ _ _ _ _)
       have hX5 : H5 nx' = some (.cells z4 0 none false (some 62)) := (hx5.2 nx' (Nat.lt_succ_self _)).trans hX4;refine Trip.mono (Q := fun e st => e = .normal ∧ ∃ (tm' : Nat → Value) (H6 : Heap) (X : R4) (i' k' : Nat), st = ⟨tm', n, H6, nx5⟩ ∧ H6 nx' = some (.cells (zS X) 0 none false (some 62)) ∧ (∀ j, j ≠ nx' → H6 j = H5 j) ∧ tm' 8 = .pointer (some ⟨nx', 0, none⟩) ∧ tm' 3 = .slice a1 r1.length c1 ∧ tm' 4 = .slice a2 r2.length c2 ∧ tm' 5 = v ∧ tm' 6 = .int .i64 i' ∧ tm' 7 = .int .i64 k' ∧ i' ≤ r1.length ∧ k' ≤ r2.length ∧ i' + k' = i + k + 1 ∧ (out.getLast? = some X → MergeI lt4 r1 r2 out i' k') ∧ (out.getLast? ≠ some X → MergeI lt4 r1 r2 (out ++ [X]) i' k')) ?_ ?_
       ·cases B with
        | true =>
         obtain ⟨hi2, hlow⟩ := hB1 rfl;obtain ⟨p1, rfl, g1⟩ := zX ((hr1'.ext hx4 hok').ext hx5 hok4) hi2
         repeat fail
         refine z11 ?_;refine zfl ?_;refine zd (zg (k := 4) (vs := zS r1[i]) evr zxr rfl zxr g1) ?_
         repeat fail
         refine OpsL.upd (zw (k := 4) (u := .agg (zS r1[i]).toArray) evd evd zxr rfl (o := .cells (zS r1[i]) 0 none false (some 62)) (zE (vs := zS r1[i]) hX5 rfl rfl)) ?_
         repeat (first | (refine zd (by first | exact omv | exact z0y | exact z5G) ?_) | refine zk ?_ | (refine OpsL.nil ?_; (first | (change Trip _ _ _ _ _) | (dsimp only))))
         exact ⟨rfl, _, _, r1[i], i + 1, k, rfl, zb, fun j hj => za hj, stp, stp, stp, stp, stp, stp, zom, zom, zom, fun h => (hM.step zaG hs1 hs2 hi2 hlow).1 h, fun h => (hM.step zaG hs1 hs2 hi2 hlow).2 h⟩
        | false =>
         obtain ⟨hi2, hlow⟩ := hB2 rfl;obtain ⟨p1, rfl, g1⟩ := zX ((hr2'.ext hx4 hok').ext hx5 hok4) hi2
         repeat fail
         refine z0h ?_;refine zfl ?_;refine zd (zg (k := 4) (vs := zS r2[k]) evr zxr rfl zxr g1) ?_
         repeat fail
         refine OpsL.upd (zw (k := 4) (u := .agg (zS r2[k]).toArray) evd evd zxr rfl (o := .cells (zS r2[k]) 0 none false (some 62)) (zE (vs := zS r2[k]) hX5 rfl rfl)) ?_
         repeat (first | (refine zd (by first | exact omv | exact z0y | exact z5G) ?_) | refine zk ?_ | (refine OpsL.nil ?_; (first | (change Trip _ _ _ _ _) | (dsimp only))))
         exact ⟨rfl, _, _, r2[k], i, k + 1, rfl, zb, fun j hj => za hj, stp, stp, stp, stp, stp, stp, zom, zom, zom, fun h => ((hM.swap.step zaG hs2 hs1 hi2 hlow).1 h).swap, fun h => ((hM.swap.step zaG hs2 hs1 hi2 hlow).2 h).swap⟩
       ·clear e57 e8 e3 e4 e5 e6 e7 hB1 hB2 hX5 hX4 hM hdone;rintro e st ⟨rfl, tm', H6, X, i', k', rfl, hX6, hs6, e8, e3, e4, e5, e6, e7, hi6, hk6, hsum, hM1, hM2⟩
        (change Trip _ _ _ _ _)
        have hx6 : Ext nx' H' nx5 H6 := ⟨by have := hx5.1; omega, fun j hj => by rw [hs6 j zom, hx5.2 j zom, hx4.2 j hj]⟩
        have hok6 : ∀ id o, H6 id = some o → id < nx5 := fun id o h => by
         by_cases e : id = nx'
         ·have := hx5.1; omega
         ·exact hok5 id o (by rw [← hs6 id e]; exact h)
        have hown6 := hown.ext hx6 (fun b t h => (hob b t h).2);have hout := hown6.at z0f;have hnx : nx' < nx5 := by have := hx5.1; omega
        clear hs6 hx5 hok5 hx4 hok4 hown;obtain ⟨oa, oc, rfl⟩ := hout.slice;refine zgl ?_;refine Trip.mono (Q := fun e st => e = .normal ∧ ∃ (tm' : Nat → Value) (B : Bool), st = ⟨tm', n, H6, nx5⟩ ∧ tm' 82 = .bool B ∧ tm' 8 = .pointer (some ⟨nx', 0, none⟩) ∧ tm' 3 = .slice a1 r1.length c1 ∧ tm' 4 = .slice a2 r2.length c2 ∧ tm' 5 = .slice oa out.length oc ∧ tm' 6 = .int .i64 i' ∧ tm' 7 = .int .i64 k' ∧ (B = true → out.getLast? ≠ some X) ∧ (B = false → out.getLast? = some X)) ?_ ?_
        ·by_cases hlen : out.length = 0
         ·refine OpsK.drawn (K := fun _ _ => True) z0q krf krf trivial ?_;refine zg2 ?_;refine z0d ?_;refine z4X ?_;refine ze1 ?_;refine z9p ?_;refine OpsK.nil ?_;have : out = [] := List.eq_nil_of_length_eq_zero hlen;exact ⟨rfl, _, true, rfl, by simp [zl], stp, stp, stp, stp, stp, stp, fun _ => by rw [this]; simp, fun h => (by cases h)⟩
         ·obtain ⟨q, rfl, g2⟩ := z65 hout (show 0 < out.length by omega) (Nat.le_refl _);have hlast : out.getLast? = some (out[out.length - 1]'zom) := by rw [List.getLast?_eq_getElem?, List.getElem?_eq_getElem]
          refine OpsK.drawn (K := fun _ _ => True) z0q krf krf trivial ?_;refine zg2 ?_;refine z0e ?_;refine z4X ?_;refine zfA ?_;refine z2P ?_;refine ze2 ?_;refine z2P ?_
          repeat (refine zA ?_)
          refine zd (zg (k := 4) (vs := zS (out[out.length - 1]'zom)) evr zxr rfl zxr g2) ?_;refine z88 ?_
          repeat (refine zA ?_)
          refine zd (zg (k := 4) (vs := zS X) evd zxr rfl zxr (zH hX6 rfl)) ?_;refine z88 ?_
          repeat (refine zA ?_)
          refine zd (z3Q (r := decide (out[out.length - 1]'zom = X)) evd evd krf (eqQ _ _ _ _ rfl)) ?_;refine z88 ?_;refine zaC ?_;refine OpsK.nil ?_;exact ⟨rfl, _, !decide (out[out.length - 1]'zom = X), rfl, by simp [zl], stp, stp, stp, stp, stp, stp, fun h => by rw [hlast]; simpa using h, fun h => by rw [hlast]; simpa using h⟩
        ·clear e8 e3 e4 e5 e6 e7;rintro e st ⟨rfl, tm', B, rfl, e82, e8, e3, e4, e5, e6, e7, hB1, hB2⟩
         (change Trip _ _ _ _ _)
         cases B with
         | false =>
          have hM := hM1 (hB2 rfl)
          repeat fail
          refine z0h ?_
          repeat (first | (refine Trip.skip ?_; ((repeat (refine zQ ?_)); dsimp only)))
          exact ⟨(i', k'), ⟨_, nx5, H6, ob, _, out, rfl, ⟨hx.trans hx6, fun b t h => by have := hob b t h; omega⟩, hok6, hown6, hM, by show out.length ≤ i' + k'; omega, stp, stp, stp, stp, stp, hi6, hk6⟩, by show r1.length - i' + (r2.length - k') < r1.length - i + (r2.length - k); omega⟩
         | true =>
          have hM := hM2 (hB1 rfl)
          repeat fail
          refine z11 ?_;refine zbs ?_;refine zd (zg (k := 4) (vs := zS X) evd zxr rfl zxr (zH hX6 rfl)) ?_
          repeat fail
          refine OpsL.new zsd (zq (l := [(0, .agg (zS X).toArray)]) (r := (.slice (some ⟨nx5, 0, none⟩) 1 1, .new (.cells (zS X) 4 none false (some 62)))) zeq krf) ?_;have hx7 : Ext nx5 H6 (nx5 + 1) (H6.put nx5 (.cells (zS X) 4 none false (some 62))) := zj;have hok7 := zF (o := .cells (zS X) 4 none false (some 62)) hok6
          have hone : RowsAt zS 4 (H6.put nx5 (.cells (zS X) 4 none false (some 62))) (.slice (some ⟨nx5, 0, none⟩) 1 1) [X] := by
           refine .inr ⟨⟨nx5, 0, none⟩, 1, rfl, fun j hj => ?_⟩;have : j = 0 := by simpa using hj
           subst this;exact z01 (by show 0 + 4 ≤ 4; decide)
          generalize H6.put nx5 (.cells (zS X) 4 none false (some 62)) = G7 at *;have hob6 : ∀ b t, ob = some (b, t) → nx1 ≤ b ∧ b < nx5 := fun b t h => by have := hob b t h; omega
          refine zO (bytes := 32) (z := z4) z0f z3n zom zsd (hown6.ext hx7 (fun b t h => (hob6 b t h).2)) hone evd evd (fun b t h => by have := (hob6 b t h).2; omega) zxr zxr zxr zxr zxr rfl (by simp; omega) zom ?_;intro v8 nx8 H8 ob8 hA
          repeat (first | refine zd (by exact z0y) ?_ | (refine OpsL.nil ?_; ((repeat (refine zQ ?_)); dsimp only)))
          refine ⟨(i', k'), ⟨_, nx8, H8, ob8, v8, out ++ [X], rfl, ⟨⟨by have := hx.1; have := hA.le; omega, fun j hj => ?_⟩, fun b t h => ?_⟩, hA.ok (fun b t h => by have := (hob6 b t h).2; omega) hok7, hA.own, hM, by show (out ++ [X]).length ≤ i' + k'; rw [List.length_append, List.length_singleton]; omega, stp, stp, stp, stp, stp, hi6, hk6⟩, by show r1.length - i' + (r2.length - k') < r1.length - i + (r2.length - k); omega⟩
          ·have := hx.1;rw [hA.same j zom (fun b t h => by have := (hob6 b t h).1; omega), hx7.2 j zom, hx6.2 j zom, hx.2 j hj]
          ·obtain ⟨q1, q2⟩ := hA.blk b t h;refine ⟨?_, q1⟩;rcases q2 with rfl | ⟨t', h'⟩
           ·have := hx.1; omega
           ·exact (hob6 _ _ h').1
theorem zfE (W0 : World) : ∀ (m : Nat) {nx : Nat} {H : Heap} {v : Value} {l : List R4}, l.length ≤ m → InQ H v l → l.length ≤ 1000 →
  ACalls Tryz.prog W0 57 [v] nx H fun v nx' H' => RowsAt zS 4 H' v (zB lt4 l) ∧ Ext nx H nx' H' := by
 intro m
 induction m with
 | zero => intro nx H v l hl hq hm; exact zgN W0 hq hm fun h => by omega
 | succ m ih => intro nx H v l hl hq hm; exact zgN W0 hq hm fun {nx H v l'} h hq' => ih zom hq' zom
end Go.Proofs.YteplpegfcpmflaaGreat
