import Derived.Shelf.SlSortCmp.NoneTotal
import Derived.Test.YteplpegfcpmflaaGreatQKM9
set_option linter.unusedSimpArgs false
set_option linter.unusedVariables false
set_option maxRecDepth 100000
set_option maxHeartbeats 32000000
namespace Go.Proofs.YteplpegfcpmflaaGreat
open Go.RowKit Go.Am
attribute [local irreducible] aop OpsL Trip zI z2w OpsK OpsR
theorem zaE : Am.z0U Tryz.prog 76 := ⟨Tryz.f76, Tryz.func76, by kernel_rfl, by kernel_rfl⟩
theorem zhX (W0 : World) {nx : Nat} {H : Heap} {ob : Option (Nat × Nat)} {v : Value} {l : List (R3)} (h : zaZ H ob v l) (hl : l.length ≤ 100000) :
  ACalls Tryz.prog W0 76 [v] nx H fun v' nx' H' => nx' = nx ∧ zaZ H' ob v' (z1h l) ∧ ∀ i, (∀ b t, ob = some (b, t) → i ≠ b) → H' i = H i := by
 have hrow := h.at z14;obtain ⟨va, vc, rfl⟩ := hrow.slice;refine zl (fn := Tryz.f76) (c := _) Tryz.func76 rfl (fun tm n hn0 htm => ?_);have e0 : tm 0 = .slice va l.length vc := htm 0;clear htm;replace hn0 : n = 61 := hn0;by_cases hsh : l.length < 2
 ·repeat (first | (refine zd (by first | exact omv | exact z0E | exact z2i) ?_) | refine Trip.seq ?_ | refine zm ?_ | (refine OpsL.nil ?_; (change Trip _ _ _ _ _)))
  refine z8C ?_;refine zcU ?_;exact ⟨.inr rfl, _, zx, rfl, by rw [z49 l zom]; simp [zk, *], fun _ _ => rfl⟩
 ·obtain ⟨b, t, rfl⟩ : ∃ b t, ob = some (b, t) := by
   cases ob with
   | none => obtain ⟨_, _, h2⟩ := h; omega
   | some bt => exact ⟨_, _, rfl⟩
  obtain ⟨hv, _, rest, hH⟩ := h;obtain ⟨rfl, _, rfl⟩ := Value.slice.inj hv
  have hS : ∀ (G : Heap) (A rest : List Value), G b = some (.cells (A ++ rest) 3 (some t) false (some 51)) → ∀ k, k < l.length → z0Q Tryz.prog G 28 (.slice (some ⟨b, 0, some t⟩) l.length l.length) (some (.int .i64 k)) none none = some (.slice (some ⟨b, 0 + k * 3, some t⟩) (l.length - k) (l.length - k)) := fun G A rest hG k hk => by
   have := z06 (P := Tryz.prog) (H := G) (t := 28) (el := 51) (sz := 3) (a := ⟨b, 0, some t⟩) (len := l.length) (cap := l.length) (l := k) (h := l.length) (tg := t) (lo := some (.int .i64 k)) (hi := none) zxr zxr hG rfl rfl rfl (.inr ⟨.i64, rfl⟩) (.inl ⟨rfl, rfl⟩) zom (Nat.le_refl _);rw [if_neg zom] at this;exact this
  have hS2 : ∀ (G : Heap) (A rest : List Value), G b = some (.cells (A ++ rest) 3 (some t) false (some 51)) → ∀ k, k ≤ l.length → z0Q Tryz.prog G 28 (.slice (some ⟨b, 0, some t⟩) l.length l.length) none (some (.int .i64 k)) none = some (.slice (some ⟨b, 0, some t⟩) k k) := fun G A rest hG k hk => by
   have := z06 (P := Tryz.prog) (H := G) (t := 28) (el := 51) (sz := 3) (a := ⟨b, 0, some t⟩) (len := l.length) (cap := l.length) (l := 0) (h := k) (tg := t) (lo := none) (hi := some (.int .i64 k)) zxr zxr hG rfl rfl rfl (.inl ⟨rfl, rfl⟩) (.inr ⟨.i64, rfl⟩) (Nat.zero_le _) hk;simpa using this
  refine zgL ?_;refine z9G ?_;refine zfO ?_;refine zD (fun (k : Nat) st => ∃ (tm : Nat → Value), st = ⟨tm, n, H, nx⟩ ∧ tm 0 = .slice (some ⟨b, 0, some t⟩) l.length l.length ∧ tm 3 = .int .i64 k ∧ 1 ≤ k ∧ k ≤ l.length ∧ ∀ i (h : i < l.length), 0 < i → i < k → l[i - 1] ≠ l[i]) (fun k => l.length - k) 1 ?_ ?_
  ·exact ⟨_, rfl, stp, by simp [zk], zom, zom, fun i h h0 h1 => by omega⟩
  ·clear e0;rintro k st ⟨tm, rfl, e0, e3, hk1, hk2, hne⟩;by_cases hlt : k < l.length
   ·repeat (first | (refine zd (by first | exact omv | exact z2i) ?_) | refine Trip.seq ?_ | refine zm ?_)
    refine z78 ?_;have g1 := z0H z14 hH hlt;have g2 := z0H z14 hH (show k - 1 < l.length by omega);refine Trip.mono (Q := fun e st => e = .normal ∧ ∃ (tm' : Nat → Value), st = ⟨tm', n, H, nx⟩ ∧ tm' 25 = .bool (decide (l[k] = l[k - 1])) ∧ tm' 0 = .slice (some ⟨b, 0, some t⟩) l.length l.length ∧ tm' 3 = .int .i64 k) ?_ ?_
    ·refine OpsK.drawn (K := fun _ _ => True) z0u krf krf trivial ?_;refine zfo ?_;refine zd (zg (k := 3) (vs := z19 l[k]) evr zxr rfl zxr (by show z0M H ⟨b, 0 + (k : Int).toNat * 3, some t⟩ 3 = _; rw [Int.toNat_natCast]; exact g1)) ?_;refine zbN ?_;refine zd (zg (k := 3) (vs := z19 l[k - 1]) evr zxr rfl zxr (by show z0M H ⟨b, 0 + ((k : Int) - 1).toNat * 3, some t⟩ 3 = _; rw [show ((k : Int) - 1).toNat = k - 1 by omega]; exact g2)) ?_;refine z3M ?_;refine zd (zbE (r := decide (l[k] = l[k - 1])) evd evd krf (eqN _ _ _ _ rfl)) ?_;refine z67 ?_;exact ⟨rfl, _, rfl, by simp [zk], stp, stp⟩
    ·rintro e st ⟨rfl, tm', rfl, e25, e0, e3⟩;dsimp only;clear g1 g2;by_cases heq : l[k] = l[k - 1]
     ·rw [decide_eq_true heq] at e25
      repeat fail
      refine z0F ?_;refine zcJ ?_;refine zd (z07 (a := some (.int .i64 k)) (b := none) (c := none) evd zer rfl rfl (hS H _ _ hH k hlt)) ?_;refine z7B ?_
      have hd0 : z1h (l.take (k + 1)) = l.take k := by
       rw [z1x l zom hlt, if_pos heq.symm];exact z2E l k zom (fun i hi a c => hne i hi a c)
      refine zD (fun (k2 : Nat) st => ∃ (tm : Nat → Value) (H' : Heap) (A : List (R3)) (rest : List Value) (kk : Nat), st = ⟨tm, n, H', nx⟩ ∧ H' b = some (.cells (A.flatMap z19 ++ rest) 3 (some t) false (some 51)) ∧ A.length = l.length ∧ (∀ i, i ≠ b → H' i = H i) ∧ tm 0 = .slice (some ⟨b, 0, some t⟩) l.length l.length ∧ tm 3 = .int .i64 kk ∧ tm 4 = .slice (some ⟨b, 0 + k * 3, some t⟩) (l.length - k) (l.length - k) ∧ tm 5 = .int .i64 k2 ∧
       1 ≤ kk ∧ kk ≤ k + k2 - 1 ∧ 1 ≤ k2 ∧ k2 ≤ l.length - k ∧ A.take kk = z1h (l.take (k + k2)) ∧ A.drop (k + k2 - 1) = l.drop (k + k2 - 1)) (fun k2 => l.length - k - k2) 1 ?_ ?_
      ·exact ⟨_, H, l, rest, k, rfl, hH, rfl, fun _ _ => rfl, stp, stp, stp, stp, zom, zom, zom, zom, hd0.symm, rfl⟩
      ·clear e0 e3 e25;rintro k2 st ⟨tm, H', A, rest', kk, rfl, hG, hAl, hsame, e0, e3, e4, e5, k1, k3, k4, k5, hta, hda⟩;by_cases hlt2 : k + k2 < l.length
       ·have hA1 : A[k + k2]'zom = l[k + k2] := by
         have : (A.drop (k + k2 - 1))[1]? = (l.drop (k + k2 - 1))[1]? := by rw [hda]
         rw [List.getElem?_drop, List.getElem?_drop, show k + k2 - 1 + 1 = k + k2 by omega, List.getElem?_eq_getElem zom, List.getElem?_eq_getElem hlt2] at this;exact Option.some.inj this
        have hA2 : A[k + k2 - 1]'zom = l[k + k2 - 1] := by
         have : (A.drop (k + k2 - 1))[0]? = (l.drop (k + k2 - 1))[0]? := by rw [hda]
         rw [List.getElem?_drop, List.getElem?_drop, Nat.add_zero, List.getElem?_eq_getElem zom, List.getElem?_eq_getElem zom] at this;exact Option.some.inj this
        have hstep := z1x l (m := k + k2) zom hlt2
        have hdn : A.drop (k + (k2 + 1) - 1) = l.drop (k + (k2 + 1) - 1) := by
         have := congrArg (List.drop 1) hda;rw [List.drop_drop, List.drop_drop] at this;rw [show k + (k2 + 1) - 1 = k + k2 - 1 + 1 by omega]; exact this
        have g1 := z0H z14 hG (show k + k2 < A.length by omega);have g2 := z0H z14 hG (show k + k2 - 1 < A.length by omega);rw [hA1] at g1;rw [hA2] at g2
        replace g1 : z0M H' ⟨b, 0 + k * 3 + (k2 : Int).toNat * 3, some t⟩ 3 = some (z19 l[k + k2]) := by
         rw [Int.toNat_natCast, show 0 + k * 3 + k2 * 3 = 0 + (k + k2) * 3 by omega]; exact g1
        replace g2 : z0M H' ⟨b, 0 + k * 3 + ((k2 : Int) - 1).toNat * 3, some t⟩ 3 = some (z19 l[k + k2 - 1]) := by
         rw [show 0 + k * 3 + ((k2 : Int) - 1).toNat * 3 = 0 + (k + k2 - 1) * 3 by omega]; exact g2
        refine z5f ?_;refine z78 ?_;refine Trip.mono (Q := fun e st => e = .normal ∧ ∃ (tm' : Nat → Value), st = ⟨tm', n, H', nx⟩ ∧ tm' 44 = .bool (!decide (l[k + k2] = l[k + k2 - 1])) ∧ tm' 0 = .slice (some ⟨b, 0, some t⟩) l.length l.length ∧ tm' 3 = .int .i64 kk ∧ tm' 4 = .slice (some ⟨b, 0 + k * 3, some t⟩) (l.length - k) (l.length - k) ∧ tm' 5 = .int .i64 k2) ?_ ?_
        ·refine OpsK.drawn (K := fun _ _ => True) z0u krf krf trivial ?_;refine zfo ?_;refine zd (zg (k := 3) (vs := z19 l[k + k2]) evr zxr rfl zxr g1) ?_;refine zbN ?_;refine zd (zg (k := 3) (vs := z19 l[k + k2 - 1]) evr zxr rfl zxr g2) ?_;refine z3M ?_;refine zd (z4a (r := decide (l[k + k2] = l[k + k2 - 1])) evd evd krf (eqN _ _ _ _ rfl)) ?_;refine z67 ?_;exact ⟨rfl, _, rfl, by simp [zk], stp, stp, stp, stp⟩
        ·rintro e st ⟨rfl, tm', rfl, e44, e0, e3, e4, e5⟩;dsimp only;by_cases he2 : l[k + k2] = l[k + k2 - 1]
         ·rw [decide_eq_true he2] at e44;rw [if_pos he2.symm] at hstep
          repeat fail
          refine zg3 ?_;exact ⟨k2 + 1, ⟨_, H', A, rest', kk, rfl, hG, hAl, hsame, stp, stp, stp, stp, k1, zom, zom, zom, by rw [hta, ← hstep]; rfl, hdn⟩, zom⟩
         ·rw [decide_eq_false he2] at e44;rw [if_neg (fun h => he2 h.symm)] at hstep
          repeat fail
          refine z0F ?_;refine zgK ?_;refine zd (zg (k := 3) (vs := z19 l[k + k2]) evr zxr rfl zxr g1) ?_;refine zcY ?_
          refine OpsL.upd (zw (u := .agg (z19 l[k + k2]).toArray) (o := .cells ((A.set kk l[k + k2]).flatMap z19 ++ rest') 3 (some t) false (some 51)) evr evd zxr rfl (by
           have := z6k (x := l[k + k2]) z14 z60 hG (show kk < A.length by omega);show z5d H' ⟨b, 0 + (kk : Int).toNat * 3, some t⟩ (z19 l[k + k2]) = _;rw [Int.toNat_natCast]; exact this)) ?_
          refine zg8 ?_;refine ⟨k2 + 1, ⟨_, _, A.set kk l[k + k2], rest', kk + 1, rfl, zb, by rw [List.length_set]; exact hAl, fun i hi => by show Heap.put H' b _ i = _; rw [za hi]; exact hsame i hi, stp, stp, stp, stp, zom, zom, zom, zom, ?_, ?_⟩, zom⟩
          ·rw [show k + (k2 + 1) = k + k2 + 1 by omega, hstep, ← hta, List.take_add_one, List.getElem?_set_self zom, List.take_set_of_le (Nat.le_refl _)];rfl
          ·rw [List.drop_set_of_lt zom];exact hdn
       ·have hk2 : k2 = l.length - k := by omega
        rw [show k + k2 = l.length by omega, List.take_length] at hta;refine z5f ?_;refine z9G ?_;refine zfr ?_;refine zd (z07 (a := some (.int .i64 kk)) (b := none) (c := none) evd zer rfl rfl (hS H' _ _ hG kk zom)) ?_;obtain ⟨rest2, hend⟩ := z7S (k := kk) (z := [.int .i64 0, .int .i64 0, .int .i64 0]) z14 rfl rfl hG zom;rw [hAl, hta] at hend;refine OpsL.clear (z := [.int .i64 0, .int .i64 0, .int .i64 0]) evr zxr zxr zom hend ?_;refine z7A ?_;have hlen : (z1h l).length = kk := by rw [← hta, List.length_take]; omega
        refine zd (z07 (a := none) (b := some (.int .i64 kk)) (c := none) evd rfl zer rfl (hS2 _ _ rest2 zb kk zom)) ?_;refine zif ?_;refine ⟨.inr rfl, _, zx, rfl, ?_, fun i hi => ?_⟩
        ·refine ⟨by simp [zk, hlen], by rw [z0i z14], rest2, zb⟩
        ·show Heap.put H' b _ i = _;rw [za (hi b t rfl)];exact hsame i (hi b t rfl)
     ·rw [decide_eq_false heq] at e25
      repeat fail
      refine zg3 ?_;refine ⟨k + 1, ⟨_, rfl, stp, stp, zom, zom, fun i hi h0 h1 => ?_⟩, zom⟩;by_cases hik : i = k
      ·subst hik;exact fun hh => heq hh.symm
      ·exact hne i hi h0 zom
   ·repeat (first | (refine zd (by first | exact omv | exact z2i) ?_) | refine Trip.seq ?_ | refine zm ?_)
    refine z9G ?_;refine z9P ?_;have hd := z2E l l.length (Nat.le_refl _) (fun i hi a c => hne i hi a zom);rw [List.take_length] at hd;refine ⟨.inr rfl, _, zx, rfl, ?_, fun _ _ => rfl⟩;rw [hd];exact ⟨stp, by rw [z0i z14], rest, hH⟩
end Go.Proofs.YteplpegfcpmflaaGreat
namespace Go.Proofs.YteplpegfcpmflaaGreat
open Go.RowKit Go.Am
attribute [local irreducible] aop OpsL Trip zI z2w OpsK OpsR
theorem zao : Am.z0U Tryz.prog 50 := ⟨Tryz.f50, Tryz.func50, by kernel_rfl, by kernel_rfl⟩
theorem zeE (W0 : World) {nx : Nat} {H : Heap} {ob : Option (Nat × Nat)} {v : Value} {l : List (R3)} (h : zaZ H ob v l) (hl : l.length ≤ 1000000) :
  ACalls Tryz.prog W0 75 [v, .func (.func 51) #[] #[]] nx H fun _ nx' H' => nx' = nx ∧ ∃ l' : List (R3), l'.Perm l ∧ z1w lt3 l' ∧ zaZ H' ob v l' ∧ ∀ i, (∀ b t, ob = some (b, t) → i ≠ b) → H' i = H i := by
 cases ob with
 | none =>
  obtain ⟨rfl, _, hl0⟩ := h;have hnil : l = [] := List.eq_nil_of_length_eq_zero hl0;subst hnil;intro C w args' hR ha;obtain ⟨h1, h2⟩ := ha
  obtain ⟨v1, v2, rfl⟩ : ∃ v1 v2, args' = [v1, v2] := by
   match args', h1 with
   | [v1, v2], _ => exact ⟨v1, v2, rfl⟩
  have hv1 := h2 0 (by simp) (by simp);simp only [List.getElem_cons_zero] at hv1;obtain rfl : v1 = .slice none 0 0 := by cases hv1; rfl
  refine (AnyF.slices_SortFunc_none { sortNL with } none 0 v2 w).mono ?_;rintro e w' ⟨rfl, rfl⟩;exact ⟨_, _, C, nx, H, rfl, ⟨rfl, [], List.Perm.refl _, List.Pairwise.nil, ⟨rfl, rfl, rfl⟩, fun _ _ => rfl⟩, hR, .tuple #[] #[] rfl (fun i h => absurd h (by simp)), Stp.refl _ _ _⟩
 | some bt =>
  obtain ⟨b, t⟩ := bt;obtain ⟨rfl, _, rest, hH⟩ := h;refine ACalls.weaken (zhw W0 hH zom) ?_;rintro v nx' H' ⟨_, rfl, l', hp, hs, rfl⟩;refine ⟨rfl, l', hp, hs, ⟨by rw [hp.length_eq], by rw [z0i z14], rest, zb⟩, fun i hi => za (hi b t rfl)⟩
theorem zht (W0 : World) {nx : Nat} {H : Heap} {v : Value} {l : List R3} (hr : AtN H v l) (hm : l.length ≤ 100000) :
  ACalls Tryz.prog W0 50 [v, .func (.func 51) #[] #[]] nx H fun v nx' H' => ∃ ob, zaZ H' ob v (zu lt3 l) ∧ z2n nx H nx' H' ob := by
 refine zl (fn := Tryz.f50) (c := _) Tryz.func50 rfl (fun tm n hn0 htm => ?_);have e0 : tm 0 = v := htm 0;have e1 : tm 1 = .func (.func 51) #[] #[] := htm 1;clear htm;replace hn0 : n = 13 := hn0;refine Trip.ok fun hok => ?_;replace hok : ∀ id o, H id = some o → id < nx := hok;obtain ⟨va, vc, rfl⟩ := hr.slice;refine z5c ?_;refine OpsL.new zsd (zq (l := [(0, .slice va l.length vc)]) (r := (.slice (some ⟨nx, 0, none⟩) 1 1, .new (.cells [.slice va l.length vc] 1 none false (some 28)))) zeq krf) ?_;have hx0 : Ext nx H (nx + 1) (H.put nx (.cells [.slice va l.length vc] 1 none false (some 28))) := zh;have hin : zdB (H.put nx (.cells [.slice va l.length vc] 1 none false (some 28))) (.slice (some ⟨nx, 0, none⟩) 1 1) [(.slice va l.length vc, l)] := ⟨nx, rfl, zb, fun x hx => by rw [List.mem_singleton] at hx; subst hx; exact hr.ext hx0 hok⟩;have hall : z1K [(Value.slice va l.length vc, l)] = l := by simp [z1K]
 refine z0c (hf := zaA) (hc := (zhT W0 hin (by rw [hall]; exact hm) (by simp))) (h := ?_);rintro v1 nx1 H1 ⟨ob, ho1, hx1, hob1⟩;rw [hall] at ho1;refine z5c ?_;refine OpsL.c2 (hf := zar) (hc := (zeE W0 ho1 zom)) (h := ?_);rintro v2 nx2 H2 ⟨rfl, l', hp, hs, ho2, hsame2⟩;refine z7A ?_;refine z0c (hf := zaE) (hc := (zhX W0 ho2 (by rw [hp.length_eq]; omega))) (h := ?_);rintro v3 nx3 H3 ⟨rfl, ho3, hsame3⟩;refine zfL ?_;have heq := z1B zel (z2H zel l' hs) (fun x => by rw [z3q, hp.mem_iff] : ∀ x, x ∈ z1h l' ↔ x ∈ l);rw [heq] at ho3;refine ⟨.inr rfl, _, zx, ob, by simpa [zk] using ho3, hx0.trans ⟨hx1.1, fun i hi => ?_⟩, fun b t h => by have := hob1 b t h; omega⟩;rw [hsame3 i (fun b t h => by have := (hob1 b t h).1; omega), hsame2 i (fun b t h => by have := (hob1 b t h).1; omega), hx1.2 i hi]
end Go.Proofs.YteplpegfcpmflaaGreat
namespace Go.Proofs.YteplpegfcpmflaaGreat
open Go.RowKit Go.Am
attribute [local irreducible] aop OpsL Trip zI z2w OpsK OpsR
abbrev AtI (H : Heap) (v : Value) (l : List (Int)) : Prop := RowsAt z9R 1 H v l
abbrev z5A (H : Heap) (ob : Option (Nat × Nat)) (v : Value) (l : List (Int)) : Prop := OwnOf z9R 1 3 H ob v l
theorem zaw : Am.z0U Tryz.prog 81 := ⟨Tryz.f81, Tryz.func81, by kernel_rfl, by kernel_rfl⟩
theorem zaB : Am.z0U Tryz.prog 63 := ⟨Tryz.f63, Tryz.func63, by kernel_rfl, by kernel_rfl⟩
theorem zhL (W0 : World) {nx m : Nat} {H : Heap} (hm : m ≤ 1000000) :
  ACalls Tryz.prog W0 81 [.slice none 0 0, .int .i64 m] nx H fun v nx' H' => ∃ ob, z5A H' ob v [] ∧ z2n nx H nx' H' ob := by
 refine zl (fn := Tryz.f81) (c := _) Tryz.func81 rfl (fun tm n hn0 htm => ?_);have e0 : tm 0 = .slice none 0 0 := htm 0;have e1 : tm 1 = .int .i64 m := htm 1;clear htm;replace hn0 : n = 27 := hn0;refine z5c ?_;refine z9G ?_;refine zfq ?_;refine zd (z4b evr zxr) ?_;refine zih ?_;by_cases h0 : 0 < m
 ·refine z2G ?_;refine z7z ?_;refine zbP ?_;refine zd (z4b evr zxr) ?_;refine zd (z07 (r := .slice none 0 0) (a := none) (b := some (.int .i64 0)) (c := none) evd rfl (by simp only [z2l, ASt.ev, zk, ↓reduceIte, reduceIte, Option.some.injEq, Nat.reduceEqDiff, Option.map_some]; rfl) rfl (z3e (el := 3) (sz := 1) zxr zxr (.inl ⟨rfl, rfl⟩) (.inr ⟨.i64, rfl⟩))) ?_;refine z7y ?_;refine OpsL.new zsd (z4E (k := m) (el := 3) (kd := .i64) (size := 1) (bytes := 8) (z := [.int .i64 0]) evd (by simp only [ASt.ev, zk, ↓reduceIte, reduceIte, Nat.reduceEqDiff, zL, *]; simp) zxr zxr zxr zxr zxr rfl h0 zom zom) ?_
  repeat (refine zd (by first | exact omv | exact z2i) ?_)
  refine zd (z07 (r := .slice (some ⟨nx, 0, some nx⟩) 0 0) (a := none) (b := some (.int .i64 0)) (c := none) evr rfl (by simp only [z2l, ASt.ev, zk, ↓reduceIte, reduceIte, Option.some.injEq, Nat.reduceEqDiff, Option.map_some]; rfl) rfl (by
   have := z06 (P := Tryz.prog) (H := H.put nx (.cells (z0t [.int .i64 0] m) 1 (some nx) false (some 3))) (t := 22) (el := 3) (sz := 1) (a := ⟨nx, 0, some nx⟩) (len := m) (cap := m) (l := 0) (h := 0) (tg := nx) (lo := none) (hi := some (.int .i64 0)) zxr zxr zb rfl rfl rfl (.inl ⟨rfl, rfl⟩) (.inr ⟨.i64, rfl⟩) (Nat.le_refl _) (Nat.zero_le _);simpa using this)) ?_
  refine zcU ?_;refine ⟨.inr rfl, _, zx, some (nx, nx), ?_, ⟨zh, fun b t h => by cases h; exact ⟨Nat.le_refl _, Nat.lt_succ_self _⟩⟩⟩;refine ⟨by simp [zk], rfl, z0t [.int .i64 0] m, ?_⟩;rw [zb];simp
 ·refine z2e ?_;refine zii ?_;refine ⟨.inr rfl, _, zx, none, ⟨stp, rfl, rfl⟩, Ext.refl, fun b t h => by cases h⟩
def zdC (H : Heap) (v : Value) (ls : List (Value × List (Int))) : Prop :=
 ∃ a, v = .slice (some ⟨a, 0, none⟩) ls.length ls.length ∧ H a = some (.cells (ls.map (·.1)) 1 none false (some 22)) ∧ ∀ x ∈ ls, AtI H x.1 x.2
def z1L (ls : List (Value × List (Int))) : List (Int) := ls.flatMap (·.2)
theorem z6H (ls : List (Value × List (Int))) {i : Nat} (h : i < ls.length) : z1L (ls.take (i + 1)) = z1L (ls.take i) ++ ls[i].2 := by
 unfold z1L;rw [List.take_add_one, List.getElem?_eq_getElem h, Option.toList_some, List.flatMap_append];simp
theorem zhU (W0 : World) {nx : Nat} {H : Heap} {v : Value} {ls : List (Value × List (Int))} (hr : zdC H v ls) (hm : (z1L ls).length ≤ 100000) (hl : ls.length ≤ 100) :
  ACalls Tryz.prog W0 63 [v] nx H fun v nx' H' => ∃ ob, z5A H' ob v (z1L ls) ∧ z2n nx H nx' H' ob := by
 obtain ⟨a, rfl, hH, hrows⟩ := hr;refine zl (fn := Tryz.f63) (c := _) Tryz.func63 rfl (fun tm n hn0 htm => ?_);have e0 : tm 0 = .slice (some ⟨a, 0, none⟩) ls.length ls.length := htm 0;clear htm;replace hn0 : n = 36 := hn0;refine Trip.ok fun hok => ?_;replace hok : ∀ id o, H id = some o → id < nx := hok
 have hcell : ∀ (G : Heap), G a = some (.cells (ls.map (·.1)) 1 none false (some 22)) → ∀ i (h : i < ls.length), zj G ⟨a, 0 + (i : Int).toNat * 1, none⟩ ls[i].1 := fun G hG i h => by
  have := z2v (off := i) hG (by simpa using h);simpa using this
 have hlen : ∀ i, i ≤ ls.length → (z1L (ls.take i)).length ≤ (z1L ls).length := fun i hi => by
  have h1 : z1L ls = z1L (ls.take i) ++ z1L (ls.drop i) := by
   unfold z1L;rw [← List.flatMap_append, List.take_append_drop]
  rw [h1, List.length_append]; omega
 refine z9I ?_;refine zD (fun (i : Nat) st => ∃ (tm : Nat → Value), st = ⟨tm, n, H, nx⟩ ∧ tm 0 = .slice (some ⟨a, 0, none⟩) ls.length ls.length ∧ tm 9 = .slice (some ⟨a, 0, none⟩) ls.length ls.length ∧ tm 10 = .int .i64 ls.length ∧ tm 11 = .int .i64 i ∧ tm 3 = .int .i64 (z1L (ls.take i)).length ∧ i ≤ ls.length) (fun i => ls.length - i) 0 ?_ ?_
 ·exact ⟨_, rfl, stp, stp, stp, stp, by simp [zk, z1L], zom⟩
 ·clear e0;rintro i st ⟨tm, rfl, e0, e9, e10, e11, e3, hi⟩;by_cases hlt : i < ls.length
  ·have hc := hcell H hH i hlt;obtain ⟨ua, uc, hu⟩ := (hrows _ (List.getElem_mem hlt)).slice;have hst := z6H ls hlt;have hl1 := hlen (i + 1) zom;rw [hst, List.length_append] at hl1;rw [hu] at hc;generalize ls[i].2 = us at *;generalize z1L (ls.take i) = zs at *;refine zi7 ?_;exact ⟨i + 1, ⟨_, rfl, stp, stp, stp, stp, by rw [hst]; simp [zk, *], zom⟩, zom⟩
  ·have hin : i = ls.length := by omega
   subst hin;rw [List.take_length] at e3;refine zaV ?_;refine zfr ?_;refine OpsL.c2 (hf := zaw) (hc := (zhL W0 (m := (z1L ls).length) zom).ok) (h := ?_);rintro gv nx1 H1 ⟨⟨ob1, ho1, hx1, hob1⟩, hok1⟩;refine z9I ?_;refine zD (fun (i : Nat) st => ∃ (tm : Nat → Value) (nx' : Nat) (H' : Heap) (ob : Option (Nat × Nat)) (v : Value), st = ⟨tm, n, H', nx'⟩ ∧ z2n nx H nx' H' ob ∧ (∀ id o, H' id = some o → id < nx') ∧ z5A H' ob v (z1L (ls.take i)) ∧ tm 25 = .slice (some ⟨a, 0, none⟩) ls.length ls.length ∧ tm 26 = .int .i64 ls.length ∧ tm 27 = .int .i64 i ∧ tm 6 = v ∧ i ≤ ls.length) (fun i => ls.length - i) 0 ?_ ?_
   ·exact ⟨_, _, _, ob1, gv, rfl, ⟨hx1, hob1⟩, hok1, ho1, stp, stp, stp, stp, zom⟩
   ·clear e0 e9 e10 e11 e3 ho1 hx1 hob1 hok1;rintro i st ⟨tm, nx', H', ob, v, rfl, ⟨hx, hob⟩, hok', hown, e25, e26, e27, e6, hi⟩;by_cases hlt : i < ls.length
    ·have hst := z6H ls hlt;have hl1 := hlen (i + 1) zom;rw [hst, List.length_append] at hl1;have hrow := (hrows _ (List.getElem_mem hlt)).ext hx hok;have hc := hcell H' (by rw [hx.2 a (hok _ _ hH)]; exact hH) i hlt;obtain ⟨ua, uc, hu⟩ := hrow.slice;rw [hu] at hc hrow;generalize ls[i].2 = us at *;generalize z1L (ls.take i) = zs at *;refine zft ?_;refine zJ (bytes := 8) (z := [.int .i64 0]) zX z1o zom zsd hown hrow evd evd (fun b t h => (hob b t h).2) zxr zxr zxr zxr zxr rfl zom zom ?_;intro v' nx2 H2 ob2 hA;refine zg8 ?_;refine ⟨i + 1, ⟨_, nx2, H2, ob2, v', rfl, ⟨⟨by have := hx.1; have := hA.le; omega, fun j hj => ?_⟩, fun b t h => ?_⟩, ?_, by rw [hst]; exact hA.own, stp, stp, stp, stp, zom⟩, zom⟩
     ·rw [hA.same j (by have := hx.1; omega) (fun b t h => by have := (hob b t h).1; omega), hx.2 j hj]
     ·obtain ⟨q1, q2⟩ := hA.blk b t h;refine ⟨?_, q1⟩;rcases q2 with rfl | ⟨t', h'⟩
      ·exact hx.1
      ·exact (hob _ _ h').1
     ·exact hA.ok (fun b t h => (hob b t h).2) hok'
    ·have hin : i = ls.length := by omega
     subst hin;rw [List.take_length] at hown;refine zaV ?_;refine z9P ?_;exact ⟨.inr rfl, _, zx, ob, stp, hx, hob⟩
end Go.Proofs.YteplpegfcpmflaaGreat
namespace Go.Proofs.YteplpegfcpmflaaGreat
open Go.RowKit Go.Am
attribute [local irreducible] aop OpsL Trip zI z2w OpsK OpsR
theorem zaF : Am.z0U Tryz.prog 65 := ⟨Tryz.f65, Tryz.func65, by kernel_rfl, by kernel_rfl⟩
theorem zhY (W0 : World) {nx : Nat} {H : Heap} {ob : Option (Nat × Nat)} {v : Value} {l : List (Int)} (h : z5A H ob v l) (hl : l.length ≤ 100000) :
  ACalls Tryz.prog W0 65 [v] nx H fun v' nx' H' => nx' = nx ∧ z5A H' ob v' (z1h l) ∧ ∀ i, (∀ b t, ob = some (b, t) → i ≠ b) → H' i = H i := by
 have hrow := h.at zX;obtain ⟨va, vc, rfl⟩ := hrow.slice;refine zl (fn := Tryz.f65) (c := _) Tryz.func65 rfl (fun tm n hn0 htm => ?_);have e0 : tm 0 = .slice va l.length vc := htm 0;clear htm;replace hn0 : n = 61 := hn0;by_cases hsh : l.length < 2
 ·repeat (first | (refine zd (by first | exact omv | exact z0E | exact z2i) ?_) | refine Trip.seq ?_ | refine zm ?_ | (refine OpsL.nil ?_; (change Trip _ _ _ _ _)))
  refine z8C ?_;refine zcU ?_;exact ⟨.inr rfl, _, zx, rfl, by rw [z49 l zom]; simp [zk, *], fun _ _ => rfl⟩
 ·obtain ⟨b, t, rfl⟩ : ∃ b t, ob = some (b, t) := by
   cases ob with
   | none => obtain ⟨_, _, h2⟩ := h; omega
   | some bt => exact ⟨_, _, rfl⟩
  obtain ⟨hv, _, rest, hH⟩ := h;obtain ⟨rfl, _, rfl⟩ := Value.slice.inj hv
  have hS : ∀ (G : Heap) (A rest : List Value), G b = some (.cells (A ++ rest) 1 (some t) false (some 3)) → ∀ k, k < l.length → z0Q Tryz.prog G 22 (.slice (some ⟨b, 0, some t⟩) l.length l.length) (some (.int .i64 k)) none none = some (.slice (some ⟨b, 0 + k * 1, some t⟩) (l.length - k) (l.length - k)) := fun G A rest hG k hk => by
   have := z06 (P := Tryz.prog) (H := G) (t := 22) (el := 3) (sz := 1) (a := ⟨b, 0, some t⟩) (len := l.length) (cap := l.length) (l := k) (h := l.length) (tg := t) (lo := some (.int .i64 k)) (hi := none) zxr zxr hG rfl rfl rfl (.inr ⟨.i64, rfl⟩) (.inl ⟨rfl, rfl⟩) zom (Nat.le_refl _);rw [if_neg zom] at this;exact this
  have hS2 : ∀ (G : Heap) (A rest : List Value), G b = some (.cells (A ++ rest) 1 (some t) false (some 3)) → ∀ k, k ≤ l.length → z0Q Tryz.prog G 22 (.slice (some ⟨b, 0, some t⟩) l.length l.length) none (some (.int .i64 k)) none = some (.slice (some ⟨b, 0, some t⟩) k k) := fun G A rest hG k hk => by
   have := z06 (P := Tryz.prog) (H := G) (t := 22) (el := 3) (sz := 1) (a := ⟨b, 0, some t⟩) (len := l.length) (cap := l.length) (l := 0) (h := k) (tg := t) (lo := none) (hi := some (.int .i64 k)) zxr zxr hG rfl rfl rfl (.inl ⟨rfl, rfl⟩) (.inr ⟨.i64, rfl⟩) (Nat.zero_le _) hk;simpa using this
  refine zgL ?_;refine z9G ?_;refine zfO ?_;refine zD (fun (k : Nat) st => ∃ (tm : Nat → Value), st = ⟨tm, n, H, nx⟩ ∧ tm 0 = .slice (some ⟨b, 0, some t⟩) l.length l.length ∧ tm 3 = .int .i64 k ∧ 1 ≤ k ∧ k ≤ l.length ∧ ∀ i (h : i < l.length), 0 < i → i < k → l[i - 1] ≠ l[i]) (fun k => l.length - k) 1 ?_ ?_
  ·exact ⟨_, rfl, stp, by simp [zk], zom, zom, fun i h h0 h1 => by omega⟩
  ·clear e0;rintro k st ⟨tm, rfl, e0, e3, hk1, hk2, hne⟩;by_cases hlt : k < l.length
   ·repeat (first | (refine zd (by first | exact omv | exact z2i) ?_) | refine Trip.seq ?_ | refine zm ?_)
    refine z78 ?_;have g1 := z0H zX hH hlt;have g2 := z0H zX hH (show k - 1 < l.length by omega);refine Trip.mono (Q := fun e st => e = .normal ∧ ∃ (tm' : Nat → Value), st = ⟨tm', n, H, nx⟩ ∧ tm' 25 = .bool (decide (l[k] = l[k - 1])) ∧ tm' 0 = .slice (some ⟨b, 0, some t⟩) l.length l.length ∧ tm' 3 = .int .i64 k) ?_ ?_
    ·refine OpsK.drawn (K := fun _ _ => True) z0u krf krf trivial ?_;refine zfo ?_;refine zd (zp (v := .int .i64 l[k]) evr zxr rfl (by show z0M H ⟨b, 0 + (k : Int).toNat * 1, some t⟩ 1 = _; rw [Int.toNat_natCast]; exact g1)) ?_;refine zbN ?_;refine zd (zp (v := .int .i64 l[k - 1]) evr zxr rfl (by show z0M H ⟨b, 0 + ((k : Int) - 1).toNat * 1, some t⟩ 1 = _; rw [show ((k : Int) - 1).toNat = k - 1 by omega]; exact g2)) ?_;refine z3M ?_;refine zd (zfP) ?_;refine z67 ?_;exact ⟨rfl, _, rfl, by simp [zk], stp, stp⟩
    ·rintro e st ⟨rfl, tm', rfl, e25, e0, e3⟩;dsimp only;clear g1 g2;by_cases heq : l[k] = l[k - 1]
     ·rw [decide_eq_true heq] at e25
      repeat fail
      refine z0F ?_;refine zcJ ?_;refine zd (z07 (a := some (.int .i64 k)) (b := none) (c := none) evd zer rfl rfl (hS H _ _ hH k hlt)) ?_;refine z7B ?_
      have hd0 : z1h (l.take (k + 1)) = l.take k := by
       rw [z1x l zom hlt, if_pos heq.symm];exact z2E l k zom (fun i hi a c => hne i hi a c)
      refine zD (fun (k2 : Nat) st => ∃ (tm : Nat → Value) (H' : Heap) (A : List (Int)) (rest : List Value) (kk : Nat), st = ⟨tm, n, H', nx⟩ ∧ H' b = some (.cells (A.flatMap z9R ++ rest) 1 (some t) false (some 3)) ∧ A.length = l.length ∧ (∀ i, i ≠ b → H' i = H i) ∧ tm 0 = .slice (some ⟨b, 0, some t⟩) l.length l.length ∧ tm 3 = .int .i64 kk ∧ tm 4 = .slice (some ⟨b, 0 + k * 1, some t⟩) (l.length - k) (l.length - k) ∧ tm 5 = .int .i64 k2 ∧
       1 ≤ kk ∧ kk ≤ k + k2 - 1 ∧ 1 ≤ k2 ∧ k2 ≤ l.length - k ∧ A.take kk = z1h (l.take (k + k2)) ∧ A.drop (k + k2 - 1) = l.drop (k + k2 - 1)) (fun k2 => l.length - k - k2) 1 ?_ ?_
      ·exact ⟨_, H, l, rest, k, rfl, hH, rfl, fun _ _ => rfl, stp, stp, stp, stp, zom, zom, zom, zom, hd0.symm, rfl⟩
      ·clear e0 e3 e25;rintro k2 st ⟨tm, H', A, rest', kk, rfl, hG, hAl, hsame, e0, e3, e4, e5, k1, k3, k4, k5, hta, hda⟩;by_cases hlt2 : k + k2 < l.length
       ·have hA1 : A[k + k2]'zom = l[k + k2] := by
         have : (A.drop (k + k2 - 1))[1]? = (l.drop (k + k2 - 1))[1]? := by rw [hda]
         rw [List.getElem?_drop, List.getElem?_drop, show k + k2 - 1 + 1 = k + k2 by omega, List.getElem?_eq_getElem zom, List.getElem?_eq_getElem hlt2] at this;exact Option.some.inj this
        have hA2 : A[k + k2 - 1]'zom = l[k + k2 - 1] := by
         have : (A.drop (k + k2 - 1))[0]? = (l.drop (k + k2 - 1))[0]? := by rw [hda]
         rw [List.getElem?_drop, List.getElem?_drop, Nat.add_zero, List.getElem?_eq_getElem zom, List.getElem?_eq_getElem zom] at this;exact Option.some.inj this
        have hstep := z1x l (m := k + k2) zom hlt2
        have hdn : A.drop (k + (k2 + 1) - 1) = l.drop (k + (k2 + 1) - 1) := by
         have := congrArg (List.drop 1) hda;rw [List.drop_drop, List.drop_drop] at this;rw [show k + (k2 + 1) - 1 = k + k2 - 1 + 1 by omega]; exact this
        have g1 := z0H zX hG (show k + k2 < A.length by omega);have g2 := z0H zX hG (show k + k2 - 1 < A.length by omega);rw [hA1] at g1;rw [hA2] at g2
        replace g1 : z0M H' ⟨b, 0 + k * 1 + (k2 : Int).toNat * 1, some t⟩ 1 = some (z9R l[k + k2]) := by
         rw [Int.toNat_natCast, show 0 + k * 1 + k2 * 1 = 0 + (k + k2) * 1 by omega]; exact g1
        replace g2 : z0M H' ⟨b, 0 + k * 1 + ((k2 : Int) - 1).toNat * 1, some t⟩ 1 = some (z9R l[k + k2 - 1]) := by
         rw [show 0 + k * 1 + ((k2 : Int) - 1).toNat * 1 = 0 + (k + k2 - 1) * 1 by omega]; exact g2
        refine z5f ?_;refine z78 ?_;refine Trip.mono (Q := fun e st => e = .normal ∧ ∃ (tm' : Nat → Value), st = ⟨tm', n, H', nx⟩ ∧ tm' 44 = .bool (decide (l[k + k2] ≠ l[k + k2 - 1])) ∧ tm' 0 = .slice (some ⟨b, 0, some t⟩) l.length l.length ∧ tm' 3 = .int .i64 kk ∧ tm' 4 = .slice (some ⟨b, 0 + k * 1, some t⟩) (l.length - k) (l.length - k) ∧ tm' 5 = .int .i64 k2) ?_ ?_
        ·refine OpsK.drawn (K := fun _ _ => True) z0u krf krf trivial ?_;refine zfo ?_;refine zd (zp (v := .int .i64 l[k + k2]) evr zxr rfl g1) ?_;refine zbN ?_;refine zd (zp (v := .int .i64 l[k + k2 - 1]) evr zxr rfl g2) ?_;refine z3M ?_;refine zd (zi8) ?_;refine z67 ?_;exact ⟨rfl, _, rfl, by simp [zk], stp, stp, stp, stp⟩
        ·rintro e st ⟨rfl, tm', rfl, e44, e0, e3, e4, e5⟩;dsimp only;by_cases he2 : l[k + k2] = l[k + k2 - 1]
         ·rw [decide_eq_false (fun h => h he2)] at e44;rw [if_pos he2.symm] at hstep
          repeat fail
          refine zg3 ?_;exact ⟨k2 + 1, ⟨_, H', A, rest', kk, rfl, hG, hAl, hsame, stp, stp, stp, stp, k1, zom, zom, zom, by rw [hta, ← hstep]; rfl, hdn⟩, zom⟩
         ·rw [decide_eq_true he2] at e44;rw [if_neg (fun h => he2 h.symm)] at hstep
          repeat fail
          refine z0F ?_
          repeat (first | (refine zd (by first | exact omv | exact z45 | exact old) ?_) | refine Trip.seq ?_ | refine zm ?_)
          refine OpsL.upd (zw (u := .int .i64 l[k + k2]) (o := .cells ((A.set kk l[k + k2]).flatMap z9R ++ rest') 1 (some t) false (some 3)) evr evd zxr rfl (by
           have := z6k (x := l[k + k2]) zX z1o hG (show kk < A.length by omega);show z5d H' ⟨b, 0 + (kk : Int).toNat * 1, some t⟩ (z9R l[k + k2]) = _;rw [Int.toNat_natCast]; exact this)) ?_
          refine zg8 ?_;refine ⟨k2 + 1, ⟨_, _, A.set kk l[k + k2], rest', kk + 1, rfl, zb, by rw [List.length_set]; exact hAl, fun i hi => by show Heap.put H' b _ i = _; rw [za hi]; exact hsame i hi, stp, stp, stp, stp, zom, zom, zom, zom, ?_, ?_⟩, zom⟩
          ·rw [show k + (k2 + 1) = k + k2 + 1 by omega, hstep, ← hta, List.take_add_one, List.getElem?_set_self zom, List.take_set_of_le (Nat.le_refl _)];rfl
          ·rw [List.drop_set_of_lt zom];exact hdn
       ·have hk2 : k2 = l.length - k := by omega
        rw [show k + k2 = l.length by omega, List.take_length] at hta;refine z5f ?_;refine z9G ?_;refine zfr ?_;refine zd (z07 (a := some (.int .i64 kk)) (b := none) (c := none) evd zer rfl rfl (hS H' _ _ hG kk zom)) ?_;obtain ⟨rest2, hend⟩ := z7S (k := kk) (z := [.int .i64 0]) zX rfl rfl hG zom;rw [hAl, hta] at hend;refine OpsL.clear (z := [.int .i64 0]) evr zxr zxr zom hend ?_;refine z7A ?_;have hlen : (z1h l).length = kk := by rw [← hta, List.length_take]; omega
        refine zd (z07 (a := none) (b := some (.int .i64 kk)) (c := none) evd rfl zer rfl (hS2 _ _ rest2 zb kk zom)) ?_;refine zif ?_;refine ⟨.inr rfl, _, zx, rfl, ?_, fun i hi => ?_⟩
        ·refine ⟨by simp [zk, hlen], by rw [z0i zX], rest2, zb⟩
        ·show Heap.put H' b _ i = _;rw [za (hi b t rfl)];exact hsame i (hi b t rfl)
     ·rw [decide_eq_false heq] at e25
      repeat fail
      refine zg3 ?_;refine ⟨k + 1, ⟨_, rfl, stp, stp, zom, zom, fun i hi h0 h1 => ?_⟩, zom⟩;by_cases hik : i = k
      ·subst hik;exact fun hh => heq hh.symm
      ·exact hne i hi h0 zom
   ·repeat (first | (refine zd (by first | exact omv | exact z2i) ?_) | refine Trip.seq ?_ | refine zm ?_)
    refine z9G ?_;refine z9P ?_;have hd := z2E l l.length (Nat.le_refl _) (fun i hi a c => hne i hi a zom);rw [List.take_length] at hd;refine ⟨.inr rfl, _, zx, rfl, ?_, fun _ _ => rfl⟩;rw [hd];exact ⟨stp, by rw [z0i zX], rest, hH⟩
end Go.Proofs.YteplpegfcpmflaaGreat
namespace Go.Proofs.YteplpegfcpmflaaGreat
open Go.RowKit Go.Am
attribute [local irreducible] aop OpsL Trip zI z2w OpsK OpsR
theorem z6x : Am.z0U Tryz.prog 44 := ⟨Tryz.f44, Tryz.func44, by kernel_rfl, by kernel_rfl⟩
theorem zeF (W0 : World) {nx : Nat} {H : Heap} {ob : Option (Nat × Nat)} {v : Value} {l : List (Int)} (h : z5A H ob v l) (hl : l.length ≤ 1000000) :
  ACalls Tryz.prog W0 64 [v, .func (.func 45) #[] #[]] nx H fun _ nx' H' => nx' = nx ∧ ∃ l' : List (Int), l'.Perm l ∧ z1w lt1 l' ∧ z5A H' ob v l' ∧ ∀ i, (∀ b t, ob = some (b, t) → i ≠ b) → H' i = H i := by
 cases ob with
 | none =>
  obtain ⟨rfl, _, hl0⟩ := h;have hnil : l = [] := List.eq_nil_of_length_eq_zero hl0;subst hnil;intro C w args' hR ha;obtain ⟨h1, h2⟩ := ha
  obtain ⟨v1, v2, rfl⟩ : ∃ v1 v2, args' = [v1, v2] := by
   match args', h1 with
   | [v1, v2], _ => exact ⟨v1, v2, rfl⟩
  have hv1 := h2 0 (by simp) (by simp);simp only [List.getElem_cons_zero] at hv1;obtain rfl : v1 = .slice none 0 0 := by cases hv1; rfl
  refine (AnyF.slices_SortFunc_none { sortIL with } none 0 v2 w).mono ?_;rintro e w' ⟨rfl, rfl⟩;exact ⟨_, _, C, nx, H, rfl, ⟨rfl, [], List.Perm.refl _, List.Pairwise.nil, ⟨rfl, rfl, rfl⟩, fun _ _ => rfl⟩, hR, .tuple #[] #[] rfl (fun i h => absurd h (by simp)), Stp.refl _ _ _⟩
 | some bt =>
  obtain ⟨b, t⟩ := bt;obtain ⟨rfl, _, rest, hH⟩ := h;rw [z4X] at hH;refine ACalls.weaken (zhx W0 hH zom) ?_;rintro v nx' H' ⟨_, rfl, l', hp, hs, rfl⟩;refine ⟨rfl, l', hp, hs, ⟨by rw [hp.length_eq], by rw [z0i zX], rest, by rw [z4X]; exact zb⟩, fun i hi => za (hi b t rfl)⟩
theorem zfy (W0 : World) {nx : Nat} {H : Heap} {v : Value} {l : List Int} (hr : AtI H v l) (hm : l.length ≤ 100000) :
  ACalls Tryz.prog W0 44 [v, .func (.func 45) #[] #[]] nx H fun v nx' H' => ∃ ob, z5A H' ob v (zu lt1 l) ∧ z2n nx H nx' H' ob := by
 refine zl (fn := Tryz.f44) (c := _) Tryz.func44 rfl (fun tm n hn0 htm => ?_);have e0 : tm 0 = v := htm 0;have e1 : tm 1 = .func (.func 45) #[] #[] := htm 1;clear htm;replace hn0 : n = 13 := hn0;refine Trip.ok fun hok => ?_;replace hok : ∀ id o, H id = some o → id < nx := hok;obtain ⟨va, vc, rfl⟩ := hr.slice;refine z5c ?_;refine OpsL.new zsd (zq (l := [(0, .slice va l.length vc)]) (r := (.slice (some ⟨nx, 0, none⟩) 1 1, .new (.cells [.slice va l.length vc] 1 none false (some 22)))) zeq krf) ?_;have hx0 : Ext nx H (nx + 1) (H.put nx (.cells [.slice va l.length vc] 1 none false (some 22))) := zh;have hin : zdC (H.put nx (.cells [.slice va l.length vc] 1 none false (some 22))) (.slice (some ⟨nx, 0, none⟩) 1 1) [(.slice va l.length vc, l)] := ⟨nx, rfl, zb, fun x hx => by rw [List.mem_singleton] at hx; subst hx; exact hr.ext hx0 hok⟩;have hall : z1L [(Value.slice va l.length vc, l)] = l := by simp [z1L]
 refine z0c (hf := zaB) (hc := (zhU W0 hin (by rw [hall]; exact hm) (by simp))) (h := ?_);rintro v1 nx1 H1 ⟨ob, ho1, hx1, hob1⟩;rw [hall] at ho1;refine z5c ?_;refine OpsL.c2 (hf := zas) (hc := (zeF W0 ho1 zom)) (h := ?_);rintro v2 nx2 H2 ⟨rfl, l', hp, hs, ho2, hsame2⟩;refine z7A ?_;refine z0c (hf := zaF) (hc := (zhY W0 ho2 (by rw [hp.length_eq]; omega))) (h := ?_);rintro v3 nx3 H3 ⟨rfl, ho3, hsame3⟩;refine zfL ?_;have heq := z1B z9L (z2H z9L l' hs) (fun x => by rw [z3q, hp.mem_iff] : ∀ x, x ∈ z1h l' ↔ x ∈ l);rw [heq] at ho3;refine ⟨.inr rfl, _, zx, ob, by simpa [zk] using ho3, hx0.trans ⟨hx1.1, fun i hi => ?_⟩, fun b t h => by have := hob1 b t h; omega⟩;rw [hsame3 i (fun b t h => by have := (hob1 b t h).1; omega), hsame2 i (fun b t h => by have := (hob1 b t h).1; omega), hx1.2 i hi]
end Go.Proofs.YteplpegfcpmflaaGreat
namespace Go.Am
open Go.RowKit
def SepB (base A nx : Nat) (l : List (Option (Nat × Nat))) : Prop :=
 (∀ (j b t : Nat), l[j]? = some (some (b, t)) → base ≤ b ∧ b ≠ A ∧ b < nx) ∧ ∀ (j k b t b' t' : Nat), j ≠ k → l[j]? = some (some (b, t)) → l[k]? = some (some (b', t')) → b ≠ b'
theorem SepB.set {base A nx nx' : Nat} {l : List (Option (Nat × Nat))} (h : SepB base A nx l) (hb0 : base ≤ nx) (hA : A < nx) (hle : nx ≤ nx') {j b t : Nat} (hb : nx ≤ b ∨ ∃ t0, l[j]? = some (some (b, t0))) (hlt : b < nx') : SepB base A nx' (l.set j (some (b, t))) := by
 have hfor : ∀ (k b' t' : Nat), (l.set j (some (b, t)))[k]? = some (some (b', t')) → (k = j ∧ b' = b) ∨ (k ≠ j ∧ l[k]? = some (some (b', t'))) := fun k b' t' hk => by
  rw [List.getElem?_set] at hk;split at hk
  ·rename_i e;split at hk
   ·cases hk; exact .inl ⟨e.symm, rfl⟩
   ·cases hk
  ·rename_i e; exact .inr ⟨fun e' => e e'.symm, hk⟩
 have hbA : base ≤ b ∧ b ≠ A := by
  rcases hb with hb | ⟨t0, hb⟩
  ·exact ⟨zom, zom⟩
  ·have := h.1 _ _ _ hb; exact ⟨this.1, this.2.1⟩
 refine ⟨fun k b' t' hk => ?_, fun k1 k2 b1 t1 b2 t2 hne h1 h2 => ?_⟩
 ·rcases hfor _ _ _ hk with ⟨_, rfl⟩ | ⟨_, hk⟩
  ·exact ⟨hbA.1, hbA.2, hlt⟩
  ·have := h.1 _ _ _ hk; exact ⟨this.1, this.2.1, zom⟩
 ·rcases hfor _ _ _ h1 with ⟨e1, q1⟩ | ⟨e1, g1⟩
  ·rcases hfor _ _ _ h2 with ⟨e2, q2⟩ | ⟨e2, g2⟩
   ·exact absurd (e1.trans e2.symm) hne
   ·rw [q1];rcases hb with hb | ⟨t0, hb⟩
    ·have := h.1 _ _ _ g2; omega
    ·exact h.2 _ _ _ _ _ _ (fun e => e2 e.symm) hb g2
  ·rcases hfor _ _ _ h2 with ⟨e2, q2⟩ | ⟨e2, g2⟩
   ·rw [q2];rcases hb with hb | ⟨t0, hb⟩
    ·have := h.1 _ _ _ g1; omega
    ·exact h.2 _ _ _ _ _ _ e1 g1 hb
   ·exact h.2 _ _ _ _ _ _ hne g1 g2
theorem SepB.up {base A nx nx' : Nat} {l : List (Option (Nat × Nat))} (h : SepB base A nx l) (hle : nx ≤ nx') : SepB base A nx' l :=
 ⟨fun j b t hj => by have := h.1 j b t hj; exact ⟨this.1, this.2.1, zom⟩, h.2⟩
theorem OwnRow.same {H H' : Heap} {ob : Option (Nat × Nat)} {el : TypeId} {sz k : Nat} {v : Value} {cs : List Value} (hs : ∀ b t, ob = some (b, t) → H' b = H b) (h : OwnRow H ob el sz v cs k) : OwnRow H' ob el sz v cs k := by
 cases ob with
 | none => exact h
 | some bt =>
  obtain ⟨b, t⟩ := bt;obtain ⟨h1, h2, rest, h3⟩ := h;exact ⟨h1, h2, rest, by rw [hs b t rfl]; exact h3⟩
theorem z8Q {base A nx : Nat} {l : List (Option (Nat × Nat))} {H H1 : Heap} {o : AObj} {j : Nat} {old : Option (Nat × Nat)} (hs : SepB base A nx l) (hj : l[j]? = some old) (same : ∀ i, i < nx → (∀ b t, old = some (b, t) → i ≠ b) → H1 i = H i) :
  ∀ (k : Nat) (ob : Option (Nat × Nat)), k ≠ j → l[k]? = some ob → ∀ b t, ob = some (b, t) → (H1.put A o) b = H b := fun k ob hk hl b t hb => by
 subst hb;have h1 := hs.1 k b t hl;rw [za h1.2.1];refine same b h1.2.2 fun b' t' e => ?_;subst e;exact hs.2 k j b t b' t' hk hl hj
end Go.Am
namespace Go.Proofs.YteplpegfcpmflaaGreat
open Go.Am Go.RowKit
structure MkIn (H : Heap) (base A nx : Nat) (a : Aut) (l : List (Option (Nat × Nat))) (vi vf vo vc vn : Value) : Prop where
 cell : H A = some (.cells (zy a vi vf vo vc vn) 0 none false (some 30))
 len : l.length = 5
 init : ∃ b, l[0]? = some b ∧ AppI H b 3 vi a.init
 final : ∃ b, l[1]? = some b ∧ OwnInts H b 3 vf a.final
 opens : ∃ b, l[2]? = some b ∧ OwnOf e4 4 43 H b vo a.opens
 closes : ∃ b, l[3]? = some b ∧ OwnOf e4 4 45 H b vc a.closes
 inners : ∃ b, l[4]? = some b ∧ OwnOf e3 3 51 H b vn a.inners
 sep : SepB base A nx l
 hA : A < nx
 hb : base ≤ nx
theorem MkIn.in {H : Heap} {base A nx : Nat} {a : Aut} {l : List (Option (Nat × Nat))} {vi vf vo vc vn : Value} (h : MkIn H base A nx a l vi vf vo vc vn) : AutIn H a vi vf vo vc vn := by
 obtain ⟨_, _, h1⟩ := h.init;obtain ⟨_, _, h2⟩ := h.final;obtain ⟨_, _, h3⟩ := h.opens;obtain ⟨_, _, h4⟩ := h.closes;obtain ⟨_, _, h5⟩ := h.inners;exact ⟨h1.at, h2.at, h3.at z0y, h4.at z0y, h5.at z3H⟩
theorem MkIn.ext {H H' : Heap} {base A nx nx' : Nat} {a : Aut} {l : List (Option (Nat × Nat))} {vi vf vo vc vn : Value} (h : MkIn H base A nx a l vi vf vo vc vn) (hx : Ext nx H nx' H') : MkIn H' base A nx' a l vi vf vo vc vn := by
 have hs : ∀ (k : Nat) (ob : Option (Nat × Nat)), l[k]? = some ob → ∀ b t, ob = some (b, t) → H' b = H b := fun k ob hl b t e => by
  subst e;exact hx.2 b (h.sep.1 k b t hl).2.2
 refine ⟨by rw [hx.2 A h.hA]; exact h.cell, h.len, ?_, ?_, ?_, ?_, ?_, h.sep.up hx.1, by have := h.hA; have := hx.1; omega, by have := h.hb; have := hx.1; omega⟩
 ·obtain ⟨b, h1, h2⟩ := h.init; exact ⟨b, h1, AppI.same (hs _ _ h1) h2⟩
 ·obtain ⟨b, h1, h2⟩ := h.final; exact ⟨b, h1, OwnRow.same (hs _ _ h1) h2⟩
 ·obtain ⟨b, h1, h2⟩ := h.opens; exact ⟨b, h1, OwnRow.same (hs _ _ h1) h2⟩
 ·obtain ⟨b, h1, h2⟩ := h.closes; exact ⟨b, h1, OwnRow.same (hs _ _ h1) h2⟩
 ·obtain ⟨b, h1, h2⟩ := h.inners; exact ⟨b, h1, OwnRow.same (hs _ _ h1) h2⟩
theorem MkIn.putI {H H1 : Heap} {base A nx nx1 : Nat} {a : Aut} {l : List (Option (Nat × Nat))} {vi vf vo vc vn v' : Value} {p : Int} {old : Option (Nat × Nat)} {b1 t1 : Nat} (h : MkIn H base A nx a l vi vf vo vc vn) (hj : l[0]? = some old)
  (hown : AppI H1 (some (b1, t1)) 3 v' (a.init ++ [p])) (hblk : nx ≤ b1 ∨ ∃ t, old = some (b1, t)) (hlt : b1 < nx1) (hle : nx ≤ nx1) (same : ∀ i, i < nx → (∀ b t, old = some (b, t) → i ≠ b) → H1 i = H i) :
  MkIn (H1.put A (.cells (zy (Go.Am.z3K a p) v' vf vo vc vn) 0 none false (some 30))) base A nx1 (Go.Am.z3K a p) (l.set 0 (some (b1, t1))) v' vf vo vc vn := by
 have hlen := h.len;have hfr := z8Q (o := .cells (zy (Go.Am.z3K a p) v' vf vo vc vn) 0 none false (some 30)) h.sep hj same;have hA := h.hA
 have hset : ∀ (k : Nat) (ob : Option (Nat × Nat)), k ≠ 0 → l[k]? = some ob → (l.set 0 (some (b1, t1)))[k]? = some ob := fun k ob hk hl => by
  rw [List.getElem?_set_ne (fun e => hk e.symm), hl]
 have hbA : b1 ≠ A := by
  rcases hblk with hb | ⟨t, hb⟩
  ·omega
  ·rw [hb] at hj; exact (h.sep.1 _ _ _ hj).2.1
 refine ⟨zb, by simp [hlen], ?_, ?_, ?_, ?_, ?_, h.sep.set h.hb hA hle (by rcases hblk with hb | ⟨t, hb⟩; exact .inl hb; exact .inr ⟨t, by rw [hj, hb]⟩) hlt, zom, by have := h.hb; omega⟩
 ·exact ⟨_, by rw [List.getElem?_set_self zom], AppI.same (fun b t e => by cases e; exact za hbA) hown⟩
 ·obtain ⟨b, h1, h2⟩ := h.final; exact ⟨b, hset _ _ zom h1, OwnRow.same (hfr _ _ zom h1) h2⟩
 ·obtain ⟨b, h1, h2⟩ := h.opens; exact ⟨b, hset _ _ zom h1, OwnRow.same (hfr _ _ zom h1) h2⟩
 ·obtain ⟨b, h1, h2⟩ := h.closes; exact ⟨b, hset _ _ zom h1, OwnRow.same (hfr _ _ zom h1) h2⟩
 ·obtain ⟨b, h1, h2⟩ := h.inners; exact ⟨b, hset _ _ zom h1, OwnRow.same (hfr _ _ zom h1) h2⟩
theorem MkIn.putF {H H1 : Heap} {base A nx nx1 : Nat} {a : Aut} {l : List (Option (Nat × Nat))} {vi vf vo vc vn v' : Value} {p : Int} {old : Option (Nat × Nat)} {b1 t1 : Nat} (h : MkIn H base A nx a l vi vf vo vc vn) (hj : l[1]? = some old)
  (hown : OwnInts H1 (some (b1, t1)) 3 v' (a.final ++ [p])) (hblk : nx ≤ b1 ∨ ∃ t, old = some (b1, t)) (hlt : b1 < nx1) (hle : nx ≤ nx1) (same : ∀ i, i < nx → (∀ b t, old = some (b, t) → i ≠ b) → H1 i = H i) :
  MkIn (H1.put A (.cells (zy (Go.Am.zbK a p) vi v' vo vc vn) 0 none false (some 30))) base A nx1 (Go.Am.zbK a p) (l.set 1 (some (b1, t1))) vi v' vo vc vn := by
 have hlen := h.len;have hfr := z8Q (o := .cells (zy (Go.Am.zbK a p) vi v' vo vc vn) 0 none false (some 30)) h.sep hj same;have hA := h.hA
 have hset : ∀ (k : Nat) (ob : Option (Nat × Nat)), k ≠ 1 → l[k]? = some ob → (l.set 1 (some (b1, t1)))[k]? = some ob := fun k ob hk hl => by
  rw [List.getElem?_set_ne (fun e => hk e.symm), hl]
 have hbA : b1 ≠ A := by
  rcases hblk with hb | ⟨t, hb⟩
  ·omega
  ·rw [hb] at hj; exact (h.sep.1 _ _ _ hj).2.1
 refine ⟨zb, by simp [hlen], ?_, ?_, ?_, ?_, ?_, h.sep.set h.hb hA hle (by rcases hblk with hb | ⟨t, hb⟩; exact .inl hb; exact .inr ⟨t, by rw [hj, hb]⟩) hlt, zom, by have := h.hb; omega⟩
 ·obtain ⟨b, h1, h2⟩ := h.init; exact ⟨b, hset _ _ zom h1, AppI.same (hfr _ _ zom h1) h2⟩
 ·exact ⟨_, by rw [List.getElem?_set_self zom], OwnRow.same (fun b t e => by cases e; exact za hbA) hown⟩
 ·obtain ⟨b, h1, h2⟩ := h.opens; exact ⟨b, hset _ _ zom h1, OwnRow.same (hfr _ _ zom h1) h2⟩
 ·obtain ⟨b, h1, h2⟩ := h.closes; exact ⟨b, hset _ _ zom h1, OwnRow.same (hfr _ _ zom h1) h2⟩
 ·obtain ⟨b, h1, h2⟩ := h.inners; exact ⟨b, hset _ _ zom h1, OwnRow.same (hfr _ _ zom h1) h2⟩
theorem MkIn.putO {H H1 : Heap} {base A nx nx1 : Nat} {a : Aut} {l : List (Option (Nat × Nat))} {vi vf vo vc vn v' : Value} {p : R4} {old : Option (Nat × Nat)} {b1 t1 : Nat} (h : MkIn H base A nx a l vi vf vo vc vn) (hj : l[2]? = some old)
  (hown : OwnOf e4 4 43 H1 (some (b1, t1)) v' (a.opens ++ [p])) (hblk : nx ≤ b1 ∨ ∃ t, old = some (b1, t)) (hlt : b1 < nx1) (hle : nx ≤ nx1) (same : ∀ i, i < nx → (∀ b t, old = some (b, t) → i ≠ b) → H1 i = H i) :
  MkIn (H1.put A (.cells (zy (Go.Am.zaW a p) vi vf v' vc vn) 0 none false (some 30))) base A nx1 (Go.Am.zaW a p) (l.set 2 (some (b1, t1))) vi vf v' vc vn := by
 have hlen := h.len;have hfr := z8Q (o := .cells (zy (Go.Am.zaW a p) vi vf v' vc vn) 0 none false (some 30)) h.sep hj same;have hA := h.hA
 have hset : ∀ (k : Nat) (ob : Option (Nat × Nat)), k ≠ 2 → l[k]? = some ob → (l.set 2 (some (b1, t1)))[k]? = some ob := fun k ob hk hl => by
  rw [List.getElem?_set_ne (fun e => hk e.symm), hl]
 have hbA : b1 ≠ A := by
  rcases hblk with hb | ⟨t, hb⟩
  ·omega
  ·rw [hb] at hj; exact (h.sep.1 _ _ _ hj).2.1
 refine ⟨zb, by simp [hlen], ?_, ?_, ?_, ?_, ?_, h.sep.set h.hb hA hle (by rcases hblk with hb | ⟨t, hb⟩; exact .inl hb; exact .inr ⟨t, by rw [hj, hb]⟩) hlt, zom, by have := h.hb; omega⟩
 ·obtain ⟨b, h1, h2⟩ := h.init; exact ⟨b, hset _ _ zom h1, AppI.same (hfr _ _ zom h1) h2⟩
 ·obtain ⟨b, h1, h2⟩ := h.final; exact ⟨b, hset _ _ zom h1, OwnRow.same (hfr _ _ zom h1) h2⟩
 ·exact ⟨_, by rw [List.getElem?_set_self zom], OwnRow.same (fun b t e => by cases e; exact za hbA) hown⟩
 ·obtain ⟨b, h1, h2⟩ := h.closes; exact ⟨b, hset _ _ zom h1, OwnRow.same (hfr _ _ zom h1) h2⟩
 ·obtain ⟨b, h1, h2⟩ := h.inners; exact ⟨b, hset _ _ zom h1, OwnRow.same (hfr _ _ zom h1) h2⟩
theorem MkIn.putC {H H1 : Heap} {base A nx nx1 : Nat} {a : Aut} {l : List (Option (Nat × Nat))} {vi vf vo vc vn v' : Value} {p : R4} {old : Option (Nat × Nat)} {b1 t1 : Nat} (h : MkIn H base A nx a l vi vf vo vc vn) (hj : l[3]? = some old)
  (hown : OwnOf e4 4 45 H1 (some (b1, t1)) v' (a.closes ++ [p])) (hblk : nx ≤ b1 ∨ ∃ t, old = some (b1, t)) (hlt : b1 < nx1) (hle : nx ≤ nx1) (same : ∀ i, i < nx → (∀ b t, old = some (b, t) → i ≠ b) → H1 i = H i) :
  MkIn (H1.put A (.cells (zy (Go.Am.zaX a p) vi vf vo v' vn) 0 none false (some 30))) base A nx1 (Go.Am.zaX a p) (l.set 3 (some (b1, t1))) vi vf vo v' vn := by
 have hlen := h.len;have hfr := z8Q (o := .cells (zy (Go.Am.zaX a p) vi vf vo v' vn) 0 none false (some 30)) h.sep hj same;have hA := h.hA
 have hset : ∀ (k : Nat) (ob : Option (Nat × Nat)), k ≠ 3 → l[k]? = some ob → (l.set 3 (some (b1, t1)))[k]? = some ob := fun k ob hk hl => by
  rw [List.getElem?_set_ne (fun e => hk e.symm), hl]
 have hbA : b1 ≠ A := by
  rcases hblk with hb | ⟨t, hb⟩
  ·omega
  ·rw [hb] at hj; exact (h.sep.1 _ _ _ hj).2.1
 refine ⟨zb, by simp [hlen], ?_, ?_, ?_, ?_, ?_, h.sep.set h.hb hA hle (by rcases hblk with hb | ⟨t, hb⟩; exact .inl hb; exact .inr ⟨t, by rw [hj, hb]⟩) hlt, zom, by have := h.hb; omega⟩
 ·obtain ⟨b, h1, h2⟩ := h.init; exact ⟨b, hset _ _ zom h1, AppI.same (hfr _ _ zom h1) h2⟩
 ·obtain ⟨b, h1, h2⟩ := h.final; exact ⟨b, hset _ _ zom h1, OwnRow.same (hfr _ _ zom h1) h2⟩
 ·obtain ⟨b, h1, h2⟩ := h.opens; exact ⟨b, hset _ _ zom h1, OwnRow.same (hfr _ _ zom h1) h2⟩
 ·exact ⟨_, by rw [List.getElem?_set_self zom], OwnRow.same (fun b t e => by cases e; exact za hbA) hown⟩
 ·obtain ⟨b, h1, h2⟩ := h.inners; exact ⟨b, hset _ _ zom h1, OwnRow.same (hfr _ _ zom h1) h2⟩
theorem MkIn.putN {H H1 : Heap} {base A nx nx1 : Nat} {a : Aut} {l : List (Option (Nat × Nat))} {vi vf vo vc vn v' : Value} {p : R3} {old : Option (Nat × Nat)} {b1 t1 : Nat} (h : MkIn H base A nx a l vi vf vo vc vn) (hj : l[4]? = some old)
  (hown : OwnOf e3 3 51 H1 (some (b1, t1)) v' (a.inners ++ [p])) (hblk : nx ≤ b1 ∨ ∃ t, old = some (b1, t)) (hlt : b1 < nx1) (hle : nx ≤ nx1) (same : ∀ i, i < nx → (∀ b t, old = some (b, t) → i ≠ b) → H1 i = H i) :
  MkIn (H1.put A (.cells (zy (Go.Am.zcX a p) vi vf vo vc v') 0 none false (some 30))) base A nx1 (Go.Am.zcX a p) (l.set 4 (some (b1, t1))) vi vf vo vc v' := by
 have hlen := h.len;have hfr := z8Q (o := .cells (zy (Go.Am.zcX a p) vi vf vo vc v') 0 none false (some 30)) h.sep hj same;have hA := h.hA
 have hset : ∀ (k : Nat) (ob : Option (Nat × Nat)), k ≠ 4 → l[k]? = some ob → (l.set 4 (some (b1, t1)))[k]? = some ob := fun k ob hk hl => by
  rw [List.getElem?_set_ne (fun e => hk e.symm), hl]
 have hbA : b1 ≠ A := by
  rcases hblk with hb | ⟨t, hb⟩
  ·omega
  ·rw [hb] at hj; exact (h.sep.1 _ _ _ hj).2.1
 refine ⟨zb, by simp [hlen], ?_, ?_, ?_, ?_, ?_, h.sep.set h.hb hA hle (by rcases hblk with hb | ⟨t, hb⟩; exact .inl hb; exact .inr ⟨t, by rw [hj, hb]⟩) hlt, zom, by have := h.hb; omega⟩
 ·obtain ⟨b, h1, h2⟩ := h.init; exact ⟨b, hset _ _ zom h1, AppI.same (hfr _ _ zom h1) h2⟩
 ·obtain ⟨b, h1, h2⟩ := h.final; exact ⟨b, hset _ _ zom h1, OwnRow.same (hfr _ _ zom h1) h2⟩
 ·obtain ⟨b, h1, h2⟩ := h.opens; exact ⟨b, hset _ _ zom h1, OwnRow.same (hfr _ _ zom h1) h2⟩
 ·obtain ⟨b, h1, h2⟩ := h.closes; exact ⟨b, hset _ _ zom h1, OwnRow.same (hfr _ _ zom h1) h2⟩
 ·exact ⟨_, by rw [List.getElem?_set_self zom], OwnRow.same (fun b t e => by cases e; exact za hbA) hown⟩
theorem MkIn.low {H : Heap} {base base' A nx : Nat} {a : Aut} {l : List (Option (Nat × Nat))} {vi vf vo vc vn : Value} (h : MkIn H base A nx a l vi vf vo vc vn) (hb : base' ≤ base) : MkIn H base' A nx a l vi vf vo vc vn :=
 ⟨h.cell, h.len, h.init, h.final, h.opens, h.closes, h.inners, ⟨fun j b t hj => by have := h.sep.1 j b t hj; omega, h.sep.2⟩, h.hA, by have := h.hb; omega⟩
theorem MkIn.other {H : Heap} {base A nx z : Nat} {o : AObj} {a : Aut} {l : List (Option (Nat × Nat))} {vi vf vo vc vn : Value} (h : MkIn H base A nx a l vi vf vo vc vn) (hz : z < base) (hzA : z ≠ A) : MkIn (H.put z o) base A nx a l vi vf vo vc vn := by
 have hs : ∀ (k : Nat) (ob : Option (Nat × Nat)), l[k]? = some ob → ∀ b t, ob = some (b, t) → (H.put z o) b = H b := fun k ob hl b t e => by
  subst e;have := h.sep.1 k b t hl;exact za zom
 refine ⟨by rw [za (fun e => hzA e.symm)]; exact h.cell, h.len, ?_, ?_, ?_, ?_, ?_, h.sep, h.hA, h.hb⟩
 ·obtain ⟨b, h1, h2⟩ := h.init; exact ⟨b, h1, AppI.same (hs _ _ h1) h2⟩
 ·obtain ⟨b, h1, h2⟩ := h.final; exact ⟨b, h1, OwnRow.same (hs _ _ h1) h2⟩
 ·obtain ⟨b, h1, h2⟩ := h.opens; exact ⟨b, h1, OwnRow.same (hs _ _ h1) h2⟩
 ·obtain ⟨b, h1, h2⟩ := h.closes; exact ⟨b, h1, OwnRow.same (hs _ _ h1) h2⟩
 ·obtain ⟨b, h1, h2⟩ := h.inners; exact ⟨b, h1, OwnRow.same (hs _ _ h1) h2⟩
end Go.Proofs.YteplpegfcpmflaaGreat
namespace Go.Proofs.YteplpegfcpmflaaGreat
open Go.RowKit Go.Am
attribute [local irreducible] aop OpsL Trip zI z2w OpsK OpsR
theorem z5W {H : Heap} {ob : Option (Nat × Nat)} {v : Value} {l : List Int} (h : z5A H ob v l) : OwnInts H ob 3 v l := by
 unfold OwnInts;unfold z5A OwnOf at h
 rwa [z4X] at h
structure OwnAut (H : Heap) (base nx : Nat) (a : Aut) (l : List (Option (Nat × Nat))) (vi vf vo vc vn : Value) : Prop where
 len : l.length = 5
 init : ∃ b, l[0]? = some b ∧ z5A H b vi a.init
 final : ∃ b, l[1]? = some b ∧ z5A H b vf a.final
 opens : ∃ b, l[2]? = some b ∧ zaY H b vo a.opens
 closes : ∃ b, l[3]? = some b ∧ zb0 H b vc a.closes
 inners : ∃ b, l[4]? = some b ∧ zaZ H b vn a.inners
 sep : SepB base nx nx l
 hb : base ≤ nx
theorem OwnAut.in {H : Heap} {base nx : Nat} {a : Aut} {l : List (Option (Nat × Nat))} {vi vf vo vc vn : Value} (h : OwnAut H base nx a l vi vf vo vc vn) : AutIn H a vi vf vo vc vn := by
 obtain ⟨_, _, h1⟩ := h.init;obtain ⟨_, _, h2⟩ := h.final;obtain ⟨_, _, h3⟩ := h.opens;obtain ⟨_, _, h4⟩ := h.closes;obtain ⟨_, _, h5⟩ := h.inners;exact ⟨z1s (h1.at zX), z1s (h2.at zX), h3.at z0y, h4.at z0y, h5.at z3H⟩
theorem z4j : Am.z0U Tryz.prog 17 := ⟨Tryz.f17, Tryz.func17, by kernel_rfl, by kernel_rfl⟩
theorem ziR {n0 n1 n2 n3 n4 n5 : Nat} {o1 o2 o3 o4 o5 : Option (Nat × Nat)} (h1 : ∀ b t, o1 = some (b, t) → n0 ≤ b ∧ b < n1) (h2 : ∀ b t, o2 = some (b, t) → n1 ≤ b ∧ b < n2) (h3 : ∀ b t, o3 = some (b, t) → n2 ≤ b ∧ b < n3) (h4 : ∀ b t, o4 = some (b, t) → n3 ≤ b ∧ b < n4) (h5 : ∀ b t, o5 = some (b, t) → n4 ≤ b ∧ b < n5)
  (k1 : n0 ≤ n1) (k2 : n1 ≤ n2) (k3 : n2 ≤ n3) (k4 : n3 ≤ n4) (k5 : n4 ≤ n5) : SepB n0 n5 n5 [o1, o2, o3, o4, o5] := by
 have key : ∀ (j b t : Nat), [o1, o2, o3, o4, o5][j]? = some (some (b, t)) → (j = 0 ∧ n0 ≤ b ∧ b < n1) ∨ (j = 1 ∧ n1 ≤ b ∧ b < n2) ∨ (j = 2 ∧ n2 ≤ b ∧ b < n3) ∨ (j = 3 ∧ n3 ≤ b ∧ b < n4) ∨ (j = 4 ∧ n4 ≤ b ∧ b < n5) := fun j b t h => by
  match j, h with
  | 0, h => exact .inl ⟨rfl, h1 b t (Option.some.inj h)⟩
  | 1, h => exact .inr (.inl ⟨rfl, h2 b t (Option.some.inj h)⟩)
  | 2, h => exact .inr (.inr (.inl ⟨rfl, h3 b t (Option.some.inj h)⟩))
  | 3, h => exact .inr (.inr (.inr (.inl ⟨rfl, h4 b t (Option.some.inj h)⟩)))
  | 4, h => exact .inr (.inr (.inr (.inr ⟨rfl, h5 b t (Option.some.inj h)⟩)))
  | j + 5, h => simp at h
 refine ⟨fun j b t h => ?_, fun j k b t b' t' hne ha hb => ?_⟩
 ·have := key j b t h; omega
 ·have := key j b t ha;have := key k b' t' hb;omega
def z0g : List Value := [.int .i64 0, .int .i64 0, .slice none 0 0, .slice none 0 0, .slice none 0 0, .slice none 0 0, .slice none 0 0]
theorem _root_.Go.Am.SepB.base {base base' A nx : Nat} {l : List (Option (Nat × Nat))} (h : SepB base A nx l) (hb : base' ≤ base) : SepB base' A nx l := ⟨fun j b t hj => by have := h.1 j b t hj; exact ⟨zom, this.2⟩, h.2⟩
theorem zeA (W0 : World) {nx : Nat} {H : Heap} {a : Aut} {vi vf vo vc vn : Value} (ha : AutIn H a vi vf vo vc vn) (hn : AutLen a) :
  ACalls Tryz.prog W0 17 [.agg (zy a vi vf vo vc vn).toArray] nx H fun v nx' H' => ∃ l vi' vf' vo' vc' vn', v = .agg (zy (zR a) vi' vf' vo' vc' vn').toArray ∧ OwnAut H' nx nx' (zR a) l vi' vf' vo' vc' vn' ∧ Ext nx H nx' H' := by
 obtain ⟨ai, ci, rfl⟩ := ha.init.slice;obtain ⟨af, cf, rfl⟩ := ha.final.slice;obtain ⟨ao, co, rfl⟩ := ha.opens.slice;obtain ⟨ac, cc, rfl⟩ := ha.closes.slice;obtain ⟨an, cn, rfl⟩ := ha.inners.slice;refine zl (fn := Tryz.f17) (c := _) Tryz.func17 rfl (fun tm n hn0 htm => ?_);have e0 : tm 0 = .agg (zy a (.slice ai a.init.length ci) (.slice af a.final.length cf) (.slice ao a.opens.length co) (.slice ac a.closes.length cc) (.slice an a.inners.length cn)).toArray := htm 0;clear htm;replace hn0 : n = 23 := hn0;refine Trip.ok fun hok => ?_;replace hok : ∀ id o, H id = some o → id < nx := hok;refine z5L ?_;refine OpsL.new zsd (z0f evr) ?_;refine OpsL.new zsd (zB (l := z0g) krf) ?_;obtain ⟨G, hG⟩ : ∃ G, G = (H.put nx (.cells (Value.agg (zy a (.slice ai a.init.length ci) (.slice af a.final.length cf) (.slice ao a.opens.length co) (.slice ac a.closes.length cc) (.slice an a.inners.length cn)).toArray).cells.toList 0 none false (some 30))).put (nx + 1) (.cells z0g 0 none false (some 30)) := ⟨_, rfl⟩;have hx0 : Ext nx H (nx + 1 + 1) G := by rw [hG]; exact zh.trans zh
 have hokG : ∀ id o, G id = some o → id < nx + 1 + 1 := by rw [hG]; exact zF (zF hok)
 have gx : G nx = some (.cells (zy a (.slice ai a.init.length ci) (.slice af a.final.length cf) (.slice ao a.opens.length co) (.slice ac a.closes.length cc) (.slice an a.inners.length cn)) 0 none false (some 30)) := by rw [hG, za zom, zb]; rfl
 have gy : G (nx + 1) = some (.cells z0g 0 none false (some 30)) := by rw [hG, zb]
 replace ha := ha.ext hx0 hok;rw [← hG];clear hG e0;refine zem ?_;refine OpsR.drawn [6, 9, 12, 15, 18, 20] (K := fun nx1 H1 => H1 nx = some (.cells (zy a (.slice ai a.init.length ci) (.slice af a.final.length cf) (.slice ao a.opens.length co) (.slice ac a.closes.length cc) (.slice an a.inners.length cn)) 0 none false (some 30))) z0u krf krf [0, 1, 2, 3, 4, 5, 7, 8, 10, 11, 13, 14, 16, 17, 6, 9, 12, 15, 18, 19, 20] krf gx ?_;refine zg4 ?_;refine zA (v := .int .i64 a.N) rfl krf zsd gx (fun H2 nx2 hK => zp evr zxr rfl (by rw [Nat.zero_add]; exact ze hK rfl)) ?_;refine zg4 ?_;refine zA (v := .int .i64 a.G) rfl krf zsd gx (fun H2 nx2 hK => zp evr zxr rfl (by rw [Nat.zero_add]; exact ze hK rfl)) ?_;refine zg4 ?_;refine zA (v := .slice ai a.init.length ci) rfl krf zsd gx (fun H2 nx2 hK => zp evr zxr rfl (by rw [Nat.zero_add]; exact ze hK rfl)) ?_;refine zg4 ?_;refine zA (v := .slice af a.final.length cf) rfl krf zsd gx (fun H2 nx2 hK => zp evr zxr rfl (by rw [Nat.zero_add]; exact ze hK rfl)) ?_;refine zg4 ?_;refine zA (v := .slice ao a.opens.length co) rfl krf zsd gx (fun H2 nx2 hK => zp evr zxr rfl (by rw [Nat.zero_add]; exact ze hK rfl)) ?_;refine zg4 ?_;refine zA (v := .slice ac a.closes.length cc) rfl krf zsd gx (fun H2 nx2 hK => zp evr zxr rfl (by rw [Nat.zero_add]; exact ze hK rfl)) ?_;refine zg4 ?_;refine zA (v := .slice an a.inners.length cn) rfl krf zsd gx (fun H2 nx2 hK => zp evr zxr rfl (by rw [Nat.zero_add]; exact ze hK rfl)) ?_;refine z05 krf (zW rfl rfl zsd zxr evd evd z6x (zfy W0 (z1t ha.init) (by have := hn.init; omega)).ok ?_);rintro v1 n1 H1 ⟨⟨o1, w1, x1, b1⟩, ok1⟩;have hxx1 : Ext (nx + 1 + 1) G n1 H1 := x1;have gx1 : H1 nx = some (.cells (zy a (.slice ai a.init.length ci) (.slice af a.final.length cf) (.slice ao a.opens.length co) (.slice ac a.closes.length cc) (.slice an a.inners.length cn)) 0 none false (some 30)) := (hxx1.2 nx zom).trans gx;have ha1 := ha.ext hxx1 hokG;obtain ⟨a1, c1, hv1⟩ := (w1.at zX).slice;subst hv1;refine ⟨gx1, ?_⟩;refine z05 krf (zW rfl rfl zsd zxr evd evd z6x (zfy W0 (z1t ha1.final) (by have := hn.final; omega)).ok ?_);rintro v2 n2 H2 ⟨⟨o2, w2, x2, b2⟩, ok2⟩;have hxx2 : Ext (nx + 1 + 1) G n2 H2 := hxx1.trans x2;have gx2 : H2 nx = some (.cells (zy a (.slice ai a.init.length ci) (.slice af a.final.length cf) (.slice ao a.opens.length co) (.slice ac a.closes.length cc) (.slice an a.inners.length cn)) 0 none false (some 30)) := (hxx2.2 nx zom).trans gx;have ha2 := ha.ext hxx2 hokG;obtain ⟨a2, c2, hv2⟩ := (w2.at zX).slice;subst hv2;refine ⟨gx2, ?_⟩;refine z05 krf (zW rfl rfl zsd zxr evd evd zan (zhs W0 ha2.opens (by have := hn.opens; omega)).ok ?_);rintro v3 n3 H3 ⟨⟨o3, w3, x3, b3⟩, ok3⟩;have hxx3 : Ext (nx + 1 + 1) G n3 H3 := hxx2.trans x3;have gx3 : H3 nx = some (.cells (zy a (.slice ai a.init.length ci) (.slice af a.final.length cf) (.slice ao a.opens.length co) (.slice ac a.closes.length cc) (.slice an a.inners.length cn)) 0 none false (some 30)) := (hxx3.2 nx zom).trans gx
 have ha3 := ha.ext hxx3 hokG;obtain ⟨a3, c3, hv3⟩ := (w3.at z03).slice;subst hv3;refine ⟨gx3, ?_⟩;refine z05 krf (zW rfl rfl zsd zxr evd evd zap (zhu W0 ha3.closes (by have := hn.closes; omega)).ok ?_);rintro v4 n4 H4 ⟨⟨o4, w4, x4, b4⟩, ok4⟩;have hxx4 : Ext (nx + 1 + 1) G n4 H4 := hxx3.trans x4;have gx4 : H4 nx = some (.cells (zy a (.slice ai a.init.length ci) (.slice af a.final.length cf) (.slice ao a.opens.length co) (.slice ac a.closes.length cc) (.slice an a.inners.length cn)) 0 none false (some 30)) := (hxx4.2 nx zom).trans gx;have ha4 := ha.ext hxx4 hokG;obtain ⟨a4, c4, hv4⟩ := (w4.at z03).slice;subst hv4;refine ⟨gx4, ?_⟩;refine z05 krf (zW rfl rfl zsd zxr evd evd zao (zht W0 ha4.inners (by have := hn.inners; omega)).ok ?_);rintro v5 n5 H5 ⟨⟨o5, w5, x5, b5⟩, ok5⟩;have hxx5 : Ext (nx + 1 + 1) G n5 H5 := hxx4.trans x5;have gx5 : H5 nx = some (.cells (zy a (.slice ai a.init.length ci) (.slice af a.final.length cf) (.slice ao a.opens.length co) (.slice ac a.closes.length cc) (.slice an a.inners.length cn)) 0 none false (some 30)) := (hxx5.2 nx zom).trans gx;have ha5 := ha.ext hxx5 hokG;obtain ⟨a5, c5, hv5⟩ := (w5.at z14).slice;subst hv5;refine ⟨gx5, ?_⟩;refine zg1 ?_;refine zd (zE (v := .agg (zy (zR a) (.slice a1 (zu lt1 a.init).length c1) (.slice a2 (zu lt1 a.final).length c2) (.slice a3 (zu lt4 a.opens).length c3) (.slice a4 (zu lt4 a.closes).length c4) (.slice a5 (zu lt3 a.inners).length c5)).toArray) (l := [(0, .int .i64 a.N), (1, .int .i64 a.G), (2, .slice a1 (zu lt1 a.init).length c1), (3, .slice a2 (zu lt1 a.final).length c2), (4, .slice a3 (zu lt4 a.opens).length c3), (5, .slice a4 (zu lt4 a.closes).length c4), (6, .slice a5 (zu lt3 a.inners).length c5)]) zeq krf) ?_;refine OpsL.nil ?_;refine zg5 ?_;have gy5 : H5 (nx + 1) = some (.cells z0g 0 none false (some 30)) := (hxx5.2 (nx + 1) zom).trans gy;refine OpsL.upd (zw (k := 7) evr evr zxr rfl (o := .cells (zy (zR a) (.slice a1 (zu lt1 a.init).length c1) (.slice a2 (zu lt1 a.final).length c2) (.slice a3 (zu lt4 a.opens).length c3) (.slice a4 (zu lt4 a.closes).length c4) (.slice a5 (zu lt3 a.inners).length c5)) 0 none false (some 30)) (zC (vs := zy (zR a) (.slice a1 (zu lt1 a.init).length c1) (.slice a2 (zu lt1 a.final).length c2) (.slice a3 (zu lt4 a.opens).length c3) (.slice a4 (zu lt4 a.closes).length c4) (.slice a5 (zu lt3 a.inners).length c5)) gy5 rfl rfl)) ?_;refine OpsL.nil ⟨by show Heap.put H5 (nx + 1) _ nx = _; rw [za zom]; exact gx5, ?_⟩;refine z0T ?_
 (change Trip _ _ _ _ _)
 refine z9T ?_;have hk1 := x1.1;have hk2 := x2.1;have hk3 := x3.1;have hk4 := x4.1;have hk5 := x5.1;have hH : ∀ i, i ≠ nx + 1 → (H5.put (nx + 1) (.cells (zy (zR a) (.slice a1 (zu lt1 a.init).length c1) (.slice a2 (zu lt1 a.final).length c2) (.slice a3 (zu lt4 a.opens).length c3) (.slice a4 (zu lt4 a.closes).length c4) (.slice a5 (zu lt3 a.inners).length c5)) 0 none false (some 30))) i = H5 i := fun i hi => za hi;have hrd : z2a Tryz.prog (H5.put (nx + 1) (.cells (zy (zR a) (.slice a1 (zu lt1 a.init).length c1) (.slice a2 (zu lt1 a.final).length c2) (.slice a3 (zu lt4 a.opens).length c3) (.slice a4 (zu lt4 a.closes).length c4) (.slice a5 (zu lt3 a.inners).length c5)) 0 none false (some 30))) 30 ⟨nx + 1, 0, none⟩ = some (.agg (zy (zR a) (.slice a1 (zu lt1 a.init).length c1) (.slice a2 (zu lt1 a.final).length c2) (.slice a3 (zu lt4 a.opens).length c3) (.slice a4 (zu lt4 a.closes).length c4) (.slice a5 (zu lt3 a.inners).length c5)).toArray) := z1a (k := 7) zxr zxr zxr (zG zb rfl);refine ⟨.inr rfl, _, z26 (a := ⟨nx + 1, 0, none⟩) (by simp [zk]) hrd, [o1, o2, o3, o4, o5], _, _, _, _, _, rfl, ⟨rfl, ?_, ?_, ?_, ?_, ?_, ?_, zom⟩, ?_⟩
 ·exact ⟨_, rfl, OwnRow.same (fun b t h => hH b (by have := b1 b t h; omega)) (OwnOf.ext (((x2.trans x3).trans x4).trans x5) (fun b t h => (b1 b t h).2) w1)⟩
 ·exact ⟨_, rfl, OwnRow.same (fun b t h => hH b (by have := b2 b t h; omega)) (OwnOf.ext ((x3.trans x4).trans x5) (fun b t h => (b2 b t h).2) w2)⟩
 ·exact ⟨_, rfl, OwnRow.same (fun b t h => hH b (by have := b3 b t h; omega)) (OwnOf.ext (x4.trans x5) (fun b t h => (b3 b t h).2) w3)⟩
 ·exact ⟨_, rfl, OwnRow.same (fun b t h => hH b (by have := b4 b t h; omega)) (OwnOf.ext x5 (fun b t h => (b4 b t h).2) w4)⟩
 ·exact ⟨_, rfl, OwnRow.same (fun b t h => hH b (by have := b5 b t h; omega)) w5⟩
 ·refine (ziR (n0 := nx + 1 + 1) b1 b2 b3 b4 b5 hk1 hk2 hk3 hk4 hk5).base zom
 ·exact ⟨zom, fun i hi => by rw [hH i zom, hxx5.2 i zom, hx0.2 i hi]⟩
end Go.Proofs.YteplpegfcpmflaaGreat
