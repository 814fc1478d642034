import Derived.Test.YtjgbcpagfghfnaaQYM27
import Derived.Test.YtjgbcpagfghfnaaQYM15
import Derived.Test.YtjgbcpagfghfnaaQYM12
set_option linter.unusedVariables false
set_option linter.unusedSimpArgs false
set_option linter.unnecessarySimpa false
namespace Go.Am
open Go.RowKit
def z3W (s : List Bool × List Int) (p : Int) : List Bool × List Int := if s.1.getD p.toNat false then s else (s.1.set p.toNat true, s.2 ++ [p])
def z37 (s : List Bool × List Int) (l : List Int) : List Bool × List Int := l.foldl z3W s
theorem z97 (s : List Bool × List Int) (p : Int) : (z3W s p).1.length = s.1.length := by
 unfold z3W;split <;> simp
theorem zbE (s : List Bool × List Int) (p : Int) : (z3W s p).2.length ≤ s.2.length + 1 := by
 unfold z3W;split <;> simp
theorem z6M (l : List Int) : ∀ s, (z37 s l).1.length = s.1.length := by
 induction l with
 | nil => intro s; rfl
 | cons a l ih => intro s; exact (ih _).trans (z97 s a)
theorem zbD (l : List Int) : ∀ s, (z37 s l).2.length ≤ s.2.length + l.length := by
 induction l with
 | nil => intro s; exact Nat.le_refl _
 | cons a l ih => intro s; have := ih (z3W s a); have := zbE s a; simp only [List.length_cons]; show (z37 (z3W s a) l).2.length ≤ _; omega
theorem zbC {l : List Int} {i : Nat} (s : List Bool × List Int) (h : i < l.length) : z37 s (l.take (i + 1)) = z3W (z37 s (l.take i)) (l.getD i 0) := by
 unfold z37;rw [List.take_succ_eq_append_getElem h, List.foldl_append, List.getD_eq_getElem?_getD (l := l), List.getElem?_eq_getElem h];rfl
def zeK (nx : Nat) (H H' : Heap) (bs : Nat → Prop) : Prop := ∀ k, k < nx → ¬ bs k → H' k = H k
def za0 (sb ib : Nat) (ob : Option (Nat × Nat)) (k : Nat) : Prop := k = sb ∨ k = ib ∨ ∃ t, ob = some (k, t)
end Go.Am
namespace Go.Proofs.Ytjgbcpagfghfnaa
open Go.Am Go.RowKit
def QueAt (H : Heap) (ob : Option (Nat × Nat)) (v : Value) (l : List Int) : Prop :=
 match ob with
 | none => v = .slice none 0 0 ∧ l = []
 | some (b, t) => v = .slice (some ⟨b, 0, some t⟩) l.length l.length ∧ H b = some (.cells (l.map (.int .i64 ·)) 1 (some t) false (some 3))
theorem QueAt.put {H : Heap} {ob : Option (Nat × Nat)} {v : Value} {l : List Int} {k : Nat} {o : AObj} (h : QueAt H ob v l) (hk : ∀ b t, ob = some (b, t) → b ≠ k) : QueAt (H.put k o) ob v l := by
 cases ob with
 | none => exact h
 | some bt => exact ⟨h.1, by rw [zj (hk _ _ rfl)]; exact h.2⟩
structure Srch (H : Heap) (sb ib : Nat) (ob : Option (Nat × Nat)) (qv : Value) (s : List Bool × List Int) : Prop where
 str : H sb = some (.cells [.slice (some ⟨ib, 0, none⟩) s.1.length s.1.length, qv] 0 none false (some 67))
 is : H ib = some (.cells (s.1.map .bool) 1 none false (some 4))
 qu : QueAt H ob qv s.2
 ne : sb ≠ ib
 obs : ∀ b t, ob = some (b, t) → b ≠ sb ∧ b ≠ ib
attribute [local irreducible] aop OpsL Trip zt z1X z1E OpsR OpsQ
theorem z2E : Am.z1G Try.prog 39 := ⟨Try.f39, Try.func39, by kernel_rfl, by kernel_rfl⟩
set_option maxRecDepth 20000 in
set_option maxHeartbeats 16000000 in
theorem zhl (W0 : World) {nx : Nat} {H : Heap} {sb ib : Nat} {ob : Option (Nat × Nat)} {qv lv : Value} {s : List Bool × List Int} {l : List Int} (hS : Srch H sb ib ob qv s) (hsb : sb < nx) (hib : ib < nx) (hob : ∀ b t, ob = some (b, t) → b < nx)
  (hl : ∀ H', zeK nx H H' (za0 sb ib ob) → IntsAt H' lv l) (hin : ∀ i, i < l.length → 0 ≤ l.getD i 0 ∧ l.getD i 0 < s.1.length) (hlen : s.2.length + l.length ≤ 1000000) :
  ACalls Try.prog W0 39 [.pointer (some ⟨sb, 0, none⟩), lv] nx H fun _ nx' H' => ∃ ob' qv', Srch H' sb ib ob' qv' (z37 s l) ∧ (∀ b t, ob' = some (b, t) → b < nx' ∧ (nx ≤ b ∨ ob = some (b, t))) ∧ nx ≤ nx' ∧ zeK nx H H' (za0 sb ib ob) ∧ ∀ b t, ob = some (b, t) → ∃ more, H' b = some (.cells ((s.2 ++ more).map (.int .i64 ·)) 1 (some t) false (some 3)) := by
 refine zg (fn := Try.f39) (c := _) Try.func39 rfl (fun tm n hn0 htm => ?_);have e0 : tm 0 = .pointer (some ⟨sb, 0, none⟩) := htm 0;have e1 : tm 1 = lv := htm 1;clear htm;replace hn0 : n = 37 := hn0;obtain ⟨la, lc, rfl⟩ := (hl H (fun _ _ _ => rfl)).slice;refine zgJ ?_;refine zG (fun (i : Nat) st => ∃ (tm : Nat → Value) (nx' : Nat) (F : Heap) (ob' : Option (Nat × Nat)) (qv' : Value), st = ⟨tm, n, F, nx'⟩ ∧ Srch F sb ib ob' qv' (z37 s (l.take i)) ∧ (∀ b t, ob' = some (b, t) → b < nx' ∧ (nx ≤ b ∨ ob = some (b, t))) ∧ nx ≤ nx' ∧ zeK nx H F (za0 sb ib ob) ∧ (∀ b t, ob = some (b, t) → ∃ more, F b = some (.cells ((s.2 ++ more).map (.int .i64 ·)) 1 (some t) false (some 3))) ∧ tm 0 = .pointer (some ⟨sb, 0, none⟩) ∧ tm 6 = .slice la l.length lc ∧ tm 7 = .int .i64 l.length ∧ tm 8 = .int .i64 i ∧ i ≤ l.length) (fun i => l.length - i) 0 ?_ ?_
 ·exact ⟨_, _, _, ob, _, rfl, hS, fun b t h => ⟨hob b t h, .inr h⟩, Nat.le_refl _, fun _ _ _ => rfl, fun b t h => ⟨[], by subst h; rw [List.append_nil]; exact hS.qu.2⟩, stp, stp, stp, stp, by omega⟩
 clear e0 e1;rintro i st ⟨tm, nx', F, ob', qv', rfl, hs, hob', hnx, hk, hm, e0, e6, e7, e8, hi⟩
 repeat (first | (refine zc (by exact z24) ?_) | (refine Trip.seq ?_) | (refine zd ?_) | (refine Trip.block ?_) | (refine zJ (fun _ => ?_) (fun _ => ?_)) | (refine Trip.skip ?_; (change Trip _ _ _ _ _)) | (refine OpsL.nil ?_; (change Trip _ _ _ _ _)))
 ·have hlt : i < l.length := by omega
  obtain ⟨q, rfl, hc⟩ := IntsAt.atI (hl F hk) (show (0 : Int) ≤ i by omega) (show (i : Int) < l.length by omega);rw [Int.toNat_natCast] at hc;obtain ⟨h0, h1⟩ := hin i hlt;have hsn := zbC s hlt;have hl1 := z6M (l.take i) s;have hl2 := zbD (l.take i) s;rw [List.length_take] at hl2;obtain ⟨a, ha⟩ : ∃ a, l.getD i 0 = a := ⟨_, rfl⟩;rw [ha] at hc h0 h1 hsn;generalize z37 s (l.take i) = z at *;obtain ⟨zi, zq⟩ := z;simp only at hl1 hl2;have c0 := z0c (k := 0) hs.str rfl;have c1 := z0c (k := 1) hs.str rfl;have hlt2 : a.toNat < zi.length := by omega
  have ci : zf F ⟨ib, 0 + a.toNat * 1, none⟩ (.bool (zi.getD a.toNat false)) := by
   rw [Nat.mul_one, Nat.zero_add];refine z0c hs.is ?_;rw [List.getElem?_map, List.getElem?_eq_getElem hlt2, List.getD_eq_getElem?_getD, List.getElem?_eq_getElem hlt2];rfl
  simp only at c0 c1 ci;have hf1 : z3W (zi, zq) a = if zi.getD a.toNat false then (zi, zq) else (zi.set a.toNat true, zq ++ [a]) := rfl
  obtain ⟨b, hb⟩ : ∃ b, zi.getD a.toNat false = b := ⟨_, rfl⟩;rw [hb] at ci hf1
  repeat (first | (refine zc (by first | exact omv | exact z09 | exact z0q evr | exact ofa | exact z1j | exact old | exact z4W) ?_) | (refine Trip.seq ?_) | (refine zd ?_) | (refine OpsL.nil ?_; (change Trip _ _ _ _ _)))
  cases b
  ·refine z07 ?_
   repeat (first | (refine zc (by first | exact omv | exact z0q evr | exact ofa | exact z1j | exact old) ?_) | (refine Trip.seq ?_) | (refine zd ?_))
   refine OpsL.storeAt (a := ⟨ib, 0 + a.toNat * 1, none⟩) (v := .bool true) (cs' := (zi.set a.toNat true).map .bool) a.toNat evr (by rfl) xrf rfl rfl hs.is (by simp) (by simpa using hlt2) (by rw [List.map_set]) ?_;refine z0n ?_
   (change Trip _ _ _ _ _)
   have hd := hs.obs;have s1 : (F.put ib (.cells ((zi.set a.toNat true).map .bool) 1 none false (some 4))) sb = _ := (zj hs.ne).trans hs.str;have i1 : (F.put ib (.cells ((zi.set a.toNat true).map .bool) 1 none false (some 4))) ib = _ := zu;have q1 : QueAt (F.put ib (.cells ((zi.set a.toNat true).map .bool) 1 none false (some 4))) ob' qv' zq := QueAt.put hs.qu (fun b t h => (hd b t h).2);have k1 : zeK nx H (F.put ib (.cells ((zi.set a.toNat true).map .bool) 1 none false (some 4))) (za0 sb ib ob) := fun k hk' hb => by rw [zj (fun e => hb (.inr (.inl e))), hk k hk' hb]
   have m1 : ∀ b t, ob = some (b, t) → ∃ more, (F.put ib (.cells ((zi.set a.toNat true).map .bool) 1 none false (some 4))) b = some (.cells ((s.2 ++ more).map (.int .i64 ·)) 1 (some t) false (some 3)) := fun b t h => by rw [zj (hS.obs b t h).2]; exact hm b t h
   have hne := hs.ne;clear c0 c1 ci hc hk hs hm;generalize (F.put ib (.cells ((zi.set a.toNat true).map .bool) 1 none false (some 4))) = G at *;have c1 := z0c (k := 1) s1 rfl;refine zde ?_;refine OpsF.at 7 ?_
   repeat (first | (refine zc (by first | exact omv | exact z0q evr | exact ofa | exact old) ?_))
   refine OpsL.new sdc (z4p evr xrf xrf xrf) ?_;refine z0n ?_;have hg : (G.put nx' (.cells [.int .i64 a] 1 none false (some 3))) nx' = _ := zu;have s3 := (zj (H := G) (o := .cells [.int .i64 a] 1 none false (some 3)) (show sb ≠ nx' by omega)).trans s1;have i3 := (zj (H := G) (o := .cells [.int .i64 a] 1 none false (some 3)) (show ib ≠ nx' by omega)).trans i1;cases ob' with
   | none =>
    obtain ⟨rfl, rfl⟩ := q1;refine OpsF.of ?_;refine OpsL.append (ob := none) (el := 3) (k := 0) (m := 1) (sz := 1) (bytes := 8) (z := [.int .i64 0]) (cs := []) (xs := [.int .i64 a]) (xd := .slice 3) sdc evd evr ⟨rfl, rfl, rfl⟩ (z5G hg rfl (by omega)) rfl (by omega) xrf xrf rfl xrf xrf xrf rfl (by omega) (by omega) ?_;rw [show z4P (nx' + 1) none = nx' + 1 from rfl];have s4 := (zj (H := G.put nx' (.cells [.int .i64 a] 1 none false (some 3))) (o := .cells ([] ++ [.int .i64 a]) 1 (some (nx' + 1)) false (some 3)) (show sb ≠ nx' + 1 by omega)).trans s3;have i4 := (zj (H := G.put nx' (.cells [.int .i64 a] 1 none false (some 3))) (o := .cells ([] ++ [.int .i64 a]) 1 (some (nx' + 1)) false (some 3)) (show ib ≠ nx' + 1 by omega)).trans i3;refine zgG ?_;refine OpsL.storeAt (a := ⟨sb, 0 + 1, none⟩) (v := .slice (some ⟨nx' + 1, 0, some (nx' + 1)⟩) (0 + 1) (0 + 1)) (cs' := [.slice (some ⟨ib, 0, none⟩) zi.length zi.length, .slice (some ⟨nx' + 1, 0, some (nx' + 1)⟩) (0 + 1) (0 + 1)]) 1 evr evd xrf (by rfl) (by rfl) s4 (by simp) (by simp) (by simp) ?_;refine zeo ?_;refine ⟨i + 1, ⟨_, _, _, some (nx' + 1, nx' + 1), .slice (some ⟨nx' + 1, 0, some (nx' + 1)⟩) (0 + 1) (0 + 1), rfl, ?_, ?_, by omega, ?_, ?_, stp, stp, stp, stp, by omega⟩, by omega⟩
    ·rw [hsn, hf1];exact ⟨by rw [zu]; simp, by rw [zj hne.symm]; exact i4, ⟨by simp, by rw [zj (by omega), zu]; simp⟩, hne, fun b' t' h => by cases h; exact ⟨by omega, by omega⟩⟩
    ·intro b' t' h;cases h;exact ⟨by omega, .inl (by omega)⟩
    ·intro k hk' hb';have hk1 : k ≠ sb := fun e => hb' (.inl e);rw [zj hk1, zj (by omega), zj (by omega), k1 k hk' hb']
    ·intro b0 t0 h;obtain ⟨more, hmo⟩ := m1 b0 t0 h;have ho1 := hS.obs b0 t0 h;have ho2 := hob b0 t0 h;exact ⟨more, by rw [zj ho1.1, zj (by omega), zj (by omega)]; exact hmo⟩
   | some bt =>
   obtain ⟨b, t⟩ := bt;obtain ⟨rfl, q2⟩ := q1;obtain ⟨hb1, hb2⟩ := hob' b t rfl;obtain ⟨hb3, hb4⟩ := hd b t rfl;have q3 := (zj (H := G) (o := .cells [.int .i64 a] 1 none false (some 3)) (show b ≠ nx' by omega)).trans q2;refine zdi (xd := .slice 3) (z := [.int .i64 0]) (bytes := 8) (size := 1) (n := 1) (xs := [.int .i64 a]) (len := zq.length) (cc := zq.map (.int .i64 ·)) sdc evr evr xrf xrf xrf xrf xrf xrf rfl (z5G hg rfl (by omega)) rfl q3 (by simp) (by omega) (by omega) ?_ ?_
   ·have s4 := (zj (H := G.put nx' (.cells [.int .i64 a] 1 none false (some 3))) (o := .cells (zq.map (.int .i64 ·) ++ [.int .i64 a]) 1 (some t) false (some 3)) hb3.symm).trans s3;have i4 := (zj (H := G.put nx' (.cells [.int .i64 a] 1 none false (some 3))) (o := .cells (zq.map (.int .i64 ·) ++ [.int .i64 a]) 1 (some t) false (some 3)) hb4.symm).trans i3;refine OpsF.of ?_;refine zgG ?_;refine OpsL.storeAt (a := ⟨sb, 0 + 1, none⟩) (v := .slice (some ⟨b, 0, some t⟩) (zq.length + 1) (zq.length + 1)) (cs' := [.slice (some ⟨ib, 0, none⟩) zi.length zi.length, .slice (some ⟨b, 0, some t⟩) (zq.length + 1) (zq.length + 1)]) 1 evr evd xrf (by rfl) (by rfl) s4 (by simp) (by simp) (by simp) ?_;refine zeo ?_;refine ⟨i + 1, ⟨_, _, _, some (b, t), .slice (some ⟨b, 0, some t⟩) (zq.length + 1) (zq.length + 1), rfl, ?_, ?_, by omega, ?_, ?_, stp, stp, stp, stp, by omega⟩, by omega⟩
    ·rw [hsn, hf1];exact ⟨by rw [zu]; simp, by rw [zj hne.symm]; exact i4, ⟨by simp, by rw [zj (by omega), zu]; simp⟩, hne, fun b' t' h => by cases h; exact ⟨by omega, by omega⟩⟩
    ·intro b' t' h;cases h;exact ⟨by omega, hb2⟩
    ·intro k hk' hb';have hk1 : k ≠ sb := fun e => hb' (.inl e)
     have hk2 : k ≠ b := fun e => by
      rcases hb2 with h | h
      ·omega
      ·exact hb' (.inr (.inr ⟨t, by rw [e]; exact h⟩))
     rw [zj hk1, zj hk2, zj (by omega), k1 k hk' hb']
    ·intro b0 t0 h;obtain ⟨more, hmo⟩ := m1 b0 t0 h;have ho1 := hS.obs b0 t0 h;have ho2 := hob b0 t0 h;by_cases hbb : b0 = b
     ·subst hbb;have e := Option.some.inj (q2.symm.trans hmo);injection e with e1 _ e3;refine ⟨more ++ [a], ?_⟩;rw [zj ho1.1, zu, e1, e3];simp
     ·exact ⟨more, by rw [zj ho1.1, zj hbb, zj (by omega)]; exact hmo⟩
   ·have s4 := (zj (H := G.put nx' (.cells [.int .i64 a] 1 none false (some 3))) (o := .cells (zq.map (.int .i64 ·) ++ [.int .i64 a]) 1 (some (nx' + 1)) false (some 3)) (show sb ≠ nx' + 1 by omega)).trans s3;have i4 := (zj (H := G.put nx' (.cells [.int .i64 a] 1 none false (some 3))) (o := .cells (zq.map (.int .i64 ·) ++ [.int .i64 a]) 1 (some (nx' + 1)) false (some 3)) (show ib ≠ nx' + 1 by omega)).trans i3;refine OpsF.of ?_;refine zgG ?_;refine OpsL.storeAt (a := ⟨sb, 0 + 1, none⟩) (v := .slice (some ⟨nx' + 1, 0, some (nx' + 1)⟩) (zq.length + 1) (zq.length + 1)) (cs' := [.slice (some ⟨ib, 0, none⟩) zi.length zi.length, .slice (some ⟨nx' + 1, 0, some (nx' + 1)⟩) (zq.length + 1) (zq.length + 1)]) 1 evr evd xrf (by rfl) (by rfl) s4 (by simp) (by simp) (by simp) ?_;refine zeo ?_;refine ⟨i + 1, ⟨_, _, _, some (nx' + 1, nx' + 1), .slice (some ⟨nx' + 1, 0, some (nx' + 1)⟩) (zq.length + 1) (zq.length + 1), rfl, ?_, ?_, by omega, ?_, ?_, stp, stp, stp, stp, by omega⟩, by omega⟩
    ·rw [hsn, hf1];exact ⟨by rw [zu]; simp, by rw [zj hne.symm]; exact i4, ⟨by simp, by rw [zj (by omega), zu]; simp⟩, hne, fun b' t' h => by cases h; exact ⟨by omega, by omega⟩⟩
    ·intro b' t' h;cases h;exact ⟨by omega, .inl (by omega)⟩
    ·intro k hk' hb';have hk1 : k ≠ sb := fun e => hb' (.inl e);rw [zj hk1, zj (by omega), zj (by omega), k1 k hk' hb']
    ·intro b0 t0 h;obtain ⟨more, hmo⟩ := m1 b0 t0 h;have ho1 := hS.obs b0 t0 h;have ho2 := hob b0 t0 h;exact ⟨more, by rw [zj ho1.1, zj (by omega), zj (by omega)]; exact hmo⟩
  ·refine z2d ?_;refine zc6 ?_;refine ⟨i + 1, ⟨_, _, _, ob', qv', rfl, by rw [hsn, hf1]; exact hs, hob', hnx, hk, hm, stp, stp, stp, stp, by omega⟩, by omega⟩
 ·repeat (first | (refine Trip.exit ?_; ((repeat (refine zD ?_)); dsimp only)))
  have hi2 : i = l.length := by omega
  subst hi2;rw [List.take_length] at hs;exact ⟨.inl rfl, _, rfl, ob', qv', hs, hob', hnx, hk, hm⟩
end Go.Proofs.Ytjgbcpagfghfnaa
namespace Go.Am
section
variable {K : Type} [DecidableEq K]
def z5M (s : List K × List Int) (k : K) : List K × List Int := (if k ∈ s.1 then s.1 else s.1 ++ [k], s.2 ++ [(s.1.idxOf k : Int)])
def z2z (l : List K) : List K × List Int := l.foldl z5M ([], [])
def z2U (l : List K) : List Int := (z2z l).2
theorem z1H (l : List K) (k : K) : z2z (l ++ [k]) = z5M (z2z l) k := by
 unfold z2z; rw [List.foldl_append]; rfl
theorem z42 (l : List K) : (z2z l).2.length = l.length := by
 suffices h : ∀ (l : List K) (s : List K × List Int), (l.foldl z5M s).2.length = s.2.length + l.length by
  have := h l ([], []); simpa [z2z] using this
 intro l
 induction l with
 | nil => intro s; rfl
 | cons a l ih => intro s; rw [List.foldl_cons, ih]; simp only [z5M, List.length_append, List.length_cons, List.length_nil]; omega
theorem z82 (l : List K) : (z2z l).1.length ≤ l.length := by
 suffices h : ∀ (l : List K) (s : List K × List Int), (l.foldl z5M s).1.length ≤ s.1.length + l.length by
  have := h l ([], []); simpa [z2z] using this
 intro l
 induction l with
 | nil => intro s; exact Nat.le_refl _
 | cons a l ih =>
  intro s; rw [List.foldl_cons]; refine Nat.le_trans (ih _) ?_;simp only [z5M, List.length_cons];split <;> simp <;> omega
theorem z1R (l : List K) : ∀ k, k ∈ (z2z l).1 ↔ k ∈ l := by
 suffices h : ∀ (l : List K) (s : List K × List Int) k, k ∈ (l.foldl z5M s).1 ↔ k ∈ s.1 ∨ k ∈ l by
  intro k; have := h l ([], []) k; simpa [z2z] using this
 intro l
 induction l with
 | nil => intro s k; simp
 | cons a l ih =>
  intro s k; rw [List.foldl_cons, ih];simp only [z5M, List.mem_cons];split
  ·rename_i h;constructor
   ·rintro (h1 | h1)
    ·exact .inl h1
    ·exact .inr (.inr h1)
   ·rintro (h1 | h1 | h1)
    ·exact .inl h1
    ·exact .inl (h1 ▸ h)
    ·exact .inr h1
  ·simp only [List.mem_append, List.mem_singleton];constructor
   ·rintro ((h1 | h1) | h1)
    ·exact .inl h1
    ·exact .inr (.inl h1)
    ·exact .inr (.inr h1)
   ·rintro (h1 | h1 | h1)
    ·exact .inl (.inl h1)
    ·exact .inl (.inr h1)
    ·exact .inr h1
theorem z6C (l : List K) : (∀ (i : Nat) (k : K), l[i]? = some k → (z2U l)[i]? = some ((z2z l).1.idxOf k : Int)) := by
 suffices h : ∀ (l : List K) (s : List K × List Int) (p : List K), p.length = s.2.length → (∀ k, k ∈ p → k ∈ s.1) → (∀ (i : Nat) (k : K), p[i]? = some k → s.2[i]? = some (s.1.idxOf k : Int)) → ∀ (i : Nat) (k : K), (p ++ l)[i]? = some k → (l.foldl z5M s).2[i]? = some ((l.foldl z5M s).1.idxOf k : Int) by
  exact h l ([], []) [] rfl (by simp) (by simp)
 intro l
 induction l with
 | nil => intro s p _ _ hp i k h; rw [List.append_nil] at h; exact hp i k h
 | cons a l ih =>
  intro s p hl hm hp i k h;rw [List.foldl_cons]
  have hold : ∀ k, k ∈ s.1 → (z5M s a).1.idxOf k = s.1.idxOf k := by
   intro k hk;simp only [z5M];split
   ·rfl
   ·rw [List.idxOf_append, if_pos hk]
  refine ih (z5M s a) (p ++ [a]) (by simp [z5M, hl]) ?_ ?_ i k (by rw [List.append_assoc]; exact h)
  ·intro k hk;rcases List.mem_append.1 hk with h1 | h1
   ·have := hm k h1;simp only [z5M]; split
    ·exact this
    ·exact List.mem_append_left _ this
   ·rw [List.mem_singleton.1 h1];simp only [z5M]; split
    ·assumption
    ·exact List.mem_append_right _ (List.mem_singleton.2 rfl)
  ·intro i k h;by_cases hi : i < p.length
   ·rw [List.getElem?_append_left hi] at h;have h2 := hp i k h;rw [hold k (hm k (List.mem_of_getElem? h))];simp only [z5M];rw [List.getElem?_append_left (by rw [← hl]; exact hi)];exact h2
   ·rw [List.getElem?_append_right (by omega)] at h
    have hi2 : i = p.length := by
     by_cases e : i - p.length = 0
     ·omega
     ·rw [List.getElem?_eq_none (by simp; omega)] at h; cases h
    subst hi2;rw [Nat.sub_self] at h;cases h;simp only [z5M];rw [List.getElem?_append_right (by omega), hl, Nat.sub_self];simp only [List.getElem?_cons_zero, Option.some.injEq];split
    ·rfl
    ·rename_i hn;rw [List.idxOf_append, if_neg hn, List.idxOf_eq_length hn];simp
theorem zeu (l : List K) : ∀ x ∈ z2U l, 0 ≤ x ∧ x < (z2z l).1.length := by
 intro x hx;obtain ⟨i, hi, rfl⟩ := List.getElem_of_mem hx;have hl := z42 l;have hi2 : i < l.length := by rw [← hl]; exact hi
 have := z6C l i l[i] (List.getElem?_eq_getElem hi2);rw [List.getElem?_eq_getElem hi] at this;have this := Option.some.inj this;have h := List.idxOf_lt_length_of_mem ((z1R l l[i]).2 (List.getElem_mem hi2));rw [this];omega
theorem z8L (l : List K) {i j : Nat} (hi : i < l.length) (hj : j < l.length) : (z2U l)[i]? = (z2U l)[j]? ↔ l[i] = l[j] := by
 rw [z6C l i _ (List.getElem?_eq_getElem hi), z6C l j _ (List.getElem?_eq_getElem hj)];constructor
 ·intro h
  have h1 : (z2z l).1.idxOf l[i] = (z2z l).1.idxOf l[j] := by
   have := Option.some.inj h; omega
  have a1 := List.idxOf_lt_length_of_mem ((z1R l l[i]).2 (List.getElem_mem hi));have a2 := List.idxOf_lt_length_of_mem ((z1R l l[j]).2 (List.getElem_mem hj));have b1 := List.getElem_idxOf a1;have b2 := List.getElem_idxOf a2;rw [← b1, ← b2];congr 1
 ·intro h; rw [h]
end
section
variable {K L : Type} [DecidableEq K] [DecidableEq L]
theorem z3D (g : K → L) (l : List K) (hg : ∀ a ∈ l, ∀ b ∈ l, g a = g b → a = b) : (z2z (l.map g)).1 = (z2z l).1.map g ∧ z2U (l.map g) = z2U l := by
 suffices h : ∀ (r : List K), (∀ a ∈ r.reverse, ∀ b ∈ r.reverse, g a = g b → a = b) → (z2z (r.reverse.map g)).1 = (z2z r.reverse).1.map g ∧ z2U (r.reverse.map g) = z2U r.reverse by
  have := h l.reverse; rw [List.reverse_reverse] at this; exact this hg
 clear hg;intro r
 induction r with
 | nil => intro _; exact ⟨rfl, rfl⟩
 | cons a r ih =>
  intro hg;rw [List.reverse_cons] at hg ⊢;obtain ⟨h1, h2⟩ := ih (fun x hx y hy => hg x (List.mem_append_left _ hx) y (List.mem_append_left _ hy));generalize r.reverse = l at *
  have hm : g a ∈ (z2z (l.map g)).1 ↔ a ∈ (z2z l).1 := by
   rw [z1R, z1R];constructor
   ·intro h;obtain ⟨x, hx, e⟩ := List.mem_map.1 h;have := hg x (List.mem_append_left _ hx) a (List.mem_append_right _ (List.mem_singleton.2 rfl)) e
    rwa [← this]
   ·intro h; exact List.mem_map.2 ⟨a, h, rfl⟩
  have hi : (z2z (l.map g)).1.idxOf (g a) = (z2z l).1.idxOf a := by
   rw [h1]
   have hs : ∀ s : List K, (∀ x ∈ s, g x = g a → x = a) → (s.map g).idxOf (g a) = s.idxOf a := by
    intro s
    induction s with
    | nil => intro _; rfl
    | cons x s ih =>
     intro hs;rw [List.map_cons, List.idxOf_cons, List.idxOf_cons];by_cases e : x = a
     ·subst e; simp
     ·have e2 : g x ≠ g a := fun q => e (hs x (List.mem_cons_self ..) q);have b1 : (g x == g a) = false := by simpa using e2
      have b2 : (x == a) = false := by simpa using e
      rw [b1, b2];simp only [cond_false];rw [ih (fun y hy => hs y (List.mem_cons_of_mem _ hy))]
   exact hs _ fun x hx e => hg x (List.mem_append_left _ ((z1R l x).1 hx)) a (List.mem_append_right _ (List.mem_singleton.2 rfl)) e
  unfold z2U at *;rw [List.map_append, List.map_cons, List.map_nil, z1H, z1H];simp only [z5M];refine ⟨?_, by rw [h2, hi]⟩;by_cases ha : a ∈ (z2z l).1
  ·rw [if_pos ha, if_pos (hm.2 ha)]; exact h1
  ·rw [if_neg ha, if_neg (fun q => ha (hm.1 q)), h1]; simp
theorem zaZ (l : List K) : z2U l = l.map fun k => ((z2z l).1.idxOf k : Int) := by
 refine List.ext_getElem? fun i => ?_;rw [List.getElem?_map];cases h : l[i]? with
 | none =>
  rw [List.getElem?_eq_none_iff] at h;simp only [Option.map_none];rw [List.getElem?_eq_none];unfold z2U; rw [z42]; exact h
 | some k => exact z6C l i k h
def Can (c : List Int) : Prop := z2U c = c
theorem z7U (l : List K) : Can (z2U l) := by
 have h := (z3D (fun k => ((z2z l).1.idxOf k : Int)) l (fun a ha b hb e => by
  have a1 := List.idxOf_lt_length_of_mem ((z1R l a).2 ha);have a2 := List.idxOf_lt_length_of_mem ((z1R l b).2 hb);have b1 := List.getElem_idxOf a1;have b2 := List.getElem_idxOf a2;have e2 : (z2z l).1.idxOf a = (z2z l).1.idxOf b := by omega
  rw [← b1, ← b2];congr 1)).2
 rw [← zaZ] at h;exact h
def z3e (l : List K) : Nat := (z2z l).1.length
theorem zdR (l : List K) : z3e (z2U l) = z3e l := by
 have h := (z3D (fun k => ((z2z l).1.idxOf k : Int)) l (fun a ha b hb e => by
  have a1 := List.idxOf_lt_length_of_mem ((z1R l a).2 ha);have a2 := List.idxOf_lt_length_of_mem ((z1R l b).2 hb);have b1 := List.getElem_idxOf a1;have b2 := List.getElem_idxOf a2;have e2 : (z2z l).1.idxOf a = (z2z l).1.idxOf b := by omega
  rw [← b1, ← b2];congr 1)).1
 rw [← zaZ] at h;unfold z3e;rw [h, List.length_map]
theorem z6J (g : K → L) (l : List K) : z3e (l.map g) ≤ z3e l ∧ (z3e (l.map g) = z3e l → z2U (l.map g) = z2U l) := by
 suffices h : ∀ (r : List K), z3e (r.reverse.map g) ≤ z3e r.reverse ∧ (z3e (r.reverse.map g) = z3e r.reverse → ∀ a ∈ r.reverse, ∀ b ∈ r.reverse, g a = g b → a = b) by
  have := h l.reverse; rw [List.reverse_reverse] at this;exact ⟨this.1, fun e => (z3D g l (this.2 e)).2⟩
 intro r
 induction r with
 | nil => exact ⟨Nat.le_refl _, fun _ a ha => by simp at ha⟩
 | cons a r ih =>
  rw [List.reverse_cons];generalize r.reverse = l at *;unfold z3e at *;rw [List.map_append, List.map_cons, List.map_nil, z1H, z1H];simp only [z5M];obtain ⟨h1, h2⟩ := ih;by_cases ha : a ∈ (z2z l).1
  ·have hg : g a ∈ (z2z (l.map g)).1 := (z1R _ _).2 (List.mem_map.2 ⟨a, (z1R _ _).1 ha, rfl⟩);rw [if_pos ha, if_pos hg];have ham := (z1R _ _).1 ha;refine ⟨h1, fun e x hx y hy q => ?_⟩;have hx' : x ∈ l := by rcases List.mem_append.1 hx with h | h; exact h; rw [List.mem_singleton.1 h]; exact ham
   have hy' : y ∈ l := by rcases List.mem_append.1 hy with h | h; exact h; rw [List.mem_singleton.1 h]; exact ham
   exact h2 e x hx' y hy' q
  ·rw [if_neg ha, List.length_append, List.length_singleton];by_cases hg : g a ∈ (z2z (l.map g)).1
   ·rw [if_pos hg];exact ⟨by omega, fun e => by omega⟩
   ·rw [if_neg hg, List.length_append, List.length_singleton];refine ⟨by omega, fun e x hx y hy q => ?_⟩;have h3 := h2 (by omega);have hna : ∀ x, x ∈ l → g x ≠ g a := fun x hx e => hg ((z1R _ _).2 (List.mem_map.2 ⟨x, hx, e⟩));rcases List.mem_append.1 hx with hx' | hx'
    ·rcases List.mem_append.1 hy with hy' | hy'
     ·exact h3 x hx' y hy' q
     ·rw [List.mem_singleton.1 hy'] at q; exact absurd q (hna x hx')
    ·rcases List.mem_append.1 hy with hy' | hy'
     ·rw [List.mem_singleton.1 hx'] at q; exact absurd q.symm (hna y hy')
     ·rw [List.mem_singleton.1 hx', List.mem_singleton.1 hy']
end
def z1Q (c : List Int) (row : List Int) (p : Nat) : List Int := c.getD p 0 :: (row.map fun q => c.getD q.toNat 0) ++ List.replicate (60 - row.length) 0
def z0s (c : List Int) (rows : List (List Int)) : List Int := z2U ((List.range rows.length).map fun p => z1Q c (rows.getD p []) p)
theorem z3C (c : List Int) (rows : List (List Int)) : (z0s c rows).length = rows.length := by
 unfold z0s z2U; rw [z42]; simp
theorem z5j {c : List Int} {rows : List (List Int)} (hc : Can c) (hl : rows.length = c.length) : z3e c ≤ z3e (z0s c rows) ∧ (z3e c = z3e (z0s c rows) → z0s c rows = c) := by
 unfold z0s;rw [zdR];have h := z6J (fun k : List Int => k.headD 0) ((List.range rows.length).map fun p => z1Q c (rows.getD p []) p)
 have e : ((List.range rows.length).map fun p => z1Q c (rows.getD p []) p).map (fun k : List Int => k.headD 0) = c := by
  rw [List.map_map];refine List.ext_getElem (by simp [hl]) fun i h1 h2 => ?_;simp only [List.getElem_map, List.getElem_range, Function.comp, z1Q, List.cons_append, List.headD_cons];rw [List.getD_eq_getElem?_getD, List.getElem?_eq_getElem h2]; rfl
 rw [e] at h;exact ⟨h.1, fun q => (h.2 q).symm.trans hc⟩
def z12 (ways : List (List (List Int))) (c : List Int) : List Int := ways.foldl z0s c
theorem z2D : ∀ (ways : List (List (List Int))) {c : List Int} {n : Nat}, Can c → c.length = n → (∀ r ∈ ways, r.length = n) → Can (z12 ways c) ∧ (z12 ways c).length = n ∧ z3e c ≤ z3e (z12 ways c) ∧ (z3e c = z3e (z12 ways c) → z12 ways c = c)
 | [], c, n, hc, hl, _ => ⟨hc, hl, Nat.le_refl _, fun _ => rfl⟩
 | r :: ways, c, n, hc, hl, hw => by
  have h1 := z5j hc (rows := r) (by rw [hw r (List.mem_cons_self ..), hl]);have h2 := z2D ways (c := z0s c r) (n := n) (z7U _) (by rw [z3C, hw r (List.mem_cons_self ..)]) (fun r hr => hw r (List.mem_cons_of_mem _ hr));have e : z12 (r :: ways) c = z12 ways (z0s c r) := rfl;rw [e];refine ⟨h2.1, h2.2.1, Nat.le_trans h1.1 h2.2.2.1, fun q => ?_⟩;have q1 : z3e c = z3e (z0s c r) := by have := h2.2.2.1; have := h1.1; omega
  have q2 := h2.2.2.2 (by omega);rw [q2, h1.2 q1]
def z1b (ways : List (List (List Int))) : Nat → List Int → List Int
 | 0, c => c
 | f + 1, c => if z12 ways c = c then c else z1b ways f (z12 ways c)
theorem za6 {K : Type} [DecidableEq K] (l : List K) : z3e l ≤ l.length := z82 l
end Go.Am
