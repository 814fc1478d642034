import Derived.Test.YtjgbcpagfghfnaaQXM27
import Derived.Test.YtjgbcpagfghfnaaQXM15
import Derived.Test.YtjgbcpagfghfnaaQXM12
set_option linter.unusedVariables false
set_option linter.unusedSimpArgs false
set_option linter.unnecessarySimpa false
namespace Go.Am
open Go.RowKit
def find1 (s : List Bool × List Int) (p : Int) : List Bool × List Int := if s.1.getD p.toNat false then s else (s.1.set p.toNat true, s.2 ++ [p])
def findS (s : List Bool × List Int) (l : List Int) : List Bool × List Int := l.foldl find1 s
theorem find1_len (s : List Bool × List Int) (p : Int) : (find1 s p).1.length = s.1.length := by
 unfold find1
 split <;> simp
theorem find1_len2 (s : List Bool × List Int) (p : Int) : (find1 s p).2.length ≤ s.2.length + 1 := by
 unfold find1
 split <;> simp
theorem findS_len (l : List Int) : ∀ s, (findS s l).1.length = s.1.length := by
 induction l with
 | nil => intro s; rfl
 | cons a l ih => intro s; exact (ih _).trans (find1_len s a)
theorem findS_len2 (l : List Int) : ∀ s, (findS s l).2.length ≤ s.2.length + l.length := by
 induction l with
 | nil => intro s; exact Nat.le_refl _
 | cons a l ih => intro s; have := ih (find1 s a); have := find1_len2 s a; simp only [List.length_cons]; show (findS (find1 s a) l).2.length ≤ _; omega
theorem findS_snoc {l : List Int} {i : Nat} (s : List Bool × List Int) (h : i < l.length) : findS s (l.take (i + 1)) = find1 (findS s (l.take i)) (l.getD i 0) := by
 unfold findS
 rw [List.take_succ_eq_append_getElem h, List.foldl_append, List.getD_eq_getElem?_getD (l := l), List.getElem?_eq_getElem h]
 rfl
def Kept (nx : Nat) (H H' : Heap) (bs : Nat → Prop) : Prop := ∀ k, k < nx → ¬ bs k → H' k = H k
def srchB (sb ib : Nat) (ob : Option (Nat × Nat)) (k : Nat) : Prop := k = sb ∨ k = ib ∨ ∃ t, ob = some (k, t)
end Go.Am
namespace Go.Proofs.Ytjgbcpagfghfnaa
open Go.Am Go.RowKit
def QueAt (H : Heap) (ob : Option (Nat × Nat)) (v : Value) (l : List Int) : Prop :=
 match ob with
 | none => v = .slice none 0 0 ∧ l = []
 | some (b, t) => v = .slice (some ⟨b, 0, some t⟩) l.length l.length ∧ H b = some (.cells (l.map (.int .i64 ·)) 1 (some t) false (some 3))
theorem QueAt.put {H : Heap} {ob : Option (Nat × Nat)} {v : Value} {l : List Int} {k : Nat} {o : AObj} (h : QueAt H ob v l) (hk : ∀ b t, ob = some (b, t) → b ≠ k) : QueAt (H.put k o) ob v l := by
 cases ob with
 | none => exact h
 | some bt => exact ⟨h.1, by rw [Heap.put_ne (hk _ _ rfl)]; exact h.2⟩
structure Srch (H : Heap) (sb ib : Nat) (ob : Option (Nat × Nat)) (qv : Value) (s : List Bool × List Int) : Prop where
 str : H sb = some (.cells [.slice (some ⟨ib, 0, none⟩) s.1.length s.1.length, qv] 0 none false (some 67))
 is : H ib = some (.cells (s.1.map .bool) 1 none false (some 4))
 qu : QueAt H ob qv s.2
 ne : sb ≠ ib
 obs : ∀ b t, ob = some (b, t) → b ≠ sb ∧ b ≠ ib
attribute [local irreducible] aop OpsL Trip blockExit OpsD OpsK OpsR OpsQ
theorem entersFind13 : Am.Enters Try.prog 39 := ⟨Try.f39, Try.func39, by kernel_rfl, by kernel_rfl⟩
set_option maxRecDepth 20000 in
set_option maxHeartbeats 16000000 in
theorem findC (W0 : World) {nx : Nat} {H : Heap} {sb ib : Nat} {ob : Option (Nat × Nat)} {qv lv : Value} {s : List Bool × List Int} {l : List Int} (hS : Srch H sb ib ob qv s) (hsb : sb < nx) (hib : ib < nx) (hob : ∀ b t, ob = some (b, t) → b < nx)
  (hl : ∀ H', Kept nx H H' (srchB sb ib ob) → IntsAt H' lv l) (hin : ∀ i, i < l.length → 0 ≤ l.getD i 0 ∧ l.getD i 0 < s.1.length) (hlen : s.2.length + l.length ≤ 1000000) :
  ACalls Try.prog W0 39 [.pointer (some ⟨sb, 0, none⟩), lv] nx H fun _ nx' H' => ∃ ob' qv', Srch H' sb ib ob' qv' (findS s l) ∧ (∀ b t, ob' = some (b, t) → b < nx' ∧ (nx ≤ b ∨ ob = some (b, t))) ∧ nx ≤ nx' ∧ Kept nx H H' (srchB sb ib ob) ∧ ∀ b t, ob = some (b, t) → ∃ more, H' b = some (.cells ((s.2 ++ more).map (.int .i64 ·)) 1 (some t) false (some 3)) := by
 refine ACalls.by_trip (fn := Try.f39) (c := _) Try.func39 rfl (fun tm n hn0 htm => ?_)
 have e0 : tm 0 = .pointer (some ⟨sb, 0, none⟩) := htm 0
 have e1 : tm 1 = lv := htm 1
 clear htm
 replace hn0 : n = 37 := hn0
 obtain ⟨la, lc, rfl⟩ := (hl H (fun _ _ _ => rfl)).slice
 refine zg54 ?_
 refine Trip.inv (fun (i : Nat) st => ∃ (tm : Nat → Value) (nx' : Nat) (F : Heap) (ob' : Option (Nat × Nat)) (qv' : Value), st = ⟨tm, n, F, nx'⟩ ∧ Srch F sb ib ob' qv' (findS s (l.take i)) ∧ (∀ b t, ob' = some (b, t) → b < nx' ∧ (nx ≤ b ∨ ob = some (b, t))) ∧ nx ≤ nx' ∧ Kept nx H F (srchB sb ib ob) ∧ (∀ b t, ob = some (b, t) → ∃ more, F b = some (.cells ((s.2 ++ more).map (.int .i64 ·)) 1 (some t) false (some 3))) ∧ tm 0 = .pointer (some ⟨sb, 0, none⟩) ∧ tm 6 = .slice la l.length lc ∧ tm 7 = .int .i64 l.length ∧ tm 8 = .int .i64 i ∧ i ≤ l.length) (fun i => l.length - i) 0 ?_ ?_
 ·exact ⟨_, _, _, ob, _, rfl, hS, fun b t h => ⟨hob b t h, .inr h⟩, Nat.le_refl _, fun _ _ _ => rfl, fun b t h => ⟨[], by subst h; rw [List.append_nil]; exact hS.qu.2⟩, stp, stp, stp, stp, by omega⟩
 clear e0 e1
 rintro i st ⟨tm, nx', F, ob', qv', rfl, hs, hob', hnx, hk, hm, e0, e6, e7, e8, hi⟩
 repeat (first | (refine OpsL.q (by exact olss) ?_) | (refine Trip.seq ?_) | (refine Trip.ops ?_) | (refine Trip.block ?_) | (refine Trip.itA (fun _ => ?_) (fun _ => ?_)) | (refine Trip.skip ?_; (change Trip _ _ _ _ _)) | (refine OpsL.nil ?_; (change Trip _ _ _ _ _)))
 ·have hlt : i < l.length := by omega
  obtain ⟨q, rfl, hc⟩ := IntsAt.atI (hl F hk) (show (0 : Int) ≤ i by omega) (show (i : Int) < l.length by omega)
  rw [Int.toNat_natCast] at hc
  obtain ⟨h0, h1⟩ := hin i hlt
  have hsn := findS_snoc s hlt
  have hl1 := findS_len (l.take i) s
  have hl2 := findS_len2 (l.take i) s
  rw [List.length_take] at hl2
  obtain ⟨a, ha⟩ : ∃ a, l.getD i 0 = a := ⟨_, rfl⟩
  rw [ha] at hc h0 h1 hsn
  generalize findS s (l.take i) = z at *
  obtain ⟨zi, zq⟩ := z
  simp only at hl1 hl2
  have c0 := cell_of (k := 0) hs.str rfl
  have c1 := cell_of (k := 1) hs.str rfl
  have hlt2 : a.toNat < zi.length := by omega
  have ci : cellAt F ⟨ib, 0 + a.toNat * 1, none⟩ (.bool (zi.getD a.toNat false)) := by
   rw [Nat.mul_one, Nat.zero_add]
   refine cell_of hs.is ?_
   rw [List.getElem?_map, List.getElem?_eq_getElem hlt2, List.getD_eq_getElem?_getD, List.getElem?_eq_getElem hlt2]
   rfl
  simp only at c0 c1 ci
  have hf1 : find1 (zi, zq) a = if zi.getD a.toNat false then (zi, zq) else (zi.set a.toNat true, zq ++ [a]) := rfl
  obtain ⟨b, hb⟩ : ∃ b, zi.getD a.toNat false = b := ⟨_, rfl⟩
  rw [hb] at ci hf1
  repeat (first | (refine OpsL.q (by first | exact omv | exact oasg | exact aop_nilCheck evr | exact ofa | exact oixa | exact old | exact onot) ?_) | (refine Trip.seq ?_) | (refine Trip.ops ?_) | (refine OpsL.nil ?_; (change Trip _ _ _ _ _)))
  cases b
  ·refine Trip.ifT ?_
   repeat (first | (refine OpsL.q (by first | exact omv | exact aop_nilCheck evr | exact ofa | exact oixa | exact old) ?_) | (refine Trip.seq ?_) | (refine Trip.ops ?_))
   refine OpsL.storeAt (a := ⟨ib, 0 + a.toNat * 1, none⟩) (v := .bool true) (cs' := (zi.set a.toNat true).map .bool) a.toNat evr (by rfl) xrf rfl rfl hs.is (by simp) (by simpa using hlt2) (by rw [List.map_set]) ?_
   refine zg46 ?_
   (change Trip _ _ _ _ _)
   have hd := hs.obs
   have s1 : (F.put ib (.cells ((zi.set a.toNat true).map .bool) 1 none false (some 4))) sb = _ := (Heap.put_ne hs.ne).trans hs.str
   have i1 : (F.put ib (.cells ((zi.set a.toNat true).map .bool) 1 none false (some 4))) ib = _ := Heap.put_eq
   have q1 : QueAt (F.put ib (.cells ((zi.set a.toNat true).map .bool) 1 none false (some 4))) ob' qv' zq := QueAt.put hs.qu (fun b t h => (hd b t h).2)
   have k1 : Kept nx H (F.put ib (.cells ((zi.set a.toNat true).map .bool) 1 none false (some 4))) (srchB sb ib ob) := fun k hk' hb => by rw [Heap.put_ne (fun e => hb (.inr (.inl e))), hk k hk' hb]
   have m1 : ∀ b t, ob = some (b, t) → ∃ more, (F.put ib (.cells ((zi.set a.toNat true).map .bool) 1 none false (some 4))) b = some (.cells ((s.2 ++ more).map (.int .i64 ·)) 1 (some t) false (some 3)) := fun b t h => by rw [Heap.put_ne (hS.obs b t h).2]; exact hm b t h
   have hne := hs.ne
   clear c0 c1 ci hc hk hs hm
   generalize (F.put ib (.cells ((zi.set a.toNat true).map .bool) 1 none false (some 4))) = G at *
   have c1 := cell_of (k := 1) s1 rfl
   refine Trip.opsF ?_
   refine OpsF.at 7 ?_
   repeat (first | (refine OpsL.q (by first | exact omv | exact aop_nilCheck evr | exact ofa | exact old) ?_))
   refine OpsL.new sdc (aop_buildSlice1 evr xrf xrf xrf) ?_
   refine zg46 ?_
   have hg : (G.put nx' (.cells [.int .i64 a] 1 none false (some 3))) nx' = _ := Heap.put_eq
   have s3 := (Heap.put_ne (H := G) (o := .cells [.int .i64 a] 1 none false (some 3)) (show sb ≠ nx' by omega)).trans s1
   have i3 := (Heap.put_ne (H := G) (o := .cells [.int .i64 a] 1 none false (some 3)) (show ib ≠ nx' by omega)).trans i1
   cases ob' with
   | none =>
    obtain ⟨rfl, rfl⟩ := q1
    refine OpsF.of ?_
    refine OpsL.append (ob := none) (el := 3) (k := 0) (m := 1) (sz := 1) (bytes := 8) (z := [.int .i64 0]) (cs := []) (xs := [.int .i64 a]) (xd := .slice 3) sdc evd evr ⟨rfl, rfl, rfl⟩ (source_own hg rfl (by omega)) rfl (by omega) xrf xrf rfl xrf xrf xrf rfl (by omega) (by omega) ?_
    rw [show blkOf (nx' + 1) none = nx' + 1 from rfl]
    have s4 := (Heap.put_ne (H := G.put nx' (.cells [.int .i64 a] 1 none false (some 3))) (o := .cells ([] ++ [.int .i64 a]) 1 (some (nx' + 1)) false (some 3)) (show sb ≠ nx' + 1 by omega)).trans s3
    have i4 := (Heap.put_ne (H := G.put nx' (.cells [.int .i64 a] 1 none false (some 3))) (o := .cells ([] ++ [.int .i64 a]) 1 (some (nx' + 1)) false (some 3)) (show ib ≠ nx' + 1 by omega)).trans i3
    refine zg62 ?_
    refine OpsL.storeAt (a := ⟨sb, 0 + 1, none⟩) (v := .slice (some ⟨nx' + 1, 0, some (nx' + 1)⟩) (0 + 1) (0 + 1)) (cs' := [.slice (some ⟨ib, 0, none⟩) zi.length zi.length, .slice (some ⟨nx' + 1, 0, some (nx' + 1)⟩) (0 + 1) (0 + 1)]) 1 evr evd xrf (by rfl) (by rfl) s4 (by simp) (by simp) (by simp) ?_
    refine zg30 ?_
    refine ⟨i + 1, ⟨_, _, _, some (nx' + 1, nx' + 1), .slice (some ⟨nx' + 1, 0, some (nx' + 1)⟩) (0 + 1) (0 + 1), rfl, ?_, ?_, by omega, ?_, ?_, stp, stp, stp, stp, by omega⟩, by omega⟩
    ·rw [hsn, hf1]
     exact ⟨by rw [Heap.put_eq]; simp, by rw [Heap.put_ne hne.symm]; exact i4, ⟨by simp, by rw [Heap.put_ne (by omega), Heap.put_eq]; simp⟩, hne, fun b' t' h => by cases h; exact ⟨by omega, by omega⟩⟩
    ·intro b' t' h
     cases h
     exact ⟨by omega, .inl (by omega)⟩
    ·intro k hk' hb'
     have hk1 : k ≠ sb := fun e => hb' (.inl e)
     rw [Heap.put_ne hk1, Heap.put_ne (by omega), Heap.put_ne (by omega), k1 k hk' hb']
    ·intro b0 t0 h
     obtain ⟨more, hmo⟩ := m1 b0 t0 h
     have ho1 := hS.obs b0 t0 h
     have ho2 := hob b0 t0 h
     exact ⟨more, by rw [Heap.put_ne ho1.1, Heap.put_ne (by omega), Heap.put_ne (by omega)]; exact hmo⟩
   | some bt =>
   obtain ⟨b, t⟩ := bt
   obtain ⟨rfl, q2⟩ := q1
   obtain ⟨hb1, hb2⟩ := hob' b t rfl
   obtain ⟨hb3, hb4⟩ := hd b t rfl
   have q3 := (Heap.put_ne (H := G) (o := .cells [.int .i64 a] 1 none false (some 3)) (show b ≠ nx' by omega)).trans q2
   refine OpsF.fork (xd := .slice 3) (z := [.int .i64 0]) (bytes := 8) (size := 1) (n := 1) (xs := [.int .i64 a]) (len := zq.length) (cc := zq.map (.int .i64 ·)) sdc evr evr xrf xrf xrf xrf xrf xrf rfl (source_own hg rfl (by omega)) rfl q3 (by simp) (by omega) (by omega) ?_ ?_
   ·have s4 := (Heap.put_ne (H := G.put nx' (.cells [.int .i64 a] 1 none false (some 3))) (o := .cells (zq.map (.int .i64 ·) ++ [.int .i64 a]) 1 (some t) false (some 3)) hb3.symm).trans s3
    have i4 := (Heap.put_ne (H := G.put nx' (.cells [.int .i64 a] 1 none false (some 3))) (o := .cells (zq.map (.int .i64 ·) ++ [.int .i64 a]) 1 (some t) false (some 3)) hb4.symm).trans i3
    refine OpsF.of ?_
    refine zg62 ?_
    refine OpsL.storeAt (a := ⟨sb, 0 + 1, none⟩) (v := .slice (some ⟨b, 0, some t⟩) (zq.length + 1) (zq.length + 1)) (cs' := [.slice (some ⟨ib, 0, none⟩) zi.length zi.length, .slice (some ⟨b, 0, some t⟩) (zq.length + 1) (zq.length + 1)]) 1 evr evd xrf (by rfl) (by rfl) s4 (by simp) (by simp) (by simp) ?_
    refine zg30 ?_
    refine ⟨i + 1, ⟨_, _, _, some (b, t), .slice (some ⟨b, 0, some t⟩) (zq.length + 1) (zq.length + 1), rfl, ?_, ?_, by omega, ?_, ?_, stp, stp, stp, stp, by omega⟩, by omega⟩
    ·rw [hsn, hf1]
     exact ⟨by rw [Heap.put_eq]; simp, by rw [Heap.put_ne hne.symm]; exact i4, ⟨by simp, by rw [Heap.put_ne (by omega), Heap.put_eq]; simp⟩, hne, fun b' t' h => by cases h; exact ⟨by omega, by omega⟩⟩
    ·intro b' t' h
     cases h
     exact ⟨by omega, hb2⟩
    ·intro k hk' hb'
     have hk1 : k ≠ sb := fun e => hb' (.inl e)
     have hk2 : k ≠ b := fun e => by
      rcases hb2 with h | h
      ·omega
      ·exact hb' (.inr (.inr ⟨t, by rw [e]; exact h⟩))
     rw [Heap.put_ne hk1, Heap.put_ne hk2, Heap.put_ne (by omega), k1 k hk' hb']
    ·intro b0 t0 h
     obtain ⟨more, hmo⟩ := m1 b0 t0 h
     have ho1 := hS.obs b0 t0 h
     have ho2 := hob b0 t0 h
     by_cases hbb : b0 = b
     ·subst hbb
      have e := Option.some.inj (q2.symm.trans hmo)
      injection e with e1 _ e3
      refine ⟨more ++ [a], ?_⟩
      rw [Heap.put_ne ho1.1, Heap.put_eq, e1, e3]
      simp
     ·exact ⟨more, by rw [Heap.put_ne ho1.1, Heap.put_ne hbb, Heap.put_ne (by omega)]; exact hmo⟩
   ·have s4 := (Heap.put_ne (H := G.put nx' (.cells [.int .i64 a] 1 none false (some 3))) (o := .cells (zq.map (.int .i64 ·) ++ [.int .i64 a]) 1 (some (nx' + 1)) false (some 3)) (show sb ≠ nx' + 1 by omega)).trans s3
    have i4 := (Heap.put_ne (H := G.put nx' (.cells [.int .i64 a] 1 none false (some 3))) (o := .cells (zq.map (.int .i64 ·) ++ [.int .i64 a]) 1 (some (nx' + 1)) false (some 3)) (show ib ≠ nx' + 1 by omega)).trans i3
    refine OpsF.of ?_
    refine zg62 ?_
    refine OpsL.storeAt (a := ⟨sb, 0 + 1, none⟩) (v := .slice (some ⟨nx' + 1, 0, some (nx' + 1)⟩) (zq.length + 1) (zq.length + 1)) (cs' := [.slice (some ⟨ib, 0, none⟩) zi.length zi.length, .slice (some ⟨nx' + 1, 0, some (nx' + 1)⟩) (zq.length + 1) (zq.length + 1)]) 1 evr evd xrf (by rfl) (by rfl) s4 (by simp) (by simp) (by simp) ?_
    refine zg30 ?_
    refine ⟨i + 1, ⟨_, _, _, some (nx' + 1, nx' + 1), .slice (some ⟨nx' + 1, 0, some (nx' + 1)⟩) (zq.length + 1) (zq.length + 1), rfl, ?_, ?_, by omega, ?_, ?_, stp, stp, stp, stp, by omega⟩, by omega⟩
    ·rw [hsn, hf1]
     exact ⟨by rw [Heap.put_eq]; simp, by rw [Heap.put_ne hne.symm]; exact i4, ⟨by simp, by rw [Heap.put_ne (by omega), Heap.put_eq]; simp⟩, hne, fun b' t' h => by cases h; exact ⟨by omega, by omega⟩⟩
    ·intro b' t' h
     cases h
     exact ⟨by omega, .inl (by omega)⟩
    ·intro k hk' hb'
     have hk1 : k ≠ sb := fun e => hb' (.inl e)
     rw [Heap.put_ne hk1, Heap.put_ne (by omega), Heap.put_ne (by omega), k1 k hk' hb']
    ·intro b0 t0 h
     obtain ⟨more, hmo⟩ := m1 b0 t0 h
     have ho1 := hS.obs b0 t0 h
     have ho2 := hob b0 t0 h
     exact ⟨more, by rw [Heap.put_ne ho1.1, Heap.put_ne (by omega), Heap.put_ne (by omega)]; exact hmo⟩
  ·refine Trip.ifF ?_
   refine zg20 ?_
   refine ⟨i + 1, ⟨_, _, _, ob', qv', rfl, by rw [hsn, hf1]; exact hs, hob', hnx, hk, hm, stp, stp, stp, stp, by omega⟩, by omega⟩
 ·repeat (first | (refine Trip.exit ?_; ((repeat (refine blockExit_eq ?_)); dsimp only)))
  have hi2 : i = l.length := by omega
  subst hi2
  rw [List.take_length] at hs
  exact ⟨.inl rfl, _, rfl, ob', qv', hs, hob', hnx, hk, hm⟩
end Go.Proofs.Ytjgbcpagfghfnaa
namespace Go.Am
section
variable {K : Type} [DecidableEq K]
def num1 (s : List K × List Int) (k : K) : List K × List Int := (if k ∈ s.1 then s.1 else s.1 ++ [k], s.2 ++ [(s.1.idxOf k : Int)])
def numQ (l : List K) : List K × List Int := l.foldl num1 ([], [])
def numL (l : List K) : List Int := (numQ l).2
theorem numQ_snoc (l : List K) (k : K) : numQ (l ++ [k]) = num1 (numQ l) k := by
 unfold numQ; rw [List.foldl_append]; rfl
theorem num_len (l : List K) : (numQ l).2.length = l.length := by
 suffices h : ∀ (l : List K) (s : List K × List Int), (l.foldl num1 s).2.length = s.2.length + l.length by
  have := h l ([], []); simpa [numQ] using this
 intro l
 induction l with
 | nil => intro s; rfl
 | cons a l ih => intro s; rw [List.foldl_cons, ih]; simp only [num1, List.length_append, List.length_cons, List.length_nil]; omega
theorem num_keys (l : List K) : (numQ l).1.length ≤ l.length := by
 suffices h : ∀ (l : List K) (s : List K × List Int), (l.foldl num1 s).1.length ≤ s.1.length + l.length by
  have := h l ([], []); simpa [numQ] using this
 intro l
 induction l with
 | nil => intro s; exact Nat.le_refl _
 | cons a l ih =>
  intro s; rw [List.foldl_cons]; refine Nat.le_trans (ih _) ?_
  simp only [num1, List.length_cons]
  split <;> simp <;> omega
theorem num_mem (l : List K) : ∀ k, k ∈ (numQ l).1 ↔ k ∈ l := by
 suffices h : ∀ (l : List K) (s : List K × List Int) k, k ∈ (l.foldl num1 s).1 ↔ k ∈ s.1 ∨ k ∈ l by
  intro k; have := h l ([], []) k; simpa [numQ] using this
 intro l
 induction l with
 | nil => intro s k; simp
 | cons a l ih =>
  intro s k; rw [List.foldl_cons, ih]
  simp only [num1, List.mem_cons]
  split
  ·rename_i h
   constructor
   ·rintro (h1 | h1)
    ·exact .inl h1
    ·exact .inr (.inr h1)
   ·rintro (h1 | h1 | h1)
    ·exact .inl h1
    ·exact .inl (h1 ▸ h)
    ·exact .inr h1
  ·simp only [List.mem_append, List.mem_singleton]
   constructor
   ·rintro ((h1 | h1) | h1)
    ·exact .inl h1
    ·exact .inr (.inl h1)
    ·exact .inr (.inr h1)
   ·rintro (h1 | h1 | h1)
    ·exact .inl (.inl h1)
    ·exact .inl (.inr h1)
    ·exact .inr h1
theorem num_get (l : List K) : (∀ (i : Nat) (k : K), l[i]? = some k → (numL l)[i]? = some ((numQ l).1.idxOf k : Int)) := by
 suffices h : ∀ (l : List K) (s : List K × List Int) (p : List K), p.length = s.2.length → (∀ k, k ∈ p → k ∈ s.1) → (∀ (i : Nat) (k : K), p[i]? = some k → s.2[i]? = some (s.1.idxOf k : Int)) → ∀ (i : Nat) (k : K), (p ++ l)[i]? = some k → (l.foldl num1 s).2[i]? = some ((l.foldl num1 s).1.idxOf k : Int) by
  exact h l ([], []) [] rfl (by simp) (by simp)
 intro l
 induction l with
 | nil => intro s p _ _ hp i k h; rw [List.append_nil] at h; exact hp i k h
 | cons a l ih =>
  intro s p hl hm hp i k h
  rw [List.foldl_cons]
  have hold : ∀ k, k ∈ s.1 → (num1 s a).1.idxOf k = s.1.idxOf k := by
   intro k hk
   simp only [num1]
   split
   ·rfl
   ·rw [List.idxOf_append, if_pos hk]
  refine ih (num1 s a) (p ++ [a]) (by simp [num1, hl]) ?_ ?_ i k (by rw [List.append_assoc]; exact h)
  ·intro k hk
   rcases List.mem_append.1 hk with h1 | h1
   ·have := hm k h1
    simp only [num1]; split
    ·exact this
    ·exact List.mem_append_left _ this
   ·rw [List.mem_singleton.1 h1]
    simp only [num1]; split
    ·assumption
    ·exact List.mem_append_right _ (List.mem_singleton.2 rfl)
  ·intro i k h
   by_cases hi : i < p.length
   ·rw [List.getElem?_append_left hi] at h
    have h2 := hp i k h
    rw [hold k (hm k (List.mem_of_getElem? h))]
    simp only [num1]
    rw [List.getElem?_append_left (by rw [← hl]; exact hi)]
    exact h2
   ·rw [List.getElem?_append_right (by omega)] at h
    have hi2 : i = p.length := by
     by_cases e : i - p.length = 0
     ·omega
     ·rw [List.getElem?_eq_none (by simp; omega)] at h; cases h
    subst hi2
    rw [Nat.sub_self] at h
    cases h
    simp only [num1]
    rw [List.getElem?_append_right (by omega), hl, Nat.sub_self]
    simp only [List.getElem?_cons_zero, Option.some.injEq]
    split
    ·rfl
    ·rename_i hn
     rw [List.idxOf_append, if_neg hn, List.idxOf_eq_length hn]
     simp
theorem num_bd (l : List K) : ∀ x ∈ numL l, 0 ≤ x ∧ x < (numQ l).1.length := by
 intro x hx
 obtain ⟨i, hi, rfl⟩ := List.getElem_of_mem hx
 have hl := num_len l
 have hi2 : i < l.length := by rw [← hl]; exact hi
 have := num_get l i l[i] (List.getElem?_eq_getElem hi2)
 rw [List.getElem?_eq_getElem hi] at this
 have this := Option.some.inj this
 have h := List.idxOf_lt_length_of_mem ((num_mem l l[i]).2 (List.getElem_mem hi2))
 rw [this]
 omega
theorem num_eq (l : List K) {i j : Nat} (hi : i < l.length) (hj : j < l.length) : (numL l)[i]? = (numL l)[j]? ↔ l[i] = l[j] := by
 rw [num_get l i _ (List.getElem?_eq_getElem hi), num_get l j _ (List.getElem?_eq_getElem hj)]
 constructor
 ·intro h
  have h1 : (numQ l).1.idxOf l[i] = (numQ l).1.idxOf l[j] := by
   have := Option.some.inj h; omega
  have a1 := List.idxOf_lt_length_of_mem ((num_mem l l[i]).2 (List.getElem_mem hi))
  have a2 := List.idxOf_lt_length_of_mem ((num_mem l l[j]).2 (List.getElem_mem hj))
  have b1 := List.getElem_idxOf a1
  have b2 := List.getElem_idxOf a2
  rw [← b1, ← b2]
  congr 1
 ·intro h; rw [h]
end
section
variable {K L : Type} [DecidableEq K] [DecidableEq L]
theorem num_map_inj (g : K → L) (l : List K) (hg : ∀ a ∈ l, ∀ b ∈ l, g a = g b → a = b) : (numQ (l.map g)).1 = (numQ l).1.map g ∧ numL (l.map g) = numL l := by
 suffices h : ∀ (r : List K), (∀ a ∈ r.reverse, ∀ b ∈ r.reverse, g a = g b → a = b) → (numQ (r.reverse.map g)).1 = (numQ r.reverse).1.map g ∧ numL (r.reverse.map g) = numL r.reverse by
  have := h l.reverse; rw [List.reverse_reverse] at this; exact this hg
 clear hg
 intro r
 induction r with
 | nil => intro _; exact ⟨rfl, rfl⟩
 | cons a r ih =>
  intro hg
  rw [List.reverse_cons] at hg ⊢
  obtain ⟨h1, h2⟩ := ih (fun x hx y hy => hg x (List.mem_append_left _ hx) y (List.mem_append_left _ hy))
  generalize r.reverse = l at *
  have hm : g a ∈ (numQ (l.map g)).1 ↔ a ∈ (numQ l).1 := by
   rw [num_mem, num_mem]
   constructor
   ·intro h
    obtain ⟨x, hx, e⟩ := List.mem_map.1 h
    have := hg x (List.mem_append_left _ hx) a (List.mem_append_right _ (List.mem_singleton.2 rfl)) e
    rwa [← this]
   ·intro h; exact List.mem_map.2 ⟨a, h, rfl⟩
  have hi : (numQ (l.map g)).1.idxOf (g a) = (numQ l).1.idxOf a := by
   rw [h1]
   have hs : ∀ s : List K, (∀ x ∈ s, g x = g a → x = a) → (s.map g).idxOf (g a) = s.idxOf a := by
    intro s
    induction s with
    | nil => intro _; rfl
    | cons x s ih =>
     intro hs
     rw [List.map_cons, List.idxOf_cons, List.idxOf_cons]
     by_cases e : x = a
     ·subst e; simp
     ·have e2 : g x ≠ g a := fun q => e (hs x (List.mem_cons_self ..) q)
      have b1 : (g x == g a) = false := by simpa using e2
      have b2 : (x == a) = false := by simpa using e
      rw [b1, b2]
      simp only [cond_false]
      rw [ih (fun y hy => hs y (List.mem_cons_of_mem _ hy))]
   exact hs _ fun x hx e => hg x (List.mem_append_left _ ((num_mem l x).1 hx)) a (List.mem_append_right _ (List.mem_singleton.2 rfl)) e
  unfold numL at *
  rw [List.map_append, List.map_cons, List.map_nil, numQ_snoc, numQ_snoc]
  simp only [num1]
  refine ⟨?_, by rw [h2, hi]⟩
  by_cases ha : a ∈ (numQ l).1
  ·rw [if_pos ha, if_pos (hm.2 ha)]; exact h1
  ·rw [if_neg ha, if_neg (fun q => ha (hm.1 q)), h1]; simp
theorem numL_map (l : List K) : numL l = l.map fun k => ((numQ l).1.idxOf k : Int) := by
 refine List.ext_getElem? fun i => ?_
 rw [List.getElem?_map]
 cases h : l[i]? with
 | none =>
  rw [List.getElem?_eq_none_iff] at h
  simp only [Option.map_none]
  rw [List.getElem?_eq_none]
  unfold numL; rw [num_len]; exact h
 | some k => exact num_get l i k h
def Can (c : List Int) : Prop := numL c = c
theorem can_num (l : List K) : Can (numL l) := by
 have h := (num_map_inj (fun k => ((numQ l).1.idxOf k : Int)) l (fun a ha b hb e => by
  have a1 := List.idxOf_lt_length_of_mem ((num_mem l a).2 ha)
  have a2 := List.idxOf_lt_length_of_mem ((num_mem l b).2 hb)
  have b1 := List.getElem_idxOf a1
  have b2 := List.getElem_idxOf a2
  have e2 : (numQ l).1.idxOf a = (numQ l).1.idxOf b := by omega
  rw [← b1, ← b2]
  congr 1)).2
 rw [← numL_map] at h
 exact h
def numD (l : List K) : Nat := (numQ l).1.length
theorem numD_num (l : List K) : numD (numL l) = numD l := by
 have h := (num_map_inj (fun k => ((numQ l).1.idxOf k : Int)) l (fun a ha b hb e => by
  have a1 := List.idxOf_lt_length_of_mem ((num_mem l a).2 ha)
  have a2 := List.idxOf_lt_length_of_mem ((num_mem l b).2 hb)
  have b1 := List.getElem_idxOf a1
  have b2 := List.getElem_idxOf a2
  have e2 : (numQ l).1.idxOf a = (numQ l).1.idxOf b := by omega
  rw [← b1, ← b2]
  congr 1)).1
 rw [← numL_map] at h
 unfold numD
 rw [h, List.length_map]
theorem num_finer (g : K → L) (l : List K) : numD (l.map g) ≤ numD l ∧ (numD (l.map g) = numD l → numL (l.map g) = numL l) := by
 suffices h : ∀ (r : List K), numD (r.reverse.map g) ≤ numD r.reverse ∧ (numD (r.reverse.map g) = numD r.reverse → ∀ a ∈ r.reverse, ∀ b ∈ r.reverse, g a = g b → a = b) by
  have := h l.reverse; rw [List.reverse_reverse] at this
  exact ⟨this.1, fun e => (num_map_inj g l (this.2 e)).2⟩
 intro r
 induction r with
 | nil => exact ⟨Nat.le_refl _, fun _ a ha => by simp at ha⟩
 | cons a r ih =>
  rw [List.reverse_cons]
  generalize r.reverse = l at *
  unfold numD at *
  rw [List.map_append, List.map_cons, List.map_nil, numQ_snoc, numQ_snoc]
  simp only [num1]
  obtain ⟨h1, h2⟩ := ih
  by_cases ha : a ∈ (numQ l).1
  ·have hg : g a ∈ (numQ (l.map g)).1 := (num_mem _ _).2 (List.mem_map.2 ⟨a, (num_mem _ _).1 ha, rfl⟩)
   rw [if_pos ha, if_pos hg]
   have ham := (num_mem _ _).1 ha
   refine ⟨h1, fun e x hx y hy q => ?_⟩
   have hx' : x ∈ l := by rcases List.mem_append.1 hx with h | h; exact h; rw [List.mem_singleton.1 h]; exact ham
   have hy' : y ∈ l := by rcases List.mem_append.1 hy with h | h; exact h; rw [List.mem_singleton.1 h]; exact ham
   exact h2 e x hx' y hy' q
  ·rw [if_neg ha, List.length_append, List.length_singleton]
   by_cases hg : g a ∈ (numQ (l.map g)).1
   ·rw [if_pos hg]
    exact ⟨by omega, fun e => by omega⟩
   ·rw [if_neg hg, List.length_append, List.length_singleton]
    refine ⟨by omega, fun e x hx y hy q => ?_⟩
    have h3 := h2 (by omega)
    have hna : ∀ x, x ∈ l → g x ≠ g a := fun x hx e => hg ((num_mem _ _).2 (List.mem_map.2 ⟨x, hx, e⟩))
    rcases List.mem_append.1 hx with hx' | hx'
    ·rcases List.mem_append.1 hy with hy' | hy'
     ·exact h3 x hx' y hy' q
     ·rw [List.mem_singleton.1 hy'] at q; exact absurd q (hna x hx')
    ·rcases List.mem_append.1 hy with hy' | hy'
     ·rw [List.mem_singleton.1 hx'] at q; exact absurd q.symm (hna y hy')
     ·rw [List.mem_singleton.1 hx', List.mem_singleton.1 hy']
end
def partK (c : List Int) (row : List Int) (p : Nat) : List Int := c.getD p 0 :: (row.map fun q => c.getD q.toNat 0) ++ List.replicate (60 - row.length) 0
def partedL (c : List Int) (rows : List (List Int)) : List Int := numL ((List.range rows.length).map fun p => partK c (rows.getD p []) p)
theorem partedL_len (c : List Int) (rows : List (List Int)) : (partedL c rows).length = rows.length := by
 unfold partedL numL; rw [num_len]; simp
theorem partedL_finer {c : List Int} {rows : List (List Int)} (hc : Can c) (hl : rows.length = c.length) : numD c ≤ numD (partedL c rows) ∧ (numD c = numD (partedL c rows) → partedL c rows = c) := by
 unfold partedL
 rw [numD_num]
 have h := num_finer (fun k : List Int => k.headD 0) ((List.range rows.length).map fun p => partK c (rows.getD p []) p)
 have e : ((List.range rows.length).map fun p => partK c (rows.getD p []) p).map (fun k : List Int => k.headD 0) = c := by
  rw [List.map_map]
  refine List.ext_getElem (by simp [hl]) fun i h1 h2 => ?_
  simp only [List.getElem_map, List.getElem_range, Function.comp, partK, List.cons_append, List.headD_cons]
  rw [List.getD_eq_getElem?_getD, List.getElem?_eq_getElem h2]; rfl
 rw [e] at h
 exact ⟨h.1, fun q => (h.2 q).symm.trans hc⟩
def roundL (ways : List (List (List Int))) (c : List Int) : List Int := ways.foldl partedL c
theorem roundL_finer : ∀ (ways : List (List (List Int))) {c : List Int} {n : Nat}, Can c → c.length = n → (∀ r ∈ ways, r.length = n) → Can (roundL ways c) ∧ (roundL ways c).length = n ∧ numD c ≤ numD (roundL ways c) ∧ (numD c = numD (roundL ways c) → roundL ways c = c)
 | [], c, n, hc, hl, _ => ⟨hc, hl, Nat.le_refl _, fun _ => rfl⟩
 | r :: ways, c, n, hc, hl, hw => by
  have h1 := partedL_finer hc (rows := r) (by rw [hw r (List.mem_cons_self ..), hl])
  have h2 := roundL_finer ways (c := partedL c r) (n := n) (can_num _) (by rw [partedL_len, hw r (List.mem_cons_self ..)]) (fun r hr => hw r (List.mem_cons_of_mem _ hr))
  have e : roundL (r :: ways) c = roundL ways (partedL c r) := rfl
  rw [e]
  refine ⟨h2.1, h2.2.1, Nat.le_trans h1.1 h2.2.2.1, fun q => ?_⟩
  have q1 : numD c = numD (partedL c r) := by have := h2.2.2.1; have := h1.1; omega
  have q2 := h2.2.2.2 (by omega)
  rw [q2, h1.2 q1]
def settledL (ways : List (List (List Int))) : Nat → List Int → List Int
 | 0, c => c
 | f + 1, c => if roundL ways c = c then c else settledL ways f (roundL ways c)
theorem numD_le {K : Type} [DecidableEq K] (l : List K) : numD l ≤ l.length := num_keys l
end Go.Am
