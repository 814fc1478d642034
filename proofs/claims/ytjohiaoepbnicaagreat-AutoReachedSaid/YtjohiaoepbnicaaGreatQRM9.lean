import Derived.Shelf.SlSortCmp.NoneTotal
import Derived.Test.YtjohiaoepbnicaaGreatQRM8
namespace Go.Proofs.YtjohiaoepbnicaaGreat
set_option linter.unusedSimpArgs false
set_option linter.unusedVariables false
open Go.RowKit Go.Am
attribute [local irreducible] aop OpsL Trip blockExit OpsD OpsK OpsR
abbrev AtN (H : Heap) (v : Value) (l : List (R3)) : Prop := RowsAt enc3 3 H v l
abbrev OwnN (H : Heap) (ob : Option (Nat × Nat)) (v : Value) (l : List (R3)) : Prop := OwnOf enc3 3 48 H ob v l
theorem entersGrowN : Am.Enters Tryz.prog 88 := ⟨Tryz.f88, Tryz.func88, by kernel_rfl, by kernel_rfl⟩
theorem entersConcN : Am.Enters Tryz.prog 75 := ⟨Tryz.f75, Tryz.func75, by kernel_rfl, by kernel_rfl⟩
set_option maxRecDepth 20000 in
set_option maxHeartbeats 4000000 in
theorem growNC (W0 : World) {nx m : Nat} {H : Heap} (hm : m ≤ 1000000) :
  ACalls Tryz.prog W0 88 [.slice none 0 0, .int .i64 m] nx H fun v nx' H' => ∃ ob, OwnN H' ob v [] ∧ Fresh nx H nx' H' ob := by
 refine ACalls.by_trip (fn := Tryz.f88) (c := _) Tryz.func88 rfl (fun tm n hn0 htm => ?_)
 have e0 : tm 0 = .slice none 0 0 := htm 0
 have e1 : tm 1 = .int .i64 m := htm 1
 clear htm
 replace hn0 : n = 27 := hn0
 repeat (first | (refine OpsL.q (by first | exact omv | exact oasg) ?_) | refine Trip.seq ?_ | refine Trip.ops ?_ | (refine OpsL.nil ?_; (change Trip _ _ _ _ _)))
 refine OpsL.lssF ?_
 repeat (refine OpsL.nil ?_; (change Trip _ _ _ _ _))
 refine Trip.ifF ?_
 repeat (first | refine OpsL.q (by exact omv) ?_ | refine Trip.seq ?_ | refine Trip.ops ?_ | (refine Trip.skip ?_; (change Trip _ _ _ _ _)))
 refine OpsL.q (aop_capN (by simp only [ASt.ev, tmPut, ↓reduceIte, Nat.reduceEqDiff, *]; rfl) (by exact rfl)) ?_
 repeat (first | (refine OpsL.q (by first | exact omv | exact olen | exact osub | exact oasg) ?_) | refine Trip.seq ?_ | refine Trip.ops ?_ | (refine OpsL.nil ?_; (change Trip _ _ _ _ _)))
 by_cases h0 : 0 < m
 ·refine OpsL.gtrT ?_
  repeat (refine OpsL.nil ?_; (change Trip _ _ _ _ _))
  refine Trip.ifT ?_
  repeat (first | refine OpsL.q (by exact omv) ?_ | refine Trip.ops ?_)
  refine OpsL.q (aop_capN (by simp only [ASt.ev, tmPut, ↓reduceIte, Nat.reduceEqDiff, *]; rfl) (by exact rfl)) ?_
  refine OpsL.q (aop_slice (r := .slice none 0 0) (a := none) (b := some (.int .i64 0)) (c := none) (by simp only [ASt.ev, tmPut, ↓reduceIte, Nat.reduceEqDiff, *]; done) rfl (by simp only [evOpt, ASt.ev, tmPut, ↓reduceIte, reduceIte, Option.some.injEq, Nat.reduceEqDiff, Option.map_some]; rfl) rfl (aSlice_nil (el := 48) (sz := 3) (by exact rfl) (by exact rfl) (.inl ⟨rfl, rfl⟩) (.inr ⟨.i64, rfl⟩))) ?_
  repeat (refine OpsL.q (by exact omv) ?_)
  refine OpsL.new (by subst_vars; decide) (aop_appendZ (k := m) (el := 48) (kd := .i64) (size := 3) (bytes := 24) (z := [.int .i64 0, .int .i64 0, .int .i64 0]) (by simp only [ASt.ev, tmPut, ↓reduceIte, Nat.reduceEqDiff, *]; done) (by simp only [ASt.ev, tmPut, ↓reduceIte, reduceIte, Nat.reduceEqDiff, plain1, *]; simp) (by exact rfl) (by exact rfl) (by exact rfl) (by exact rfl) (by exact rfl) rfl h0 (by omega) (by omega)) ?_
  repeat (refine OpsL.q (by first | exact omv | exact olen) ?_)
  refine OpsL.q (aop_slice (r := .slice (some ⟨nx, 0, some nx⟩) 0 0) (a := none) (b := some (.int .i64 0)) (c := none) (by simp only [ASt.ev, tmPut, ↓reduceIte, Nat.reduceEqDiff, *]; rfl) rfl (by simp only [evOpt, ASt.ev, tmPut, ↓reduceIte, reduceIte, Option.some.injEq, Nat.reduceEqDiff, Option.map_some]; rfl) rfl (by
   have := aSlice_tagged (P := Tryz.prog) (H := H.put nx (.cells (zcells [.int .i64 0, .int .i64 0, .int .i64 0] m) 3 (some nx) false (some 48))) (t := 28) (el := 48) (sz := 3) (a := ⟨nx, 0, some nx⟩) (len := m) (cap := m) (l := 0) (h := 0) (tg := nx) (lo := none) (hi := some (.int .i64 0)) (by exact rfl) (by exact rfl) Heap.put_eq rfl rfl rfl (.inl ⟨rfl, rfl⟩) (.inr ⟨.i64, rfl⟩) (Nat.le_refl _) (Nat.zero_le _)
   simpa using this)) ?_
  repeat (first | (refine OpsL.q (by first | exact omv | exact oasg) ?_) | refine Trip.seq ?_ | refine Trip.ops ?_ | (refine Trip.ret ?_; (dsimp only)) | (refine OpsL.nil ?_; (change Trip _ _ _ _ _)))
  refine ⟨.inr rfl, _, res_tmp, some (nx, nx), ?_, ⟨Ext.newPut, fun b t h => by cases h; exact ⟨Nat.le_refl _, Nat.lt_succ_self _⟩⟩⟩
  refine ⟨by simp [tmPut], rfl, zcells [.int .i64 0, .int .i64 0, .int .i64 0] m, ?_⟩
  rw [Heap.put_eq]
  simp
 ·refine OpsL.gtrF ?_
  repeat (refine OpsL.nil ?_; (change Trip _ _ _ _ _))
  refine Trip.ifF ?_
  repeat (first | (refine OpsL.q (by first | exact omv | exact oasg) ?_) | refine Trip.seq ?_ | refine Trip.ops ?_ | (refine Trip.skip ?_; (change Trip _ _ _ _ _)) | (refine Trip.ret ?_; (dsimp only)) | (refine OpsL.nil ?_; (change Trip _ _ _ _ _)))
  refine ⟨.inr rfl, _, res_tmp, none, ⟨by simp [tmPut, *], rfl, rfl⟩, Ext.refl, fun b t h => by cases h⟩
def RowsInN (H : Heap) (v : Value) (ls : List (Value × List (R3))) : Prop :=
 ∃ a, v = .slice (some ⟨a, 0, none⟩) ls.length ls.length ∧ H a = some (.cells (ls.map (·.1)) 1 none false (some 28)) ∧ ∀ x ∈ ls, AtN H x.1 x.2
def allOfN (ls : List (Value × List (R3))) : List (R3) := ls.flatMap (·.2)
theorem allOfN_take (ls : List (Value × List (R3))) {i : Nat} (h : i < ls.length) : allOfN (ls.take (i + 1)) = allOfN (ls.take i) ++ ls[i].2 := by
 unfold allOfN
 rw [List.take_add_one, List.getElem?_eq_getElem h, Option.toList_some, List.flatMap_append]
 simp
set_option maxRecDepth 20000 in
set_option maxHeartbeats 4000000 in
theorem concNC (W0 : World) {nx : Nat} {H : Heap} {v : Value} {ls : List (Value × List (R3))} (hr : RowsInN H v ls) (hm : (allOfN ls).length ≤ 100000) (hl : ls.length ≤ 100) :
  ACalls Tryz.prog W0 75 [v] nx H fun v nx' H' => ∃ ob, OwnN H' ob v (allOfN ls) ∧ Fresh nx H nx' H' ob := by
 obtain ⟨a, rfl, hH, hrows⟩ := hr
 refine ACalls.by_trip (fn := Tryz.f75) (c := _) Tryz.func75 rfl (fun tm n hn0 htm => ?_)
 have e0 : tm 0 = .slice (some ⟨a, 0, none⟩) ls.length ls.length := htm 0
 clear htm
 replace hn0 : n = 36 := hn0
 refine Trip.ok fun hok => ?_
 replace hok : ∀ id o, H id = some o → id < nx := hok
 have hcell : ∀ (G : Heap), G a = some (.cells (ls.map (·.1)) 1 none false (some 28)) → ∀ i (h : i < ls.length), cellAt G ⟨a, 0 + (i : Int).toNat * 1, none⟩ ls[i].1 := fun G hG i h => by
  have := cellAt_own (off := i) hG (by simpa using h)
  simpa using this
 have hlen : ∀ i, i ≤ ls.length → (allOfN (ls.take i)).length ≤ (allOfN ls).length := fun i hi => by
  have h1 : allOfN ls = allOfN (ls.take i) ++ allOfN (ls.drop i) := by
   unfold allOfN
   rw [← List.flatMap_append, List.take_append_drop]
  rw [h1, List.length_append]; omega
 repeat (first | (refine OpsL.q (by first | exact omv | exact oasg | exact olen) ?_) | refine Trip.seq ?_ | refine Trip.ops ?_ | refine Trip.block ?_ | (refine OpsL.nil ?_; (change Trip _ _ _ _ _)))
 refine Trip.inv (fun (i : Nat) st => ∃ (tm : Nat → Value), st = ⟨tm, n, H, nx⟩ ∧ tm 0 = .slice (some ⟨a, 0, none⟩) ls.length ls.length ∧ tm 9 = .slice (some ⟨a, 0, none⟩) ls.length ls.length ∧ tm 10 = .int .i64 ls.length ∧ tm 11 = .int .i64 i ∧ tm 3 = .int .i64 (allOfN (ls.take i)).length ∧ i ≤ ls.length) (fun i => ls.length - i) 0 ?_ ?_
 ·exact ⟨_, rfl, by simp [tmPut, *], by simp [tmPut, *], by simp [tmPut, *], by simp [tmPut, *], by simp [tmPut, allOfN], by omega⟩
 ·clear e0
  rintro i st ⟨tm, rfl, e0, e9, e10, e11, e3, hi⟩
  by_cases hlt : i < ls.length
  ·have hc := hcell H hH i hlt
   obtain ⟨ua, uc, hu⟩ := (hrows _ (List.getElem_mem hlt)).slice
   have hst := allOfN_take ls hlt
   have hl1 := hlen (i + 1) (by omega)
   rw [hst, List.length_append] at hl1
   rw [hu] at hc
   generalize ls[i].2 = us at *
   generalize allOfN (ls.take i) = zs at *
   repeat (first | refine Trip.seq ?_ | refine Trip.ops ?_)
   refine OpsL.lssT ?_
   repeat (first | refine Trip.seq ?_ | (refine OpsL.nil ?_; (change Trip _ _ _ _ _)))
   refine Trip.ifT ?_
   repeat (first | (refine OpsL.q (by first | exact omv | exact oasg | exact oixa | exact old | exact olen | exact oadd) ?_) | refine Trip.seq ?_ | refine Trip.ops ?_ | refine Trip.block ?_ | (refine Trip.skip ?_; (change Trip _ _ _ _ _)) | (refine OpsL.nil ?_; (change Trip _ _ _ _ _)))
   refine OpsL.lssF ?_
   repeat (refine OpsL.nil ?_; (change Trip _ _ _ _ _))
   refine Trip.ifF ?_
   repeat (first | (refine OpsL.q (by first | exact omv | exact oadd) ?_) | refine Trip.ops ?_ | (refine Trip.skip ?_; ((repeat (refine blockExit_normal ?_)); change Trip _ _ _ _ _)) | (refine OpsL.nil ?_; (dsimp only)))
   exact ⟨i + 1, ⟨_, rfl, by simp [tmPut, *], by simp [tmPut, *], by simp [tmPut, *], by simp [tmPut, *], by rw [hst]; simp [tmPut, *], by omega⟩, by omega⟩
  ·have hin : i = ls.length := by omega
   subst hin
   rw [List.take_length] at e3
   repeat (first | refine Trip.seq ?_ | refine Trip.ops ?_)
   refine OpsL.lssF ?_
   repeat (first | refine Trip.seq ?_ | (refine OpsL.nil ?_; (change Trip _ _ _ _ _)))
   refine Trip.ifF ?_
   repeat (first | refine OpsL.q (by exact omv) ?_ | refine Trip.seq ?_ | refine Trip.ops ?_ | (refine Trip.exit ?_; ((repeat (refine blockExit_eq ?_)); change Trip _ _ _ _ _)))
   refine OpsL.c2 (hf := entersGrowN) (hc := (growNC W0 (m := (allOfN ls).length) (by omega)).ok) (h := ?_)
   rintro gv nx1 H1 ⟨⟨ob1, ho1, hx1, hob1⟩, hok1⟩
   repeat (first | (refine OpsL.q (by first | exact omv | exact oasg | exact olen) ?_) | refine Trip.seq ?_ | refine Trip.ops ?_ | refine Trip.block ?_ | (refine OpsL.nil ?_; (change Trip _ _ _ _ _)))
   refine Trip.inv (fun (i : Nat) st => ∃ (tm : Nat → Value) (nx' : Nat) (H' : Heap) (ob : Option (Nat × Nat)) (v : Value), st = ⟨tm, n, H', nx'⟩ ∧ Fresh nx H nx' H' ob ∧ (∀ id o, H' id = some o → id < nx') ∧ OwnN H' ob v (allOfN (ls.take i)) ∧ tm 25 = .slice (some ⟨a, 0, none⟩) ls.length ls.length ∧ tm 26 = .int .i64 ls.length ∧ tm 27 = .int .i64 i ∧ tm 6 = v ∧ i ≤ ls.length) (fun i => ls.length - i) 0 ?_ ?_
   ·exact ⟨_, _, _, ob1, gv, rfl, ⟨hx1, hob1⟩, hok1, ho1, by simp [tmPut, *], by simp [tmPut, *], by simp [tmPut, *], by simp [tmPut, *], by omega⟩
   ·clear e0 e9 e10 e11 e3 ho1 hx1 hob1 hok1
    rintro i st ⟨tm, nx', H', ob, v, rfl, ⟨hx, hob⟩, hok', hown, e25, e26, e27, e6, hi⟩
    by_cases hlt : i < ls.length
    ·have hst := allOfN_take ls hlt
     have hl1 := hlen (i + 1) (by omega)
     rw [hst, List.length_append] at hl1
     have hrow := (hrows _ (List.getElem_mem hlt)).ext hx hok
     have hc := hcell H' (by rw [hx.2 a (hok _ _ hH)]; exact hH) i hlt
     obtain ⟨ua, uc, hu⟩ := hrow.slice
     rw [hu] at hc hrow
     generalize ls[i].2 = us at *
     generalize allOfN (ls.take i) = zs at *
     repeat (first | refine Trip.seq ?_ | refine Trip.ops ?_)
     refine OpsL.lssT ?_
     repeat (first | refine Trip.seq ?_ | (refine OpsL.nil ?_; (change Trip _ _ _ _ _)))
     refine Trip.ifT ?_
     repeat (first | (refine OpsL.q (by first | exact omv | exact oasg | exact oixa | exact old) ?_) | refine Trip.seq ?_ | refine Trip.ops ?_ | refine Trip.block ?_ | (refine Trip.skip ?_; (change Trip _ _ _ _ _)) | (refine OpsL.nil ?_; (change Trip _ _ _ _ _)))
     refine OpsL.appendO (bytes := 24) (z := [.int .i64 0, .int .i64 0, .int .i64 0]) enc3_len enc3_one (by omega) (by subst_vars; decide) hown hrow (by simp only [ASt.ev, tmPut, ↓reduceIte, Nat.reduceEqDiff, *]; done) (by simp only [ASt.ev, tmPut, ↓reduceIte, Nat.reduceEqDiff, *]; done) (fun b t h => (hob b t h).2) (by exact rfl) (by exact rfl) (by exact rfl) (by exact rfl) (by exact rfl) rfl (by omega) (by omega) ?_
     intro v' nx2 H2 ob2 hA
     repeat (first | (refine OpsL.q (by first | exact omv | exact oasg | exact oadd) ?_) | refine Trip.ops ?_ | (refine OpsL.nil ?_; ((repeat (refine blockExit_normal ?_)); first | (change Trip _ _ _ _ _) | (dsimp only))))
     refine ⟨i + 1, ⟨_, nx2, H2, ob2, v', rfl, ⟨⟨by have := hx.1; have := hA.le; omega, fun j hj => ?_⟩, fun b t h => ?_⟩, ?_, by rw [hst]; exact hA.own, by simp [tmPut, *], by simp [tmPut, *], by simp [tmPut, *], by simp [tmPut, *], by omega⟩, by omega⟩
     ·rw [hA.same j (by have := hx.1; omega) (fun b t h => by have := (hob b t h).1; omega), hx.2 j hj]
     ·obtain ⟨q1, q2⟩ := hA.blk b t h
      refine ⟨?_, q1⟩
      rcases q2 with rfl | ⟨t', h'⟩
      ·exact hx.1
      ·exact (hob _ _ h').1
     ·exact hA.ok (fun b t h => (hob b t h).2) hok'
    ·have hin : i = ls.length := by omega
     subst hin
     rw [List.take_length] at hown
     repeat (first | refine Trip.seq ?_ | refine Trip.ops ?_)
     refine OpsL.lssF ?_
     repeat (first | refine Trip.seq ?_ | (refine OpsL.nil ?_; (change Trip _ _ _ _ _)))
     refine Trip.ifF ?_
     repeat (first | (refine OpsL.q (by first | exact omv | exact oasg) ?_) | refine Trip.seq ?_ | refine Trip.ops ?_ | (refine Trip.exit ?_; ((repeat (refine blockExit_eq ?_)); change Trip _ _ _ _ _)) | (refine Trip.ret ?_; (dsimp only)) | (refine OpsL.nil ?_; (change Trip _ _ _ _ _)))
     exact ⟨.inr rfl, _, res_tmp, ob, by simp [tmPut, *], hx, hob⟩
end Go.Proofs.YtjohiaoepbnicaaGreat
namespace Go.Proofs.YtjohiaoepbnicaaGreat
set_option linter.unusedSimpArgs false
set_option linter.unusedVariables false
open Go.RowKit Go.Am
attribute [local irreducible] aop OpsL Trip blockExit OpsD OpsK OpsR
theorem entersCompN : Am.Enters Tryz.prog 77 := ⟨Tryz.f77, Tryz.func77, by kernel_rfl, by kernel_rfl⟩
set_option maxRecDepth 20000 in
set_option maxHeartbeats 4000000 in
theorem compNC (W0 : World) {nx : Nat} {H : Heap} {ob : Option (Nat × Nat)} {v : Value} {l : List (R3)} (h : OwnN H ob v l) (hl : l.length ≤ 100000) :
  ACalls Tryz.prog W0 77 [v] nx H fun v' nx' H' => nx' = nx ∧ OwnN H' ob v' (dedF l) ∧ ∀ i, (∀ b t, ob = some (b, t) → i ≠ b) → H' i = H i := by
 have hrow := h.at enc3_len
 obtain ⟨va, vc, rfl⟩ := hrow.slice
 refine ACalls.by_trip (fn := Tryz.f77) (c := _) Tryz.func77 rfl (fun tm n hn0 htm => ?_)
 have e0 : tm 0 = .slice va l.length vc := htm 0
 clear htm
 replace hn0 : n = 61 := hn0
 by_cases hsh : l.length < 2
 ·repeat (first | (refine OpsL.q (by first | exact omv | exact oasg | exact olen) ?_) | refine Trip.seq ?_ | refine Trip.ops ?_ | (refine OpsL.nil ?_; (change Trip _ _ _ _ _)))
  refine OpsL.lssT ?_
  repeat (refine OpsL.nil ?_; (change Trip _ _ _ _ _))
  refine Trip.ifT ?_
  repeat (first | (refine OpsL.q (by first | exact omv | exact oasg) ?_) | refine Trip.seq ?_ | refine Trip.ops ?_ | (refine Trip.ret ?_; (dsimp only)) | (refine OpsL.nil ?_; (change Trip _ _ _ _ _)))
  exact ⟨.inr rfl, _, res_tmp, rfl, by rw [dedF_one l (by omega)]; simp [tmPut, *], fun _ _ => rfl⟩
 ·obtain ⟨b, t, rfl⟩ : ∃ b t, ob = some (b, t) := by
   cases ob with
   | none => obtain ⟨_, _, h2⟩ := h; omega
   | some bt => exact ⟨_, _, rfl⟩
  obtain ⟨hv, _, rest, hH⟩ := h
  obtain ⟨rfl, _, rfl⟩ := Value.slice.inj hv
  have hS : ∀ (G : Heap) (A rest : List Value), G b = some (.cells (A ++ rest) 3 (some t) false (some 48)) → ∀ k, k < l.length → aSlice Tryz.prog G 28 (.slice (some ⟨b, 0, some t⟩) l.length l.length) (some (.int .i64 k)) none none = some (.slice (some ⟨b, 0 + k * 3, some t⟩) (l.length - k) (l.length - k)) := fun G A rest hG k hk => by
   have := aSlice_tagged (P := Tryz.prog) (H := G) (t := 28) (el := 48) (sz := 3) (a := ⟨b, 0, some t⟩) (len := l.length) (cap := l.length) (l := k) (h := l.length) (tg := t) (lo := some (.int .i64 k)) (hi := none) (by exact rfl) (by exact rfl) hG rfl rfl rfl (.inr ⟨.i64, rfl⟩) (.inl ⟨rfl, rfl⟩) (by omega) (Nat.le_refl _)
   rw [if_neg (by omega)] at this
   exact this
  have hS2 : ∀ (G : Heap) (A rest : List Value), G b = some (.cells (A ++ rest) 3 (some t) false (some 48)) → ∀ k, k ≤ l.length → aSlice Tryz.prog G 28 (.slice (some ⟨b, 0, some t⟩) l.length l.length) none (some (.int .i64 k)) none = some (.slice (some ⟨b, 0, some t⟩) k k) := fun G A rest hG k hk => by
   have := aSlice_tagged (P := Tryz.prog) (H := G) (t := 28) (el := 48) (sz := 3) (a := ⟨b, 0, some t⟩) (len := l.length) (cap := l.length) (l := 0) (h := k) (tg := t) (lo := none) (hi := some (.int .i64 k)) (by exact rfl) (by exact rfl) hG rfl rfl rfl (.inl ⟨rfl, rfl⟩) (.inr ⟨.i64, rfl⟩) (Nat.zero_le _) hk
   simpa using this
  repeat (first | (refine OpsL.q (by first | exact omv | exact oasg | exact olen) ?_) | refine Trip.seq ?_ | refine Trip.ops ?_ | (refine OpsL.nil ?_; (change Trip _ _ _ _ _)))
  refine OpsL.lssF ?_
  repeat (refine OpsL.nil ?_; (change Trip _ _ _ _ _))
  refine Trip.ifF ?_
  repeat (first | refine OpsL.q (by exact oasg) ?_ | refine Trip.seq ?_ | refine Trip.ops ?_ | refine Trip.block ?_ | (refine Trip.skip ?_; (change Trip _ _ _ _ _)) | (refine OpsL.nil ?_; (change Trip _ _ _ _ _)))
  refine Trip.inv (fun (k : Nat) st => ∃ (tm : Nat → Value), st = ⟨tm, n, H, nx⟩ ∧ tm 0 = .slice (some ⟨b, 0, some t⟩) l.length l.length ∧ tm 3 = .int .i64 k ∧ 1 ≤ k ∧ k ≤ l.length ∧ ∀ i (h : i < l.length), 0 < i → i < k → l[i - 1] ≠ l[i]) (fun k => l.length - k) 1 ?_ ?_
  ·exact ⟨_, rfl, by simp [tmPut, *], by simp [tmPut], by omega, by omega, fun i h h0 h1 => by omega⟩
  ·clear e0
   rintro k st ⟨tm, rfl, e0, e3, hk1, hk2, hne⟩
   by_cases hlt : k < l.length
   ·repeat (first | (refine OpsL.q (by first | exact omv | exact olen) ?_) | refine Trip.seq ?_ | refine Trip.ops ?_)
    refine OpsL.lssT ?_
    repeat (refine OpsL.nil ?_; (change Trip _ _ _ _ _))
    refine Trip.ifT ?_
    repeat (first | refine Trip.seq ?_ | refine Trip.block ?_ | (refine Trip.skip ?_; (change Trip _ _ _ _ _)))
    have g1 := getc_flat enc3_len hH hlt
    have g2 := getc_flat enc3_len hH (show k - 1 < l.length by omega)
    refine Trip.mono (Q := fun e st => e = .normal ∧ ∃ (tm' : Nat → Value), st = ⟨tm', n, H, nx⟩ ∧ tm' 25 = .bool (decide (l[k] = l[k - 1])) ∧ tm' 0 = .slice (some ⟨b, 0, some t⟩) l.length l.length ∧ tm' 3 = .int .i64 k) ?_ ?_
    ·refine OpsK.drawn (K := fun _ _ => True) mixedO (by kernel_rfl) (by kernel_rfl) trivial ?_
     refine OpsK.one rfl (by kernel_rfl) ?_
     repeat (first | refine OpsL.q (by exact omv) ?_ | (refine OpsL.nil ?_; (skip)))
     refine OpsK.one rfl (by kernel_rfl) ?_
     repeat (first | refine OpsL.q (by exact omv) ?_ | (refine OpsL.nil ?_; (skip)))
     refine OpsK.one rfl (by kernel_rfl) ?_
     repeat (first | refine OpsL.q (by exact oixa) ?_ | (refine OpsL.nil ?_; (dsimp only)))
     refine OpsK.one rfl (by kernel_rfl) ?_
     refine OpsL.q (aop_loadAgg (k := 3) (vs := enc3 l[k]) (by simp only [ASt.ev, tmPut, ↓reduceIte, Nat.reduceEqDiff, *]; rfl) (by exact rfl) rfl (by exact rfl) (by show getc H ⟨b, 0 + (k : Int).toNat * 3, some t⟩ 3 = _; rw [Int.toNat_natCast]; exact g1)) ?_
     repeat (refine OpsL.nil ?_; (skip))
     refine OpsK.one rfl (by kernel_rfl) ?_
     repeat (first | refine OpsL.q (by exact omv) ?_ | (refine OpsL.nil ?_; (skip)))
     refine OpsK.one rfl (by kernel_rfl) ?_
     repeat (first | refine OpsL.q (by exact omv) ?_ | (refine OpsL.nil ?_; (skip)))
     refine OpsK.one rfl (by kernel_rfl) ?_
     repeat (first | refine OpsL.q (by exact osub) ?_ | (refine OpsL.nil ?_; (skip)))
     refine OpsK.one rfl (by kernel_rfl) ?_
     repeat (first | refine OpsL.q (by exact oixa) ?_ | (refine OpsL.nil ?_; (dsimp only)))
     refine OpsK.one rfl (by kernel_rfl) ?_
     refine OpsL.q (aop_loadAgg (k := 3) (vs := enc3 l[k - 1]) (by simp only [ASt.ev, tmPut, ↓reduceIte, Nat.reduceEqDiff, *]; rfl) (by exact rfl) rfl (by exact rfl) (by show getc H ⟨b, 0 + ((k : Int) - 1).toNat * 3, some t⟩ 3 = _; rw [show ((k : Int) - 1).toNat = k - 1 by omega]; exact g2)) ?_
     repeat (refine OpsL.nil ?_; (skip))
     refine OpsK.one rfl (by kernel_rfl) ?_
     refine OpsL.q (aop_eqlA (r := decide (l[k] = l[k - 1])) (by simp only [ASt.ev, tmPut, ↓reduceIte, Nat.reduceEqDiff, *]; done) (by simp only [ASt.ev, tmPut, ↓reduceIte, Nat.reduceEqDiff, *]; done) (by kernel_rfl) (eqN _ _ _ _ rfl)) ?_
     repeat (refine OpsL.nil ?_; (skip))
     refine OpsK.nil ?_
     exact ⟨rfl, _, rfl, by simp [tmPut], by simp [tmPut, *], by simp [tmPut, *]⟩
    ·rintro e st ⟨rfl, tm', rfl, e25, e0, e3⟩
     dsimp only
     clear g1 g2
     by_cases heq : l[k] = l[k - 1]
     ·rw [decide_eq_true heq] at e25
      repeat fail
      refine Trip.ifT ?_
      repeat (first | refine OpsL.q (by exact omv) ?_ | refine Trip.seq ?_ | refine Trip.ops ?_)
      refine OpsL.q (aop_slice (a := some (.int .i64 k)) (b := none) (c := none) (by simp only [ASt.ev, tmPut, ↓reduceIte, Nat.reduceEqDiff, *]; done) (by simp only [evOpt, ASt.ev, tmPut, ↓reduceIte, reduceIte, Option.some.injEq, Nat.reduceEqDiff, Option.map_some, *]) rfl rfl (hS H _ _ hH k hlt)) ?_
      repeat (first | refine OpsL.q (by exact oasg) ?_ | refine Trip.seq ?_ | refine Trip.ops ?_ | refine Trip.block ?_ | (refine OpsL.nil ?_; (change Trip _ _ _ _ _)))
      have hd0 : dedF (l.take (k + 1)) = l.take k := by
       rw [dedF_take l (by omega) hlt, if_pos heq.symm]
       exact dedF_same l k (by omega) (fun i hi a c => hne i hi a c)
      refine Trip.inv (fun (k2 : Nat) st => ∃ (tm : Nat → Value) (H' : Heap) (A : List (R3)) (rest : List Value) (kk : Nat), st = ⟨tm, n, H', nx⟩ ∧ H' b = some (.cells (A.flatMap enc3 ++ rest) 3 (some t) false (some 48)) ∧ A.length = l.length ∧ (∀ i, i ≠ b → H' i = H i) ∧ tm 0 = .slice (some ⟨b, 0, some t⟩) l.length l.length ∧ tm 3 = .int .i64 kk ∧ tm 4 = .slice (some ⟨b, 0 + k * 3, some t⟩) (l.length - k) (l.length - k) ∧ tm 5 = .int .i64 k2 ∧
       1 ≤ kk ∧ kk ≤ k + k2 - 1 ∧ 1 ≤ k2 ∧ k2 ≤ l.length - k ∧ A.take kk = dedF (l.take (k + k2)) ∧ A.drop (k + k2 - 1) = l.drop (k + k2 - 1)) (fun k2 => l.length - k - k2) 1 ?_ ?_
      ·exact ⟨_, H, l, rest, k, rfl, hH, rfl, fun _ _ => rfl, by simp [tmPut, *], by simp [tmPut, *], by simp [tmPut, *], by simp [tmPut, *], by omega, by omega, by omega, by omega, hd0.symm, rfl⟩
      ·clear e0 e3 e25
       rintro k2 st ⟨tm, H', A, rest', kk, rfl, hG, hAl, hsame, e0, e3, e4, e5, k1, k3, k4, k5, hta, hda⟩
       by_cases hlt2 : k + k2 < l.length
       ·have hA1 : A[k + k2]'(by omega) = l[k + k2] := by
         have : (A.drop (k + k2 - 1))[1]? = (l.drop (k + k2 - 1))[1]? := by rw [hda]
         rw [List.getElem?_drop, List.getElem?_drop, show k + k2 - 1 + 1 = k + k2 by omega, List.getElem?_eq_getElem (by omega), List.getElem?_eq_getElem hlt2] at this
         exact Option.some.inj this
        have hA2 : A[k + k2 - 1]'(by omega) = l[k + k2 - 1] := by
         have : (A.drop (k + k2 - 1))[0]? = (l.drop (k + k2 - 1))[0]? := by rw [hda]
         rw [List.getElem?_drop, List.getElem?_drop, Nat.add_zero, List.getElem?_eq_getElem (by omega), List.getElem?_eq_getElem (by omega)] at this
         exact Option.some.inj this
        have hstep := dedF_take l (m := k + k2) (by omega) hlt2
        have hdn : A.drop (k + (k2 + 1) - 1) = l.drop (k + (k2 + 1) - 1) := by
         have := congrArg (List.drop 1) hda
         rw [List.drop_drop, List.drop_drop] at this
         rw [show k + (k2 + 1) - 1 = k + k2 - 1 + 1 by omega]; exact this
        have g1 := getc_flat enc3_len hG (show k + k2 < A.length by omega)
        have g2 := getc_flat enc3_len hG (show k + k2 - 1 < A.length by omega)
        rw [hA1] at g1
        rw [hA2] at g2
        replace g1 : getc H' ⟨b, 0 + k * 3 + (k2 : Int).toNat * 3, some t⟩ 3 = some (enc3 l[k + k2]) := by
         rw [Int.toNat_natCast, show 0 + k * 3 + k2 * 3 = 0 + (k + k2) * 3 by omega]; exact g1
        replace g2 : getc H' ⟨b, 0 + k * 3 + ((k2 : Int) - 1).toNat * 3, some t⟩ 3 = some (enc3 l[k + k2 - 1]) := by
         rw [show 0 + k * 3 + ((k2 : Int) - 1).toNat * 3 = 0 + (k + k2 - 1) * 3 by omega]; exact g2
        repeat (first | (refine OpsL.q (by first | exact omv | exact olen) ?_) | refine Trip.seq ?_ | refine Trip.ops ?_)
        refine OpsL.lssT ?_
        repeat (refine OpsL.nil ?_; (change Trip _ _ _ _ _))
        refine Trip.ifT ?_
        repeat (first | refine Trip.seq ?_ | refine Trip.block ?_ | (refine Trip.skip ?_; (change Trip _ _ _ _ _)))
        refine Trip.mono (Q := fun e st => e = .normal ∧ ∃ (tm' : Nat → Value), st = ⟨tm', n, H', nx⟩ ∧ tm' 44 = .bool (!decide (l[k + k2] = l[k + k2 - 1])) ∧ tm' 0 = .slice (some ⟨b, 0, some t⟩) l.length l.length ∧ tm' 3 = .int .i64 kk ∧ tm' 4 = .slice (some ⟨b, 0 + k * 3, some t⟩) (l.length - k) (l.length - k) ∧ tm' 5 = .int .i64 k2) ?_ ?_
        ·refine OpsK.drawn (K := fun _ _ => True) mixedO (by kernel_rfl) (by kernel_rfl) trivial ?_
         refine OpsK.one rfl (by kernel_rfl) ?_
         repeat (first | refine OpsL.q (by exact omv) ?_ | (refine OpsL.nil ?_; (skip)))
         refine OpsK.one rfl (by kernel_rfl) ?_
         repeat (first | refine OpsL.q (by exact omv) ?_ | (refine OpsL.nil ?_; (skip)))
         refine OpsK.one rfl (by kernel_rfl) ?_
         repeat (first | refine OpsL.q (by exact oixa) ?_ | (refine OpsL.nil ?_; (dsimp only)))
         refine OpsK.one rfl (by kernel_rfl) ?_
         refine OpsL.q (aop_loadAgg (k := 3) (vs := enc3 l[k + k2]) (by simp only [ASt.ev, tmPut, ↓reduceIte, Nat.reduceEqDiff, *]; rfl) (by exact rfl) rfl (by exact rfl) g1) ?_
         repeat (refine OpsL.nil ?_; (skip))
         refine OpsK.one rfl (by kernel_rfl) ?_
         repeat (first | refine OpsL.q (by exact omv) ?_ | (refine OpsL.nil ?_; (skip)))
         refine OpsK.one rfl (by kernel_rfl) ?_
         repeat (first | refine OpsL.q (by exact omv) ?_ | (refine OpsL.nil ?_; (skip)))
         refine OpsK.one rfl (by kernel_rfl) ?_
         repeat (first | refine OpsL.q (by exact osub) ?_ | (refine OpsL.nil ?_; (skip)))
         refine OpsK.one rfl (by kernel_rfl) ?_
         repeat (first | refine OpsL.q (by exact oixa) ?_ | (refine OpsL.nil ?_; (dsimp only)))
         refine OpsK.one rfl (by kernel_rfl) ?_
         refine OpsL.q (aop_loadAgg (k := 3) (vs := enc3 l[k + k2 - 1]) (by simp only [ASt.ev, tmPut, ↓reduceIte, Nat.reduceEqDiff, *]; rfl) (by exact rfl) rfl (by exact rfl) g2) ?_
         repeat (refine OpsL.nil ?_; (skip))
         refine OpsK.one rfl (by kernel_rfl) ?_
         refine OpsL.q (aop_neqA (r := decide (l[k + k2] = l[k + k2 - 1])) (by simp only [ASt.ev, tmPut, ↓reduceIte, Nat.reduceEqDiff, *]; done) (by simp only [ASt.ev, tmPut, ↓reduceIte, Nat.reduceEqDiff, *]; done) (by kernel_rfl) (eqN _ _ _ _ rfl)) ?_
         repeat (refine OpsL.nil ?_; (skip))
         refine OpsK.nil ?_
         exact ⟨rfl, _, rfl, by simp [tmPut], by simp [tmPut, *], by simp [tmPut, *], by simp [tmPut, *], by simp [tmPut, *]⟩
        ·rintro e st ⟨rfl, tm', rfl, e44, e0, e3, e4, e5⟩
         dsimp only
         by_cases he2 : l[k + k2] = l[k + k2 - 1]
         ·rw [decide_eq_true he2] at e44
          rw [if_pos he2.symm] at hstep
          repeat fail
          refine Trip.ifF ?_
          repeat (first | (refine OpsL.q (by first | exact omv | exact oasg | exact oadd) ?_) | refine Trip.ops ?_ | (refine Trip.skip ?_; ((repeat (refine blockExit_normal ?_)); change Trip _ _ _ _ _)) | (refine OpsL.nil ?_; (dsimp only)))
          exact ⟨k2 + 1, ⟨_, H', A, rest', kk, rfl, hG, hAl, hsame, by simp [tmPut, *], by simp [tmPut, *], by simp [tmPut, *], by simp [tmPut, *], k1, by omega, by omega, by omega, by rw [hta, ← hstep]; rfl, hdn⟩, by omega⟩
         ·rw [decide_eq_false he2] at e44
          rw [if_neg (fun h => he2 h.symm)] at hstep
          repeat fail
          refine Trip.ifT ?_
          repeat (first | (refine OpsL.q (by first | exact omv | exact oixa) ?_) | refine Trip.seq ?_ | refine Trip.ops ?_)
          refine OpsL.q (aop_loadAgg (k := 3) (vs := enc3 l[k + k2]) (by simp only [ASt.ev, tmPut, ↓reduceIte, Nat.reduceEqDiff, *]; rfl) (by exact rfl) rfl (by exact rfl) g1) ?_
          repeat (refine OpsL.q (by exact oixa) ?_)
          refine OpsL.upd (aop_store (u := .agg (enc3 l[k + k2]).toArray) (o := .cells ((A.set kk l[k + k2]).flatMap enc3 ++ rest') 3 (some t) false (some 48)) (by simp only [ASt.ev, tmPut, ↓reduceIte, Nat.reduceEqDiff, *]; rfl) (by simp only [ASt.ev, tmPut, ↓reduceIte, Nat.reduceEqDiff, *]; done) (by exact rfl) rfl (by
           have := setc_flat (x := l[k + k2]) enc3_len enc3_one hG (show kk < A.length by omega)
           show setc H' ⟨b, 0 + (kk : Int).toNat * 3, some t⟩ (enc3 l[k + k2]) = _
           rw [Int.toNat_natCast]; exact this)) ?_
          repeat (first | (refine OpsL.q (by first | exact omv | exact oasg | exact oadd) ?_) | refine Trip.ops ?_ | (refine OpsL.nil ?_; ((repeat (refine blockExit_normal ?_)); first | (change Trip _ _ _ _ _) | (dsimp only))))
          refine ⟨k2 + 1, ⟨_, _, A.set kk l[k + k2], rest', kk + 1, rfl, Heap.put_eq, by rw [List.length_set]; exact hAl, fun i hi => by show Heap.put H' b _ i = _; rw [Heap.put_ne hi]; exact hsame i hi, by simp [tmPut, *], by simp [tmPut, *], by simp [tmPut, *], by simp [tmPut, *], by omega, by omega, by omega, by omega, ?_, ?_⟩, by omega⟩
          ·rw [show k + (k2 + 1) = k + k2 + 1 by omega, hstep, ← hta, List.take_add_one, List.getElem?_set_self (by omega), List.take_set_of_le (Nat.le_refl _)]
           rfl
          ·rw [List.drop_set_of_lt (by omega)]
           exact hdn
       ·have hk2 : k2 = l.length - k := by omega
        rw [show k + k2 = l.length by omega, List.take_length] at hta
        repeat (first | (refine OpsL.q (by first | exact omv | exact olen) ?_) | refine Trip.seq ?_ | refine Trip.ops ?_)
        refine OpsL.lssF ?_
        repeat (refine OpsL.nil ?_; (change Trip _ _ _ _ _))
        refine Trip.ifF ?_
        repeat (first | refine OpsL.q (by exact omv) ?_ | refine Trip.seq ?_ | refine Trip.ops ?_ | (refine Trip.exit ?_; ((repeat (refine blockExit_eq ?_)); change Trip _ _ _ _ _)))
        refine OpsL.q (aop_slice (a := some (.int .i64 kk)) (b := none) (c := none) (by simp only [ASt.ev, tmPut, ↓reduceIte, Nat.reduceEqDiff, *]; done) (by simp only [evOpt, ASt.ev, tmPut, ↓reduceIte, reduceIte, Option.some.injEq, Nat.reduceEqDiff, Option.map_some, *]) rfl rfl (hS H' _ _ hG kk (by omega))) ?_
        obtain ⟨rest2, hend⟩ := setc_end (k := kk) (z := [.int .i64 0, .int .i64 0, .int .i64 0]) enc3_len rfl rfl hG (by omega)
        rw [hAl, hta] at hend
        refine OpsL.clear (z := [.int .i64 0, .int .i64 0, .int .i64 0]) (by simp only [ASt.ev, tmPut, ↓reduceIte, Nat.reduceEqDiff, *]; rfl) (by exact rfl) (by exact rfl) (by omega) hend ?_
        repeat (first | refine OpsL.q (by exact omv) ?_ | refine Trip.seq ?_ | refine Trip.ops ?_ | (refine OpsL.nil ?_; (change Trip _ _ _ _ _)))
        have hlen : (dedF l).length = kk := by rw [← hta, List.length_take]; omega
        refine OpsL.q (aop_slice (a := none) (b := some (.int .i64 kk)) (c := none) (by simp only [ASt.ev, tmPut, ↓reduceIte, Nat.reduceEqDiff, *]; done) rfl (by simp only [evOpt, ASt.ev, tmPut, ↓reduceIte, reduceIte, Option.some.injEq, Nat.reduceEqDiff, Option.map_some, *]) rfl (hS2 _ _ rest2 Heap.put_eq kk (by omega))) ?_
        repeat (first | refine OpsL.q (by exact oasg) ?_ | (refine Trip.ret ?_; ((repeat (refine blockExit_ret ?_)); dsimp only)) | (refine OpsL.nil ?_; (change Trip _ _ _ _ _)))
        refine ⟨.inr rfl, _, res_tmp, rfl, ?_, fun i hi => ?_⟩
        ·refine ⟨by simp [tmPut, hlen], by rw [flat_len enc3_len], rest2, Heap.put_eq⟩
        ·show Heap.put H' b _ i = _
         rw [Heap.put_ne (hi b t rfl)]
         exact hsame i (hi b t rfl)
     ·rw [decide_eq_false heq] at e25
      repeat fail
      refine Trip.ifF ?_
      repeat (first | (refine OpsL.q (by first | exact omv | exact oasg | exact oadd) ?_) | refine Trip.ops ?_ | (refine Trip.skip ?_; ((repeat (refine blockExit_normal ?_)); change Trip _ _ _ _ _)) | (refine OpsL.nil ?_; (dsimp only)))
      refine ⟨k + 1, ⟨_, rfl, by simp [tmPut, *], by simp [tmPut, *], by omega, by omega, fun i hi h0 h1 => ?_⟩, by omega⟩
      by_cases hik : i = k
      ·subst hik
       exact fun hh => heq hh.symm
      ·exact hne i hi h0 (by omega)
   ·repeat (first | (refine OpsL.q (by first | exact omv | exact olen) ?_) | refine Trip.seq ?_ | refine Trip.ops ?_)
    refine OpsL.lssF ?_
    repeat (refine OpsL.nil ?_; (change Trip _ _ _ _ _))
    refine Trip.ifF ?_
    repeat (first | (refine OpsL.q (by first | exact omv | exact oasg) ?_) | refine Trip.seq ?_ | refine Trip.ops ?_ | (refine Trip.exit ?_; ((repeat (refine blockExit_eq ?_)); change Trip _ _ _ _ _)) | (refine Trip.ret ?_; (dsimp only)) | (refine OpsL.nil ?_; (change Trip _ _ _ _ _)))
    have hd := dedF_same l l.length (Nat.le_refl _) (fun i hi a c => hne i hi a (by omega))
    rw [List.take_length] at hd
    refine ⟨.inr rfl, _, res_tmp, rfl, ?_, fun _ _ => rfl⟩
    rw [hd]
    exact ⟨by simp [tmPut, *], by rw [flat_len enc3_len], rest, hH⟩
end Go.Proofs.YtjohiaoepbnicaaGreat
namespace Go.Proofs.YtjohiaoepbnicaaGreat
set_option linter.unusedSimpArgs false
set_option linter.unusedVariables false
open Go.RowKit Go.Am
attribute [local irreducible] aop OpsL Trip blockExit OpsD OpsK OpsR
theorem entersTidyN : Am.Enters Tryz.prog 51 := ⟨Tryz.f51, Tryz.func51, by kernel_rfl, by kernel_rfl⟩
theorem sortOwnN (W0 : World) {nx : Nat} {H : Heap} {ob : Option (Nat × Nat)} {v : Value} {l : List (R3)} (h : OwnN H ob v l) (hl : l.length ≤ 1000000) :
  ACalls Tryz.prog W0 76 [v, .func (.func 52) #[] #[]] nx H fun _ nx' H' => nx' = nx ∧ ∃ l' : List (R3), l'.Perm l ∧ SortedL lt3 l' ∧ OwnN H' ob v l' ∧ ∀ i, (∀ b t, ob = some (b, t) → i ≠ b) → H' i = H i := by
 cases ob with
 | none =>
  obtain ⟨rfl, _, hl0⟩ := h
  have hnil : l = [] := List.eq_nil_of_length_eq_zero hl0
  subst hnil
  intro C w args' hR ha
  obtain ⟨h1, h2⟩ := ha
  obtain ⟨v1, v2, rfl⟩ : ∃ v1 v2, args' = [v1, v2] := by
   match args', h1 with
   | [v1, v2], _ => exact ⟨v1, v2, rfl⟩
  have hv1 := h2 0 (by simp) (by simp)
  simp only [List.getElem_cons_zero] at hv1
  obtain rfl : v1 = .slice none 0 0 := by cases hv1; rfl
  refine (AnyF.slices_SortFunc_none { sortNL with } none 0 v2 w).mono ?_
  rintro e w' ⟨rfl, rfl⟩
  exact ⟨_, _, C, nx, H, rfl, ⟨rfl, [], List.Perm.refl _, List.Pairwise.nil, ⟨rfl, rfl, rfl⟩, fun _ _ => rfl⟩, hR, .tuple #[] #[] rfl (fun i h => absurd h (by simp)), Stp.refl _ _ _⟩
 | some bt =>
  obtain ⟨b, t⟩ := bt
  obtain ⟨rfl, _, rest, hH⟩ := h
  refine ACalls.weaken (sortNC W0 hH (by omega)) ?_
  rintro v nx' H' ⟨_, rfl, l', hp, hs, rfl⟩
  refine ⟨rfl, l', hp, hs, ⟨by rw [hp.length_eq], by rw [flat_len enc3_len], rest, Heap.put_eq⟩, fun i hi => Heap.put_ne (hi b t rfl)⟩
set_option maxRecDepth 20000 in
set_option maxHeartbeats 4000000 in
theorem tidyNC (W0 : World) {nx : Nat} {H : Heap} {v : Value} {l : List R3} (hr : AtN H v l) (hm : l.length ≤ 100000) :
  ACalls Tryz.prog W0 51 [v, .func (.func 52) #[] #[]] nx H fun v nx' H' => ∃ ob, OwnN H' ob v (tidyL lt3 l) ∧ Fresh nx H nx' H' ob := by
 refine ACalls.by_trip (fn := Tryz.f51) (c := _) Tryz.func51 rfl (fun tm n hn0 htm => ?_)
 have e0 : tm 0 = v := htm 0
 have e1 : tm 1 = .func (.func 52) #[] #[] := htm 1
 clear htm
 replace hn0 : n = 13 := hn0
 refine Trip.ok fun hok => ?_
 replace hok : ∀ id o, H id = some o → id < nx := hok
 obtain ⟨va, vc, rfl⟩ := hr.slice
 repeat (first | (refine OpsL.q (by first | exact omv | exact oasg) ?_) | refine Trip.seq ?_ | refine Trip.ops ?_ | (refine OpsL.nil ?_; (change Trip _ _ _ _ _)))
 refine OpsL.new (by subst_vars; decide) (aop_buildSlice (l := [(0, .slice va l.length vc)]) (r := (.slice (some ⟨nx, 0, none⟩) 1 1, .new (.cells [.slice va l.length vc] 1 none false (some 28)))) (by simp only [evParts, ASt.ev, tmPut, ↓reduceIte, reduceIte, Option.some.injEq, Nat.reduceEqDiff, *]) (by kernel_rfl)) ?_
 have hx0 : Ext nx H (nx + 1) (H.put nx (.cells [.slice va l.length vc] 1 none false (some 28))) := Ext.newPut
 have hin : RowsInN (H.put nx (.cells [.slice va l.length vc] 1 none false (some 28))) (.slice (some ⟨nx, 0, none⟩) 1 1) [(.slice va l.length vc, l)] := ⟨nx, rfl, Heap.put_eq, fun x hx => by rw [List.mem_singleton] at hx; subst hx; exact hr.ext hx0 hok⟩
 have hall : allOfN [(Value.slice va l.length vc, l)] = l := by simp [allOfN]
 refine OpsL.c1 (hf := entersConcN) (hc := (concNC W0 hin (by rw [hall]; exact hm) (by simp))) (h := ?_)
 rintro v1 nx1 H1 ⟨ob, ho1, hx1, hob1⟩
 rw [hall] at ho1
 repeat (first | (refine OpsL.q (by first | exact omv | exact oasg) ?_) | refine Trip.seq ?_ | refine Trip.ops ?_ | (refine OpsL.nil ?_; (change Trip _ _ _ _ _)))
 refine OpsL.c2 (hf := entersSortN) (hc := (sortOwnN W0 ho1 (by omega))) (h := ?_)
 rintro v2 nx2 H2 ⟨rfl, l', hp, hs, ho2, hsame2⟩
 repeat (first | refine OpsL.q (by exact omv) ?_ | refine Trip.seq ?_ | refine Trip.ops ?_ | (refine OpsL.nil ?_; (change Trip _ _ _ _ _)))
 refine OpsL.c1 (hf := entersCompN) (hc := (compNC W0 ho2 (by rw [hp.length_eq]; omega))) (h := ?_)
 rintro v3 nx3 H3 ⟨rfl, ho3, hsame3⟩
 repeat (first | refine OpsL.q (by exact oasg) ?_ | (refine Trip.ret ?_; (dsimp only)) | (refine OpsL.nil ?_; (change Trip _ _ _ _ _)))
 have heq := tidyL_eq ord3 (strictL_ded ord3 l' hs) (fun x => by rw [dedF_mem, hp.mem_iff] : ∀ x, x ∈ dedF l' ↔ x ∈ l)
 rw [heq] at ho3
 refine ⟨.inr rfl, _, res_tmp, ob, by simpa [tmPut] using ho3, hx0.trans ⟨hx1.1, fun i hi => ?_⟩, fun b t h => by have := hob1 b t h; omega⟩
 rw [hsame3 i (fun b t h => by have := (hob1 b t h).1; omega), hsame2 i (fun b t h => by have := (hob1 b t h).1; omega), hx1.2 i hi]
end Go.Proofs.YtjohiaoepbnicaaGreat
namespace Go.Proofs.YtjohiaoepbnicaaGreat
set_option linter.unusedSimpArgs false
set_option linter.unusedVariables false
open Go.RowKit Go.Am
attribute [local irreducible] aop OpsL Trip blockExit OpsD OpsK OpsR
abbrev AtI (H : Heap) (v : Value) (l : List (Int)) : Prop := RowsAt enc1 1 H v l
abbrev OwnI (H : Heap) (ob : Option (Nat × Nat)) (v : Value) (l : List (Int)) : Prop := OwnOf enc1 1 3 H ob v l
theorem entersGrowI : Am.Enters Tryz.prog 82 := ⟨Tryz.f82, Tryz.func82, by kernel_rfl, by kernel_rfl⟩
theorem entersConcI : Am.Enters Tryz.prog 64 := ⟨Tryz.f64, Tryz.func64, by kernel_rfl, by kernel_rfl⟩
set_option maxRecDepth 20000 in
set_option maxHeartbeats 4000000 in
theorem growIC (W0 : World) {nx m : Nat} {H : Heap} (hm : m ≤ 1000000) :
  ACalls Tryz.prog W0 82 [.slice none 0 0, .int .i64 m] nx H fun v nx' H' => ∃ ob, OwnI H' ob v [] ∧ Fresh nx H nx' H' ob := by
 refine ACalls.by_trip (fn := Tryz.f82) (c := _) Tryz.func82 rfl (fun tm n hn0 htm => ?_)
 have e0 : tm 0 = .slice none 0 0 := htm 0
 have e1 : tm 1 = .int .i64 m := htm 1
 clear htm
 replace hn0 : n = 27 := hn0
 repeat (first | (refine OpsL.q (by first | exact omv | exact oasg) ?_) | refine Trip.seq ?_ | refine Trip.ops ?_ | (refine OpsL.nil ?_; (change Trip _ _ _ _ _)))
 refine OpsL.lssF ?_
 repeat (refine OpsL.nil ?_; (change Trip _ _ _ _ _))
 refine Trip.ifF ?_
 repeat (first | refine OpsL.q (by exact omv) ?_ | refine Trip.seq ?_ | refine Trip.ops ?_ | (refine Trip.skip ?_; (change Trip _ _ _ _ _)))
 refine OpsL.q (aop_capN (by simp only [ASt.ev, tmPut, ↓reduceIte, Nat.reduceEqDiff, *]; rfl) (by exact rfl)) ?_
 repeat (first | (refine OpsL.q (by first | exact omv | exact olen | exact osub | exact oasg) ?_) | refine Trip.seq ?_ | refine Trip.ops ?_ | (refine OpsL.nil ?_; (change Trip _ _ _ _ _)))
 by_cases h0 : 0 < m
 ·refine OpsL.gtrT ?_
  repeat (refine OpsL.nil ?_; (change Trip _ _ _ _ _))
  refine Trip.ifT ?_
  repeat (first | refine OpsL.q (by exact omv) ?_ | refine Trip.ops ?_)
  refine OpsL.q (aop_capN (by simp only [ASt.ev, tmPut, ↓reduceIte, Nat.reduceEqDiff, *]; rfl) (by exact rfl)) ?_
  refine OpsL.q (aop_slice (r := .slice none 0 0) (a := none) (b := some (.int .i64 0)) (c := none) (by simp only [ASt.ev, tmPut, ↓reduceIte, Nat.reduceEqDiff, *]; done) rfl (by simp only [evOpt, ASt.ev, tmPut, ↓reduceIte, reduceIte, Option.some.injEq, Nat.reduceEqDiff, Option.map_some]; rfl) rfl (aSlice_nil (el := 3) (sz := 1) (by exact rfl) (by exact rfl) (.inl ⟨rfl, rfl⟩) (.inr ⟨.i64, rfl⟩))) ?_
  repeat (refine OpsL.q (by exact omv) ?_)
  refine OpsL.new (by subst_vars; decide) (aop_appendZ (k := m) (el := 3) (kd := .i64) (size := 1) (bytes := 8) (z := [.int .i64 0]) (by simp only [ASt.ev, tmPut, ↓reduceIte, Nat.reduceEqDiff, *]; done) (by simp only [ASt.ev, tmPut, ↓reduceIte, reduceIte, Nat.reduceEqDiff, plain1, *]; simp) (by exact rfl) (by exact rfl) (by exact rfl) (by exact rfl) (by exact rfl) rfl h0 (by omega) (by omega)) ?_
  repeat (refine OpsL.q (by first | exact omv | exact olen) ?_)
  refine OpsL.q (aop_slice (r := .slice (some ⟨nx, 0, some nx⟩) 0 0) (a := none) (b := some (.int .i64 0)) (c := none) (by simp only [ASt.ev, tmPut, ↓reduceIte, Nat.reduceEqDiff, *]; rfl) rfl (by simp only [evOpt, ASt.ev, tmPut, ↓reduceIte, reduceIte, Option.some.injEq, Nat.reduceEqDiff, Option.map_some]; rfl) rfl (by
   have := aSlice_tagged (P := Tryz.prog) (H := H.put nx (.cells (zcells [.int .i64 0] m) 1 (some nx) false (some 3))) (t := 22) (el := 3) (sz := 1) (a := ⟨nx, 0, some nx⟩) (len := m) (cap := m) (l := 0) (h := 0) (tg := nx) (lo := none) (hi := some (.int .i64 0)) (by exact rfl) (by exact rfl) Heap.put_eq rfl rfl rfl (.inl ⟨rfl, rfl⟩) (.inr ⟨.i64, rfl⟩) (Nat.le_refl _) (Nat.zero_le _)
   simpa using this)) ?_
  repeat (first | (refine OpsL.q (by first | exact omv | exact oasg) ?_) | refine Trip.seq ?_ | refine Trip.ops ?_ | (refine Trip.ret ?_; (dsimp only)) | (refine OpsL.nil ?_; (change Trip _ _ _ _ _)))
  refine ⟨.inr rfl, _, res_tmp, some (nx, nx), ?_, ⟨Ext.newPut, fun b t h => by cases h; exact ⟨Nat.le_refl _, Nat.lt_succ_self _⟩⟩⟩
  refine ⟨by simp [tmPut], rfl, zcells [.int .i64 0] m, ?_⟩
  rw [Heap.put_eq]
  simp
 ·refine OpsL.gtrF ?_
  repeat (refine OpsL.nil ?_; (change Trip _ _ _ _ _))
  refine Trip.ifF ?_
  repeat (first | (refine OpsL.q (by first | exact omv | exact oasg) ?_) | refine Trip.seq ?_ | refine Trip.ops ?_ | (refine Trip.skip ?_; (change Trip _ _ _ _ _)) | (refine Trip.ret ?_; (dsimp only)) | (refine OpsL.nil ?_; (change Trip _ _ _ _ _)))
  refine ⟨.inr rfl, _, res_tmp, none, ⟨by simp [tmPut, *], rfl, rfl⟩, Ext.refl, fun b t h => by cases h⟩
def RowsInI (H : Heap) (v : Value) (ls : List (Value × List (Int))) : Prop :=
 ∃ a, v = .slice (some ⟨a, 0, none⟩) ls.length ls.length ∧ H a = some (.cells (ls.map (·.1)) 1 none false (some 22)) ∧ ∀ x ∈ ls, AtI H x.1 x.2
def allOfI (ls : List (Value × List (Int))) : List (Int) := ls.flatMap (·.2)
theorem allOfI_take (ls : List (Value × List (Int))) {i : Nat} (h : i < ls.length) : allOfI (ls.take (i + 1)) = allOfI (ls.take i) ++ ls[i].2 := by
 unfold allOfI
 rw [List.take_add_one, List.getElem?_eq_getElem h, Option.toList_some, List.flatMap_append]
 simp
set_option maxRecDepth 20000 in
set_option maxHeartbeats 4000000 in
theorem concIC (W0 : World) {nx : Nat} {H : Heap} {v : Value} {ls : List (Value × List (Int))} (hr : RowsInI H v ls) (hm : (allOfI ls).length ≤ 100000) (hl : ls.length ≤ 100) :
  ACalls Tryz.prog W0 64 [v] nx H fun v nx' H' => ∃ ob, OwnI H' ob v (allOfI ls) ∧ Fresh nx H nx' H' ob := by
 obtain ⟨a, rfl, hH, hrows⟩ := hr
 refine ACalls.by_trip (fn := Tryz.f64) (c := _) Tryz.func64 rfl (fun tm n hn0 htm => ?_)
 have e0 : tm 0 = .slice (some ⟨a, 0, none⟩) ls.length ls.length := htm 0
 clear htm
 replace hn0 : n = 36 := hn0
 refine Trip.ok fun hok => ?_
 replace hok : ∀ id o, H id = some o → id < nx := hok
 have hcell : ∀ (G : Heap), G a = some (.cells (ls.map (·.1)) 1 none false (some 22)) → ∀ i (h : i < ls.length), cellAt G ⟨a, 0 + (i : Int).toNat * 1, none⟩ ls[i].1 := fun G hG i h => by
  have := cellAt_own (off := i) hG (by simpa using h)
  simpa using this
 have hlen : ∀ i, i ≤ ls.length → (allOfI (ls.take i)).length ≤ (allOfI ls).length := fun i hi => by
  have h1 : allOfI ls = allOfI (ls.take i) ++ allOfI (ls.drop i) := by
   unfold allOfI
   rw [← List.flatMap_append, List.take_append_drop]
  rw [h1, List.length_append]; omega
 repeat (first | (refine OpsL.q (by first | exact omv | exact oasg | exact olen) ?_) | refine Trip.seq ?_ | refine Trip.ops ?_ | refine Trip.block ?_ | (refine OpsL.nil ?_; (change Trip _ _ _ _ _)))
 refine Trip.inv (fun (i : Nat) st => ∃ (tm : Nat → Value), st = ⟨tm, n, H, nx⟩ ∧ tm 0 = .slice (some ⟨a, 0, none⟩) ls.length ls.length ∧ tm 9 = .slice (some ⟨a, 0, none⟩) ls.length ls.length ∧ tm 10 = .int .i64 ls.length ∧ tm 11 = .int .i64 i ∧ tm 3 = .int .i64 (allOfI (ls.take i)).length ∧ i ≤ ls.length) (fun i => ls.length - i) 0 ?_ ?_
 ·exact ⟨_, rfl, by simp [tmPut, *], by simp [tmPut, *], by simp [tmPut, *], by simp [tmPut, *], by simp [tmPut, allOfI], by omega⟩
 ·clear e0
  rintro i st ⟨tm, rfl, e0, e9, e10, e11, e3, hi⟩
  by_cases hlt : i < ls.length
  ·have hc := hcell H hH i hlt
   obtain ⟨ua, uc, hu⟩ := (hrows _ (List.getElem_mem hlt)).slice
   have hst := allOfI_take ls hlt
   have hl1 := hlen (i + 1) (by omega)
   rw [hst, List.length_append] at hl1
   rw [hu] at hc
   generalize ls[i].2 = us at *
   generalize allOfI (ls.take i) = zs at *
   repeat (first | refine Trip.seq ?_ | refine Trip.ops ?_)
   refine OpsL.lssT ?_
   repeat (first | refine Trip.seq ?_ | (refine OpsL.nil ?_; (change Trip _ _ _ _ _)))
   refine Trip.ifT ?_
   repeat (first | (refine OpsL.q (by first | exact omv | exact oasg | exact oixa | exact old | exact olen | exact oadd) ?_) | refine Trip.seq ?_ | refine Trip.ops ?_ | refine Trip.block ?_ | (refine Trip.skip ?_; (change Trip _ _ _ _ _)) | (refine OpsL.nil ?_; (change Trip _ _ _ _ _)))
   refine OpsL.lssF ?_
   repeat (refine OpsL.nil ?_; (change Trip _ _ _ _ _))
   refine Trip.ifF ?_
   repeat (first | (refine OpsL.q (by first | exact omv | exact oadd) ?_) | refine Trip.ops ?_ | (refine Trip.skip ?_; ((repeat (refine blockExit_normal ?_)); change Trip _ _ _ _ _)) | (refine OpsL.nil ?_; (dsimp only)))
   exact ⟨i + 1, ⟨_, rfl, by simp [tmPut, *], by simp [tmPut, *], by simp [tmPut, *], by simp [tmPut, *], by rw [hst]; simp [tmPut, *], by omega⟩, by omega⟩
  ·have hin : i = ls.length := by omega
   subst hin
   rw [List.take_length] at e3
   repeat (first | refine Trip.seq ?_ | refine Trip.ops ?_)
   refine OpsL.lssF ?_
   repeat (first | refine Trip.seq ?_ | (refine OpsL.nil ?_; (change Trip _ _ _ _ _)))
   refine Trip.ifF ?_
   repeat (first | refine OpsL.q (by exact omv) ?_ | refine Trip.seq ?_ | refine Trip.ops ?_ | (refine Trip.exit ?_; ((repeat (refine blockExit_eq ?_)); change Trip _ _ _ _ _)))
   refine OpsL.c2 (hf := entersGrowI) (hc := (growIC W0 (m := (allOfI ls).length) (by omega)).ok) (h := ?_)
   rintro gv nx1 H1 ⟨⟨ob1, ho1, hx1, hob1⟩, hok1⟩
   repeat (first | (refine OpsL.q (by first | exact omv | exact oasg | exact olen) ?_) | refine Trip.seq ?_ | refine Trip.ops ?_ | refine Trip.block ?_ | (refine OpsL.nil ?_; (change Trip _ _ _ _ _)))
   refine Trip.inv (fun (i : Nat) st => ∃ (tm : Nat → Value) (nx' : Nat) (H' : Heap) (ob : Option (Nat × Nat)) (v : Value), st = ⟨tm, n, H', nx'⟩ ∧ Fresh nx H nx' H' ob ∧ (∀ id o, H' id = some o → id < nx') ∧ OwnI H' ob v (allOfI (ls.take i)) ∧ tm 25 = .slice (some ⟨a, 0, none⟩) ls.length ls.length ∧ tm 26 = .int .i64 ls.length ∧ tm 27 = .int .i64 i ∧ tm 6 = v ∧ i ≤ ls.length) (fun i => ls.length - i) 0 ?_ ?_
   ·exact ⟨_, _, _, ob1, gv, rfl, ⟨hx1, hob1⟩, hok1, ho1, by simp [tmPut, *], by simp [tmPut, *], by simp [tmPut, *], by simp [tmPut, *], by omega⟩
   ·clear e0 e9 e10 e11 e3 ho1 hx1 hob1 hok1
    rintro i st ⟨tm, nx', H', ob, v, rfl, ⟨hx, hob⟩, hok', hown, e25, e26, e27, e6, hi⟩
    by_cases hlt : i < ls.length
    ·have hst := allOfI_take ls hlt
     have hl1 := hlen (i + 1) (by omega)
     rw [hst, List.length_append] at hl1
     have hrow := (hrows _ (List.getElem_mem hlt)).ext hx hok
     have hc := hcell H' (by rw [hx.2 a (hok _ _ hH)]; exact hH) i hlt
     obtain ⟨ua, uc, hu⟩ := hrow.slice
     rw [hu] at hc hrow
     generalize ls[i].2 = us at *
     generalize allOfI (ls.take i) = zs at *
     repeat (first | refine Trip.seq ?_ | refine Trip.ops ?_)
     refine OpsL.lssT ?_
     repeat (first | refine Trip.seq ?_ | (refine OpsL.nil ?_; (change Trip _ _ _ _ _)))
     refine Trip.ifT ?_
     repeat (first | (refine OpsL.q (by first | exact omv | exact oasg | exact oixa | exact old) ?_) | refine Trip.seq ?_ | refine Trip.ops ?_ | refine Trip.block ?_ | (refine Trip.skip ?_; (change Trip _ _ _ _ _)) | (refine OpsL.nil ?_; (change Trip _ _ _ _ _)))
     refine OpsL.appendO (bytes := 8) (z := [.int .i64 0]) enc1_len enc1_one (by omega) (by subst_vars; decide) hown hrow (by simp only [ASt.ev, tmPut, ↓reduceIte, Nat.reduceEqDiff, *]; done) (by simp only [ASt.ev, tmPut, ↓reduceIte, Nat.reduceEqDiff, *]; done) (fun b t h => (hob b t h).2) (by exact rfl) (by exact rfl) (by exact rfl) (by exact rfl) (by exact rfl) rfl (by omega) (by omega) ?_
     intro v' nx2 H2 ob2 hA
     repeat (first | (refine OpsL.q (by first | exact omv | exact oasg | exact oadd) ?_) | refine Trip.ops ?_ | (refine OpsL.nil ?_; ((repeat (refine blockExit_normal ?_)); first | (change Trip _ _ _ _ _) | (dsimp only))))
     refine ⟨i + 1, ⟨_, nx2, H2, ob2, v', rfl, ⟨⟨by have := hx.1; have := hA.le; omega, fun j hj => ?_⟩, fun b t h => ?_⟩, ?_, by rw [hst]; exact hA.own, by simp [tmPut, *], by simp [tmPut, *], by simp [tmPut, *], by simp [tmPut, *], by omega⟩, by omega⟩
     ·rw [hA.same j (by have := hx.1; omega) (fun b t h => by have := (hob b t h).1; omega), hx.2 j hj]
     ·obtain ⟨q1, q2⟩ := hA.blk b t h
      refine ⟨?_, q1⟩
      rcases q2 with rfl | ⟨t', h'⟩
      ·exact hx.1
      ·exact (hob _ _ h').1
     ·exact hA.ok (fun b t h => (hob b t h).2) hok'
    ·have hin : i = ls.length := by omega
     subst hin
     rw [List.take_length] at hown
     repeat (first | refine Trip.seq ?_ | refine Trip.ops ?_)
     refine OpsL.lssF ?_
     repeat (first | refine Trip.seq ?_ | (refine OpsL.nil ?_; (change Trip _ _ _ _ _)))
     refine Trip.ifF ?_
     repeat (first | (refine OpsL.q (by first | exact omv | exact oasg) ?_) | refine Trip.seq ?_ | refine Trip.ops ?_ | (refine Trip.exit ?_; ((repeat (refine blockExit_eq ?_)); change Trip _ _ _ _ _)) | (refine Trip.ret ?_; (dsimp only)) | (refine OpsL.nil ?_; (change Trip _ _ _ _ _)))
     exact ⟨.inr rfl, _, res_tmp, ob, by simp [tmPut, *], hx, hob⟩
end Go.Proofs.YtjohiaoepbnicaaGreat
namespace Go.Proofs.YtjohiaoepbnicaaGreat
set_option linter.unusedSimpArgs false
set_option linter.unusedVariables false
open Go.RowKit Go.Am
attribute [local irreducible] aop OpsL Trip blockExit OpsD OpsK OpsR
theorem entersCompI : Am.Enters Tryz.prog 66 := ⟨Tryz.f66, Tryz.func66, by kernel_rfl, by kernel_rfl⟩
set_option maxRecDepth 20000 in
set_option maxHeartbeats 4000000 in
theorem compIC (W0 : World) {nx : Nat} {H : Heap} {ob : Option (Nat × Nat)} {v : Value} {l : List (Int)} (h : OwnI H ob v l) (hl : l.length ≤ 100000) :
  ACalls Tryz.prog W0 66 [v] nx H fun v' nx' H' => nx' = nx ∧ OwnI H' ob v' (dedF l) ∧ ∀ i, (∀ b t, ob = some (b, t) → i ≠ b) → H' i = H i := by
 have hrow := h.at enc1_len
 obtain ⟨va, vc, rfl⟩ := hrow.slice
 refine ACalls.by_trip (fn := Tryz.f66) (c := _) Tryz.func66 rfl (fun tm n hn0 htm => ?_)
 have e0 : tm 0 = .slice va l.length vc := htm 0
 clear htm
 replace hn0 : n = 61 := hn0
 by_cases hsh : l.length < 2
 ·repeat (first | (refine OpsL.q (by first | exact omv | exact oasg | exact olen) ?_) | refine Trip.seq ?_ | refine Trip.ops ?_ | (refine OpsL.nil ?_; (change Trip _ _ _ _ _)))
  refine OpsL.lssT ?_
  repeat (refine OpsL.nil ?_; (change Trip _ _ _ _ _))
  refine Trip.ifT ?_
  repeat (first | (refine OpsL.q (by first | exact omv | exact oasg) ?_) | refine Trip.seq ?_ | refine Trip.ops ?_ | (refine Trip.ret ?_; (dsimp only)) | (refine OpsL.nil ?_; (change Trip _ _ _ _ _)))
  exact ⟨.inr rfl, _, res_tmp, rfl, by rw [dedF_one l (by omega)]; simp [tmPut, *], fun _ _ => rfl⟩
 ·obtain ⟨b, t, rfl⟩ : ∃ b t, ob = some (b, t) := by
   cases ob with
   | none => obtain ⟨_, _, h2⟩ := h; omega
   | some bt => exact ⟨_, _, rfl⟩
  obtain ⟨hv, _, rest, hH⟩ := h
  obtain ⟨rfl, _, rfl⟩ := Value.slice.inj hv
  have hS : ∀ (G : Heap) (A rest : List Value), G b = some (.cells (A ++ rest) 1 (some t) false (some 3)) → ∀ k, k < l.length → aSlice Tryz.prog G 22 (.slice (some ⟨b, 0, some t⟩) l.length l.length) (some (.int .i64 k)) none none = some (.slice (some ⟨b, 0 + k * 1, some t⟩) (l.length - k) (l.length - k)) := fun G A rest hG k hk => by
   have := aSlice_tagged (P := Tryz.prog) (H := G) (t := 22) (el := 3) (sz := 1) (a := ⟨b, 0, some t⟩) (len := l.length) (cap := l.length) (l := k) (h := l.length) (tg := t) (lo := some (.int .i64 k)) (hi := none) (by exact rfl) (by exact rfl) hG rfl rfl rfl (.inr ⟨.i64, rfl⟩) (.inl ⟨rfl, rfl⟩) (by omega) (Nat.le_refl _)
   rw [if_neg (by omega)] at this
   exact this
  have hS2 : ∀ (G : Heap) (A rest : List Value), G b = some (.cells (A ++ rest) 1 (some t) false (some 3)) → ∀ k, k ≤ l.length → aSlice Tryz.prog G 22 (.slice (some ⟨b, 0, some t⟩) l.length l.length) none (some (.int .i64 k)) none = some (.slice (some ⟨b, 0, some t⟩) k k) := fun G A rest hG k hk => by
   have := aSlice_tagged (P := Tryz.prog) (H := G) (t := 22) (el := 3) (sz := 1) (a := ⟨b, 0, some t⟩) (len := l.length) (cap := l.length) (l := 0) (h := k) (tg := t) (lo := none) (hi := some (.int .i64 k)) (by exact rfl) (by exact rfl) hG rfl rfl rfl (.inl ⟨rfl, rfl⟩) (.inr ⟨.i64, rfl⟩) (Nat.zero_le _) hk
   simpa using this
  repeat (first | (refine OpsL.q (by first | exact omv | exact oasg | exact olen) ?_) | refine Trip.seq ?_ | refine Trip.ops ?_ | (refine OpsL.nil ?_; (change Trip _ _ _ _ _)))
  refine OpsL.lssF ?_
  repeat (refine OpsL.nil ?_; (change Trip _ _ _ _ _))
  refine Trip.ifF ?_
  repeat (first | refine OpsL.q (by exact oasg) ?_ | refine Trip.seq ?_ | refine Trip.ops ?_ | refine Trip.block ?_ | (refine Trip.skip ?_; (change Trip _ _ _ _ _)) | (refine OpsL.nil ?_; (change Trip _ _ _ _ _)))
  refine Trip.inv (fun (k : Nat) st => ∃ (tm : Nat → Value), st = ⟨tm, n, H, nx⟩ ∧ tm 0 = .slice (some ⟨b, 0, some t⟩) l.length l.length ∧ tm 3 = .int .i64 k ∧ 1 ≤ k ∧ k ≤ l.length ∧ ∀ i (h : i < l.length), 0 < i → i < k → l[i - 1] ≠ l[i]) (fun k => l.length - k) 1 ?_ ?_
  ·exact ⟨_, rfl, by simp [tmPut, *], by simp [tmPut], by omega, by omega, fun i h h0 h1 => by omega⟩
  ·clear e0
   rintro k st ⟨tm, rfl, e0, e3, hk1, hk2, hne⟩
   by_cases hlt : k < l.length
   ·repeat (first | (refine OpsL.q (by first | exact omv | exact olen) ?_) | refine Trip.seq ?_ | refine Trip.ops ?_)
    refine OpsL.lssT ?_
    repeat (refine OpsL.nil ?_; (change Trip _ _ _ _ _))
    refine Trip.ifT ?_
    repeat (first | refine Trip.seq ?_ | refine Trip.block ?_ | (refine Trip.skip ?_; (change Trip _ _ _ _ _)))
    have g1 := getc_flat enc1_len hH hlt
    have g2 := getc_flat enc1_len hH (show k - 1 < l.length by omega)
    refine Trip.mono (Q := fun e st => e = .normal ∧ ∃ (tm' : Nat → Value), st = ⟨tm', n, H, nx⟩ ∧ tm' 25 = .bool (decide (l[k] = l[k - 1])) ∧ tm' 0 = .slice (some ⟨b, 0, some t⟩) l.length l.length ∧ tm' 3 = .int .i64 k) ?_ ?_
    ·refine OpsK.drawn (K := fun _ _ => True) mixedO (by kernel_rfl) (by kernel_rfl) trivial ?_
     refine OpsK.one rfl (by kernel_rfl) ?_
     repeat (first | refine OpsL.q (by exact omv) ?_ | (refine OpsL.nil ?_; (skip)))
     refine OpsK.one rfl (by kernel_rfl) ?_
     repeat (first | refine OpsL.q (by exact omv) ?_ | (refine OpsL.nil ?_; (skip)))
     refine OpsK.one rfl (by kernel_rfl) ?_
     repeat (first | refine OpsL.q (by exact oixa) ?_ | (refine OpsL.nil ?_; (dsimp only)))
     refine OpsK.one rfl (by kernel_rfl) ?_
     refine OpsL.q (aop_load (v := .int .i64 l[k]) (by simp only [ASt.ev, tmPut, ↓reduceIte, Nat.reduceEqDiff, *]; rfl) (by exact rfl) rfl (by show getc H ⟨b, 0 + (k : Int).toNat * 1, some t⟩ 1 = _; rw [Int.toNat_natCast]; exact g1)) ?_
     repeat (refine OpsL.nil ?_; (skip))
     refine OpsK.one rfl (by kernel_rfl) ?_
     repeat (first | refine OpsL.q (by exact omv) ?_ | (refine OpsL.nil ?_; (skip)))
     refine OpsK.one rfl (by kernel_rfl) ?_
     repeat (first | refine OpsL.q (by exact omv) ?_ | (refine OpsL.nil ?_; (skip)))
     refine OpsK.one rfl (by kernel_rfl) ?_
     repeat (first | refine OpsL.q (by exact osub) ?_ | (refine OpsL.nil ?_; (skip)))
     refine OpsK.one rfl (by kernel_rfl) ?_
     repeat (first | refine OpsL.q (by exact oixa) ?_ | (refine OpsL.nil ?_; (dsimp only)))
     refine OpsK.one rfl (by kernel_rfl) ?_
     refine OpsL.q (aop_load (v := .int .i64 l[k - 1]) (by simp only [ASt.ev, tmPut, ↓reduceIte, Nat.reduceEqDiff, *]; rfl) (by exact rfl) rfl (by show getc H ⟨b, 0 + ((k : Int) - 1).toNat * 1, some t⟩ 1 = _; rw [show ((k : Int) - 1).toNat = k - 1 by omega]; exact g2)) ?_
     repeat (refine OpsL.nil ?_; (skip))
     refine OpsK.one rfl (by kernel_rfl) ?_
     refine OpsL.q (oeql) ?_
     repeat (refine OpsL.nil ?_; (skip))
     refine OpsK.nil ?_
     exact ⟨rfl, _, rfl, by simp [tmPut], by simp [tmPut, *], by simp [tmPut, *]⟩
    ·rintro e st ⟨rfl, tm', rfl, e25, e0, e3⟩
     dsimp only
     clear g1 g2
     by_cases heq : l[k] = l[k - 1]
     ·rw [decide_eq_true heq] at e25
      repeat fail
      refine Trip.ifT ?_
      repeat (first | refine OpsL.q (by exact omv) ?_ | refine Trip.seq ?_ | refine Trip.ops ?_)
      refine OpsL.q (aop_slice (a := some (.int .i64 k)) (b := none) (c := none) (by simp only [ASt.ev, tmPut, ↓reduceIte, Nat.reduceEqDiff, *]; done) (by simp only [evOpt, ASt.ev, tmPut, ↓reduceIte, reduceIte, Option.some.injEq, Nat.reduceEqDiff, Option.map_some, *]) rfl rfl (hS H _ _ hH k hlt)) ?_
      repeat (first | refine OpsL.q (by exact oasg) ?_ | refine Trip.seq ?_ | refine Trip.ops ?_ | refine Trip.block ?_ | (refine OpsL.nil ?_; (change Trip _ _ _ _ _)))
      have hd0 : dedF (l.take (k + 1)) = l.take k := by
       rw [dedF_take l (by omega) hlt, if_pos heq.symm]
       exact dedF_same l k (by omega) (fun i hi a c => hne i hi a c)
      refine Trip.inv (fun (k2 : Nat) st => ∃ (tm : Nat → Value) (H' : Heap) (A : List (Int)) (rest : List Value) (kk : Nat), st = ⟨tm, n, H', nx⟩ ∧ H' b = some (.cells (A.flatMap enc1 ++ rest) 1 (some t) false (some 3)) ∧ A.length = l.length ∧ (∀ i, i ≠ b → H' i = H i) ∧ tm 0 = .slice (some ⟨b, 0, some t⟩) l.length l.length ∧ tm 3 = .int .i64 kk ∧ tm 4 = .slice (some ⟨b, 0 + k * 1, some t⟩) (l.length - k) (l.length - k) ∧ tm 5 = .int .i64 k2 ∧
       1 ≤ kk ∧ kk ≤ k + k2 - 1 ∧ 1 ≤ k2 ∧ k2 ≤ l.length - k ∧ A.take kk = dedF (l.take (k + k2)) ∧ A.drop (k + k2 - 1) = l.drop (k + k2 - 1)) (fun k2 => l.length - k - k2) 1 ?_ ?_
      ·exact ⟨_, H, l, rest, k, rfl, hH, rfl, fun _ _ => rfl, by simp [tmPut, *], by simp [tmPut, *], by simp [tmPut, *], by simp [tmPut, *], by omega, by omega, by omega, by omega, hd0.symm, rfl⟩
      ·clear e0 e3 e25
       rintro k2 st ⟨tm, H', A, rest', kk, rfl, hG, hAl, hsame, e0, e3, e4, e5, k1, k3, k4, k5, hta, hda⟩
       by_cases hlt2 : k + k2 < l.length
       ·have hA1 : A[k + k2]'(by omega) = l[k + k2] := by
         have : (A.drop (k + k2 - 1))[1]? = (l.drop (k + k2 - 1))[1]? := by rw [hda]
         rw [List.getElem?_drop, List.getElem?_drop, show k + k2 - 1 + 1 = k + k2 by omega, List.getElem?_eq_getElem (by omega), List.getElem?_eq_getElem hlt2] at this
         exact Option.some.inj this
        have hA2 : A[k + k2 - 1]'(by omega) = l[k + k2 - 1] := by
         have : (A.drop (k + k2 - 1))[0]? = (l.drop (k + k2 - 1))[0]? := by rw [hda]
         rw [List.getElem?_drop, List.getElem?_drop, Nat.add_zero, List.getElem?_eq_getElem (by omega), List.getElem?_eq_getElem (by omega)] at this
         exact Option.some.inj this
        have hstep := dedF_take l (m := k + k2) (by omega) hlt2
        have hdn : A.drop (k + (k2 + 1) - 1) = l.drop (k + (k2 + 1) - 1) := by
         have := congrArg (List.drop 1) hda
         rw [List.drop_drop, List.drop_drop] at this
         rw [show k + (k2 + 1) - 1 = k + k2 - 1 + 1 by omega]; exact this
        have g1 := getc_flat enc1_len hG (show k + k2 < A.length by omega)
        have g2 := getc_flat enc1_len hG (show k + k2 - 1 < A.length by omega)
        rw [hA1] at g1
        rw [hA2] at g2
        replace g1 : getc H' ⟨b, 0 + k * 1 + (k2 : Int).toNat * 1, some t⟩ 1 = some (enc1 l[k + k2]) := by
         rw [Int.toNat_natCast, show 0 + k * 1 + k2 * 1 = 0 + (k + k2) * 1 by omega]; exact g1
        replace g2 : getc H' ⟨b, 0 + k * 1 + ((k2 : Int) - 1).toNat * 1, some t⟩ 1 = some (enc1 l[k + k2 - 1]) := by
         rw [show 0 + k * 1 + ((k2 : Int) - 1).toNat * 1 = 0 + (k + k2 - 1) * 1 by omega]; exact g2
        repeat (first | (refine OpsL.q (by first | exact omv | exact olen) ?_) | refine Trip.seq ?_ | refine Trip.ops ?_)
        refine OpsL.lssT ?_
        repeat (refine OpsL.nil ?_; (change Trip _ _ _ _ _))
        refine Trip.ifT ?_
        repeat (first | refine Trip.seq ?_ | refine Trip.block ?_ | (refine Trip.skip ?_; (change Trip _ _ _ _ _)))
        refine Trip.mono (Q := fun e st => e = .normal ∧ ∃ (tm' : Nat → Value), st = ⟨tm', n, H', nx⟩ ∧ tm' 44 = .bool (decide (l[k + k2] ≠ l[k + k2 - 1])) ∧ tm' 0 = .slice (some ⟨b, 0, some t⟩) l.length l.length ∧ tm' 3 = .int .i64 kk ∧ tm' 4 = .slice (some ⟨b, 0 + k * 1, some t⟩) (l.length - k) (l.length - k) ∧ tm' 5 = .int .i64 k2) ?_ ?_
        ·refine OpsK.drawn (K := fun _ _ => True) mixedO (by kernel_rfl) (by kernel_rfl) trivial ?_
         refine OpsK.one rfl (by kernel_rfl) ?_
         repeat (first | refine OpsL.q (by exact omv) ?_ | (refine OpsL.nil ?_; (skip)))
         refine OpsK.one rfl (by kernel_rfl) ?_
         repeat (first | refine OpsL.q (by exact omv) ?_ | (refine OpsL.nil ?_; (skip)))
         refine OpsK.one rfl (by kernel_rfl) ?_
         repeat (first | refine OpsL.q (by exact oixa) ?_ | (refine OpsL.nil ?_; (dsimp only)))
         refine OpsK.one rfl (by kernel_rfl) ?_
         refine OpsL.q (aop_load (v := .int .i64 l[k + k2]) (by simp only [ASt.ev, tmPut, ↓reduceIte, Nat.reduceEqDiff, *]; rfl) (by exact rfl) rfl g1) ?_
         repeat (refine OpsL.nil ?_; (skip))
         refine OpsK.one rfl (by kernel_rfl) ?_
         repeat (first | refine OpsL.q (by exact omv) ?_ | (refine OpsL.nil ?_; (skip)))
         refine OpsK.one rfl (by kernel_rfl) ?_
         repeat (first | refine OpsL.q (by exact omv) ?_ | (refine OpsL.nil ?_; (skip)))
         refine OpsK.one rfl (by kernel_rfl) ?_
         repeat (first | refine OpsL.q (by exact osub) ?_ | (refine OpsL.nil ?_; (skip)))
         refine OpsK.one rfl (by kernel_rfl) ?_
         repeat (first | refine OpsL.q (by exact oixa) ?_ | (refine OpsL.nil ?_; (dsimp only)))
         refine OpsK.one rfl (by kernel_rfl) ?_
         refine OpsL.q (aop_load (v := .int .i64 l[k + k2 - 1]) (by simp only [ASt.ev, tmPut, ↓reduceIte, Nat.reduceEqDiff, *]; rfl) (by exact rfl) rfl g2) ?_
         repeat (refine OpsL.nil ?_; (skip))
         refine OpsK.one rfl (by kernel_rfl) ?_
         refine OpsL.q (oneq) ?_
         repeat (refine OpsL.nil ?_; (skip))
         refine OpsK.nil ?_
         exact ⟨rfl, _, rfl, by simp [tmPut], by simp [tmPut, *], by simp [tmPut, *], by simp [tmPut, *], by simp [tmPut, *]⟩
        ·rintro e st ⟨rfl, tm', rfl, e44, e0, e3, e4, e5⟩
         dsimp only
         by_cases he2 : l[k + k2] = l[k + k2 - 1]
         ·rw [decide_eq_false (fun h => h he2)] at e44
          rw [if_pos he2.symm] at hstep
          repeat fail
          refine Trip.ifF ?_
          repeat (first | (refine OpsL.q (by first | exact omv | exact oasg | exact oadd) ?_) | refine Trip.ops ?_ | (refine Trip.skip ?_; ((repeat (refine blockExit_normal ?_)); change Trip _ _ _ _ _)) | (refine OpsL.nil ?_; (dsimp only)))
          exact ⟨k2 + 1, ⟨_, H', A, rest', kk, rfl, hG, hAl, hsame, by simp [tmPut, *], by simp [tmPut, *], by simp [tmPut, *], by simp [tmPut, *], k1, by omega, by omega, by omega, by rw [hta, ← hstep]; rfl, hdn⟩, by omega⟩
         ·rw [decide_eq_true he2] at e44
          rw [if_neg (fun h => he2 h.symm)] at hstep
          repeat fail
          refine Trip.ifT ?_
          repeat (first | (refine OpsL.q (by first | exact omv | exact oixa | exact old) ?_) | refine Trip.seq ?_ | refine Trip.ops ?_)
          refine OpsL.upd (aop_store (u := .int .i64 l[k + k2]) (o := .cells ((A.set kk l[k + k2]).flatMap enc1 ++ rest') 1 (some t) false (some 3)) (by simp only [ASt.ev, tmPut, ↓reduceIte, Nat.reduceEqDiff, *]; rfl) (by simp only [ASt.ev, tmPut, ↓reduceIte, Nat.reduceEqDiff, *]; done) (by exact rfl) rfl (by
           have := setc_flat (x := l[k + k2]) enc1_len enc1_one hG (show kk < A.length by omega)
           show setc H' ⟨b, 0 + (kk : Int).toNat * 1, some t⟩ (enc1 l[k + k2]) = _
           rw [Int.toNat_natCast]; exact this)) ?_
          repeat (first | (refine OpsL.q (by first | exact omv | exact oasg | exact oadd) ?_) | refine Trip.ops ?_ | (refine OpsL.nil ?_; ((repeat (refine blockExit_normal ?_)); first | (change Trip _ _ _ _ _) | (dsimp only))))
          refine ⟨k2 + 1, ⟨_, _, A.set kk l[k + k2], rest', kk + 1, rfl, Heap.put_eq, by rw [List.length_set]; exact hAl, fun i hi => by show Heap.put H' b _ i = _; rw [Heap.put_ne hi]; exact hsame i hi, by simp [tmPut, *], by simp [tmPut, *], by simp [tmPut, *], by simp [tmPut, *], by omega, by omega, by omega, by omega, ?_, ?_⟩, by omega⟩
          ·rw [show k + (k2 + 1) = k + k2 + 1 by omega, hstep, ← hta, List.take_add_one, List.getElem?_set_self (by omega), List.take_set_of_le (Nat.le_refl _)]
           rfl
          ·rw [List.drop_set_of_lt (by omega)]
           exact hdn
       ·have hk2 : k2 = l.length - k := by omega
        rw [show k + k2 = l.length by omega, List.take_length] at hta
        repeat (first | (refine OpsL.q (by first | exact omv | exact olen) ?_) | refine Trip.seq ?_ | refine Trip.ops ?_)
        refine OpsL.lssF ?_
        repeat (refine OpsL.nil ?_; (change Trip _ _ _ _ _))
        refine Trip.ifF ?_
        repeat (first | refine OpsL.q (by exact omv) ?_ | refine Trip.seq ?_ | refine Trip.ops ?_ | (refine Trip.exit ?_; ((repeat (refine blockExit_eq ?_)); change Trip _ _ _ _ _)))
        refine OpsL.q (aop_slice (a := some (.int .i64 kk)) (b := none) (c := none) (by simp only [ASt.ev, tmPut, ↓reduceIte, Nat.reduceEqDiff, *]; done) (by simp only [evOpt, ASt.ev, tmPut, ↓reduceIte, reduceIte, Option.some.injEq, Nat.reduceEqDiff, Option.map_some, *]) rfl rfl (hS H' _ _ hG kk (by omega))) ?_
        obtain ⟨rest2, hend⟩ := setc_end (k := kk) (z := [.int .i64 0]) enc1_len rfl rfl hG (by omega)
        rw [hAl, hta] at hend
        refine OpsL.clear (z := [.int .i64 0]) (by simp only [ASt.ev, tmPut, ↓reduceIte, Nat.reduceEqDiff, *]; rfl) (by exact rfl) (by exact rfl) (by omega) hend ?_
        repeat (first | refine OpsL.q (by exact omv) ?_ | refine Trip.seq ?_ | refine Trip.ops ?_ | (refine OpsL.nil ?_; (change Trip _ _ _ _ _)))
        have hlen : (dedF l).length = kk := by rw [← hta, List.length_take]; omega
        refine OpsL.q (aop_slice (a := none) (b := some (.int .i64 kk)) (c := none) (by simp only [ASt.ev, tmPut, ↓reduceIte, Nat.reduceEqDiff, *]; done) rfl (by simp only [evOpt, ASt.ev, tmPut, ↓reduceIte, reduceIte, Option.some.injEq, Nat.reduceEqDiff, Option.map_some, *]) rfl (hS2 _ _ rest2 Heap.put_eq kk (by omega))) ?_
        repeat (first | refine OpsL.q (by exact oasg) ?_ | (refine Trip.ret ?_; ((repeat (refine blockExit_ret ?_)); dsimp only)) | (refine OpsL.nil ?_; (change Trip _ _ _ _ _)))
        refine ⟨.inr rfl, _, res_tmp, rfl, ?_, fun i hi => ?_⟩
        ·refine ⟨by simp [tmPut, hlen], by rw [flat_len enc1_len], rest2, Heap.put_eq⟩
        ·show Heap.put H' b _ i = _
         rw [Heap.put_ne (hi b t rfl)]
         exact hsame i (hi b t rfl)
     ·rw [decide_eq_false heq] at e25
      repeat fail
      refine Trip.ifF ?_
      repeat (first | (refine OpsL.q (by first | exact omv | exact oasg | exact oadd) ?_) | refine Trip.ops ?_ | (refine Trip.skip ?_; ((repeat (refine blockExit_normal ?_)); change Trip _ _ _ _ _)) | (refine OpsL.nil ?_; (dsimp only)))
      refine ⟨k + 1, ⟨_, rfl, by simp [tmPut, *], by simp [tmPut, *], by omega, by omega, fun i hi h0 h1 => ?_⟩, by omega⟩
      by_cases hik : i = k
      ·subst hik
       exact fun hh => heq hh.symm
      ·exact hne i hi h0 (by omega)
   ·repeat (first | (refine OpsL.q (by first | exact omv | exact olen) ?_) | refine Trip.seq ?_ | refine Trip.ops ?_)
    refine OpsL.lssF ?_
    repeat (refine OpsL.nil ?_; (change Trip _ _ _ _ _))
    refine Trip.ifF ?_
    repeat (first | (refine OpsL.q (by first | exact omv | exact oasg) ?_) | refine Trip.seq ?_ | refine Trip.ops ?_ | (refine Trip.exit ?_; ((repeat (refine blockExit_eq ?_)); change Trip _ _ _ _ _)) | (refine Trip.ret ?_; (dsimp only)) | (refine OpsL.nil ?_; (change Trip _ _ _ _ _)))
    have hd := dedF_same l l.length (Nat.le_refl _) (fun i hi a c => hne i hi a (by omega))
    rw [List.take_length] at hd
    refine ⟨.inr rfl, _, res_tmp, rfl, ?_, fun _ _ => rfl⟩
    rw [hd]
    exact ⟨by simp [tmPut, *], by rw [flat_len enc1_len], rest, hH⟩
end Go.Proofs.YtjohiaoepbnicaaGreat
namespace Go.Proofs.YtjohiaoepbnicaaGreat
set_option linter.unusedSimpArgs false
set_option linter.unusedVariables false
open Go.RowKit Go.Am
attribute [local irreducible] aop OpsL Trip blockExit OpsD OpsK OpsR
theorem entersTidyI : Am.Enters Tryz.prog 45 := ⟨Tryz.f45, Tryz.func45, by kernel_rfl, by kernel_rfl⟩
theorem sortOwnI (W0 : World) {nx : Nat} {H : Heap} {ob : Option (Nat × Nat)} {v : Value} {l : List (Int)} (h : OwnI H ob v l) (hl : l.length ≤ 1000000) :
  ACalls Tryz.prog W0 65 [v, .func (.func 46) #[] #[]] nx H fun _ nx' H' => nx' = nx ∧ ∃ l' : List (Int), l'.Perm l ∧ SortedL lt1 l' ∧ OwnI H' ob v l' ∧ ∀ i, (∀ b t, ob = some (b, t) → i ≠ b) → H' i = H i := by
 cases ob with
 | none =>
  obtain ⟨rfl, _, hl0⟩ := h
  have hnil : l = [] := List.eq_nil_of_length_eq_zero hl0
  subst hnil
  intro C w args' hR ha
  obtain ⟨h1, h2⟩ := ha
  obtain ⟨v1, v2, rfl⟩ : ∃ v1 v2, args' = [v1, v2] := by
   match args', h1 with
   | [v1, v2], _ => exact ⟨v1, v2, rfl⟩
  have hv1 := h2 0 (by simp) (by simp)
  simp only [List.getElem_cons_zero] at hv1
  obtain rfl : v1 = .slice none 0 0 := by cases hv1; rfl
  refine (AnyF.slices_SortFunc_none { sortIL with } none 0 v2 w).mono ?_
  rintro e w' ⟨rfl, rfl⟩
  exact ⟨_, _, C, nx, H, rfl, ⟨rfl, [], List.Perm.refl _, List.Pairwise.nil, ⟨rfl, rfl, rfl⟩, fun _ _ => rfl⟩, hR, .tuple #[] #[] rfl (fun i h => absurd h (by simp)), Stp.refl _ _ _⟩
 | some bt =>
  obtain ⟨b, t⟩ := bt
  obtain ⟨rfl, _, rest, hH⟩ := h
  rw [enc1_flat] at hH
  refine ACalls.weaken (sortIC W0 hH (by omega)) ?_
  rintro v nx' H' ⟨_, rfl, l', hp, hs, rfl⟩
  refine ⟨rfl, l', hp, hs, ⟨by rw [hp.length_eq], by rw [flat_len enc1_len], rest, by rw [enc1_flat]; exact Heap.put_eq⟩, fun i hi => Heap.put_ne (hi b t rfl)⟩
set_option maxRecDepth 20000 in
set_option maxHeartbeats 4000000 in
theorem tidyIC (W0 : World) {nx : Nat} {H : Heap} {v : Value} {l : List Int} (hr : AtI H v l) (hm : l.length ≤ 100000) :
  ACalls Tryz.prog W0 45 [v, .func (.func 46) #[] #[]] nx H fun v nx' H' => ∃ ob, OwnI H' ob v (tidyL lt1 l) ∧ Fresh nx H nx' H' ob := by
 refine ACalls.by_trip (fn := Tryz.f45) (c := _) Tryz.func45 rfl (fun tm n hn0 htm => ?_)
 have e0 : tm 0 = v := htm 0
 have e1 : tm 1 = .func (.func 46) #[] #[] := htm 1
 clear htm
 replace hn0 : n = 13 := hn0
 refine Trip.ok fun hok => ?_
 replace hok : ∀ id o, H id = some o → id < nx := hok
 obtain ⟨va, vc, rfl⟩ := hr.slice
 repeat (first | (refine OpsL.q (by first | exact omv | exact oasg) ?_) | refine Trip.seq ?_ | refine Trip.ops ?_ | (refine OpsL.nil ?_; (change Trip _ _ _ _ _)))
 refine OpsL.new (by subst_vars; decide) (aop_buildSlice (l := [(0, .slice va l.length vc)]) (r := (.slice (some ⟨nx, 0, none⟩) 1 1, .new (.cells [.slice va l.length vc] 1 none false (some 22)))) (by simp only [evParts, ASt.ev, tmPut, ↓reduceIte, reduceIte, Option.some.injEq, Nat.reduceEqDiff, *]) (by kernel_rfl)) ?_
 have hx0 : Ext nx H (nx + 1) (H.put nx (.cells [.slice va l.length vc] 1 none false (some 22))) := Ext.newPut
 have hin : RowsInI (H.put nx (.cells [.slice va l.length vc] 1 none false (some 22))) (.slice (some ⟨nx, 0, none⟩) 1 1) [(.slice va l.length vc, l)] := ⟨nx, rfl, Heap.put_eq, fun x hx => by rw [List.mem_singleton] at hx; subst hx; exact hr.ext hx0 hok⟩
 have hall : allOfI [(Value.slice va l.length vc, l)] = l := by simp [allOfI]
 refine OpsL.c1 (hf := entersConcI) (hc := (concIC W0 hin (by rw [hall]; exact hm) (by simp))) (h := ?_)
 rintro v1 nx1 H1 ⟨ob, ho1, hx1, hob1⟩
 rw [hall] at ho1
 repeat (first | (refine OpsL.q (by first | exact omv | exact oasg) ?_) | refine Trip.seq ?_ | refine Trip.ops ?_ | (refine OpsL.nil ?_; (change Trip _ _ _ _ _)))
 refine OpsL.c2 (hf := entersSortI) (hc := (sortOwnI W0 ho1 (by omega))) (h := ?_)
 rintro v2 nx2 H2 ⟨rfl, l', hp, hs, ho2, hsame2⟩
 repeat (first | refine OpsL.q (by exact omv) ?_ | refine Trip.seq ?_ | refine Trip.ops ?_ | (refine OpsL.nil ?_; (change Trip _ _ _ _ _)))
 refine OpsL.c1 (hf := entersCompI) (hc := (compIC W0 ho2 (by rw [hp.length_eq]; omega))) (h := ?_)
 rintro v3 nx3 H3 ⟨rfl, ho3, hsame3⟩
 repeat (first | refine OpsL.q (by exact oasg) ?_ | (refine Trip.ret ?_; (dsimp only)) | (refine OpsL.nil ?_; (change Trip _ _ _ _ _)))
 have heq := tidyL_eq ord1 (strictL_ded ord1 l' hs) (fun x => by rw [dedF_mem, hp.mem_iff] : ∀ x, x ∈ dedF l' ↔ x ∈ l)
 rw [heq] at ho3
 refine ⟨.inr rfl, _, res_tmp, ob, by simpa [tmPut] using ho3, hx0.trans ⟨hx1.1, fun i hi => ?_⟩, fun b t h => by have := hob1 b t h; omega⟩
 rw [hsame3 i (fun b t h => by have := (hob1 b t h).1; omega), hsame2 i (fun b t h => by have := (hob1 b t h).1; omega), hx1.2 i hi]
end Go.Proofs.YtjohiaoepbnicaaGreat
namespace Go.Am
set_option linter.unusedSimpArgs false
set_option linter.unusedVariables false
open Go.RowKit
def SepB (base A nx : Nat) (l : List (Option (Nat × Nat))) : Prop :=
 (∀ (j b t : Nat), l[j]? = some (some (b, t)) → base ≤ b ∧ b ≠ A ∧ b < nx) ∧ ∀ (j k b t b' t' : Nat), j ≠ k → l[j]? = some (some (b, t)) → l[k]? = some (some (b', t')) → b ≠ b'
theorem SepB.set {base A nx nx' : Nat} {l : List (Option (Nat × Nat))} (h : SepB base A nx l) (hb0 : base ≤ nx) (hA : A < nx) (hle : nx ≤ nx') {j b t : Nat} (hb : nx ≤ b ∨ ∃ t0, l[j]? = some (some (b, t0))) (hlt : b < nx') : SepB base A nx' (l.set j (some (b, t))) := by
 have hfor : ∀ (k b' t' : Nat), (l.set j (some (b, t)))[k]? = some (some (b', t')) → (k = j ∧ b' = b) ∨ (k ≠ j ∧ l[k]? = some (some (b', t'))) := fun k b' t' hk => by
  rw [List.getElem?_set] at hk
  split at hk
  ·rename_i e
   split at hk
   ·cases hk; exact .inl ⟨e.symm, rfl⟩
   ·cases hk
  ·rename_i e; exact .inr ⟨fun e' => e e'.symm, hk⟩
 have hbA : base ≤ b ∧ b ≠ A := by
  rcases hb with hb | ⟨t0, hb⟩
  ·exact ⟨by omega, by omega⟩
  ·have := h.1 _ _ _ hb; exact ⟨this.1, this.2.1⟩
 refine ⟨fun k b' t' hk => ?_, fun k1 k2 b1 t1 b2 t2 hne h1 h2 => ?_⟩
 ·rcases hfor _ _ _ hk with ⟨_, rfl⟩ | ⟨_, hk⟩
  ·exact ⟨hbA.1, hbA.2, hlt⟩
  ·have := h.1 _ _ _ hk; exact ⟨this.1, this.2.1, by omega⟩
 ·rcases hfor _ _ _ h1 with ⟨e1, q1⟩ | ⟨e1, g1⟩
  ·rcases hfor _ _ _ h2 with ⟨e2, q2⟩ | ⟨e2, g2⟩
   ·exact absurd (e1.trans e2.symm) hne
   ·rw [q1]
    rcases hb with hb | ⟨t0, hb⟩
    ·have := h.1 _ _ _ g2; omega
    ·exact h.2 _ _ _ _ _ _ (fun e => e2 e.symm) hb g2
  ·rcases hfor _ _ _ h2 with ⟨e2, q2⟩ | ⟨e2, g2⟩
   ·rw [q2]
    rcases hb with hb | ⟨t0, hb⟩
    ·have := h.1 _ _ _ g1; omega
    ·exact h.2 _ _ _ _ _ _ e1 g1 hb
   ·exact h.2 _ _ _ _ _ _ hne g1 g2
theorem SepB.up {base A nx nx' : Nat} {l : List (Option (Nat × Nat))} (h : SepB base A nx l) (hle : nx ≤ nx') : SepB base A nx' l :=
 ⟨fun j b t hj => by have := h.1 j b t hj; exact ⟨this.1, this.2.1, by omega⟩, h.2⟩
theorem OwnRow.same {H H' : Heap} {ob : Option (Nat × Nat)} {el : TypeId} {sz k : Nat} {v : Value} {cs : List Value} (hs : ∀ b t, ob = some (b, t) → H' b = H b) (h : OwnRow H ob el sz v cs k) : OwnRow H' ob el sz v cs k := by
 cases ob with
 | none => exact h
 | some bt =>
  obtain ⟨b, t⟩ := bt
  obtain ⟨h1, h2, rest, h3⟩ := h
  exact ⟨h1, h2, rest, by rw [hs b t rfl]; exact h3⟩
theorem frameB {base A nx : Nat} {l : List (Option (Nat × Nat))} {H H1 : Heap} {o : AObj} {j : Nat} {old : Option (Nat × Nat)} (hs : SepB base A nx l) (hj : l[j]? = some old) (same : ∀ i, i < nx → (∀ b t, old = some (b, t) → i ≠ b) → H1 i = H i) :
  ∀ (k : Nat) (ob : Option (Nat × Nat)), k ≠ j → l[k]? = some ob → ∀ b t, ob = some (b, t) → (H1.put A o) b = H b := fun k ob hk hl b t hb => by
 subst hb
 have h1 := hs.1 k b t hl
 rw [Heap.put_ne h1.2.1]
 refine same b h1.2.2 fun b' t' e => ?_
 subst e
 exact hs.2 k j b t b' t' hk hl hj
end Go.Am
namespace Go.Proofs.YtjohiaoepbnicaaGreat
set_option linter.unusedSimpArgs false
set_option linter.unusedVariables false
open Go.Am Go.RowKit
structure MkIn (H : Heap) (base A nx : Nat) (a : Aut) (l : List (Option (Nat × Nat))) (vi vf vo vc vn : Value) : Prop where
 cell : H A = some (.cells (autV a vi vf vo vc vn) 0 none false (some 30))
 len : l.length = 5
 init : ∃ b, l[0]? = some b ∧ AppI H b 3 vi a.init
 final : ∃ b, l[1]? = some b ∧ OwnInts H b 3 vf a.final
 opens : ∃ b, l[2]? = some b ∧ OwnOf e4 4 44 H b vo a.opens
 closes : ∃ b, l[3]? = some b ∧ OwnOf e4 4 46 H b vc a.closes
 inners : ∃ b, l[4]? = some b ∧ OwnOf e3 3 48 H b vn a.inners
 sep : SepB base A nx l
 hA : A < nx
 hb : base ≤ nx
theorem MkIn.in {H : Heap} {base A nx : Nat} {a : Aut} {l : List (Option (Nat × Nat))} {vi vf vo vc vn : Value} (h : MkIn H base A nx a l vi vf vo vc vn) : AutIn H a vi vf vo vc vn := by
 obtain ⟨_, _, h1⟩ := h.init
 obtain ⟨_, _, h2⟩ := h.final
 obtain ⟨_, _, h3⟩ := h.opens
 obtain ⟨_, _, h4⟩ := h.closes
 obtain ⟨_, _, h5⟩ := h.inners
 exact ⟨h1.at, h2.at, h3.at e4_len, h4.at e4_len, h5.at e3_len⟩
theorem MkIn.ext {H H' : Heap} {base A nx nx' : Nat} {a : Aut} {l : List (Option (Nat × Nat))} {vi vf vo vc vn : Value} (h : MkIn H base A nx a l vi vf vo vc vn) (hx : Ext nx H nx' H') : MkIn H' base A nx' a l vi vf vo vc vn := by
 have hs : ∀ (k : Nat) (ob : Option (Nat × Nat)), l[k]? = some ob → ∀ b t, ob = some (b, t) → H' b = H b := fun k ob hl b t e => by
  subst e
  exact hx.2 b (h.sep.1 k b t hl).2.2
 refine ⟨by rw [hx.2 A h.hA]; exact h.cell, h.len, ?_, ?_, ?_, ?_, ?_, h.sep.up hx.1, by have := h.hA; have := hx.1; omega, by have := h.hb; have := hx.1; omega⟩
 ·obtain ⟨b, h1, h2⟩ := h.init; exact ⟨b, h1, AppI.same (hs _ _ h1) h2⟩
 ·obtain ⟨b, h1, h2⟩ := h.final; exact ⟨b, h1, OwnRow.same (hs _ _ h1) h2⟩
 ·obtain ⟨b, h1, h2⟩ := h.opens; exact ⟨b, h1, OwnRow.same (hs _ _ h1) h2⟩
 ·obtain ⟨b, h1, h2⟩ := h.closes; exact ⟨b, h1, OwnRow.same (hs _ _ h1) h2⟩
 ·obtain ⟨b, h1, h2⟩ := h.inners; exact ⟨b, h1, OwnRow.same (hs _ _ h1) h2⟩
theorem MkIn.putI {H H1 : Heap} {base A nx nx1 : Nat} {a : Aut} {l : List (Option (Nat × Nat))} {vi vf vo vc vn v' : Value} {p : Int} {old : Option (Nat × Nat)} {b1 t1 : Nat} (h : MkIn H base A nx a l vi vf vo vc vn) (hj : l[0]? = some old)
  (hown : AppI H1 (some (b1, t1)) 3 v' (a.init ++ [p])) (hblk : nx ≤ b1 ∨ ∃ t, old = some (b1, t)) (hlt : b1 < nx1) (hle : nx ≤ nx1) (same : ∀ i, i < nx → (∀ b t, old = some (b, t) → i ≠ b) → H1 i = H i) :
  MkIn (H1.put A (.cells (autV (Go.Am.putI a p) v' vf vo vc vn) 0 none false (some 30))) base A nx1 (Go.Am.putI a p) (l.set 0 (some (b1, t1))) v' vf vo vc vn := by
 have hlen := h.len
 have hfr := frameB (o := .cells (autV (Go.Am.putI a p) v' vf vo vc vn) 0 none false (some 30)) h.sep hj same
 have hA := h.hA
 have hset : ∀ (k : Nat) (ob : Option (Nat × Nat)), k ≠ 0 → l[k]? = some ob → (l.set 0 (some (b1, t1)))[k]? = some ob := fun k ob hk hl => by
  rw [List.getElem?_set_ne (fun e => hk e.symm), hl]
 have hbA : b1 ≠ A := by
  rcases hblk with hb | ⟨t, hb⟩
  ·omega
  ·rw [hb] at hj; exact (h.sep.1 _ _ _ hj).2.1
 refine ⟨Heap.put_eq, by simp [hlen], ?_, ?_, ?_, ?_, ?_, h.sep.set h.hb hA hle (by rcases hblk with hb | ⟨t, hb⟩; exact .inl hb; exact .inr ⟨t, by rw [hj, hb]⟩) hlt, by omega, by have := h.hb; omega⟩
 ·exact ⟨_, by rw [List.getElem?_set_self (by omega)], AppI.same (fun b t e => by cases e; exact Heap.put_ne hbA) hown⟩
 ·obtain ⟨b, h1, h2⟩ := h.final; exact ⟨b, hset _ _ (by omega) h1, OwnRow.same (hfr _ _ (by omega) h1) h2⟩
 ·obtain ⟨b, h1, h2⟩ := h.opens; exact ⟨b, hset _ _ (by omega) h1, OwnRow.same (hfr _ _ (by omega) h1) h2⟩
 ·obtain ⟨b, h1, h2⟩ := h.closes; exact ⟨b, hset _ _ (by omega) h1, OwnRow.same (hfr _ _ (by omega) h1) h2⟩
 ·obtain ⟨b, h1, h2⟩ := h.inners; exact ⟨b, hset _ _ (by omega) h1, OwnRow.same (hfr _ _ (by omega) h1) h2⟩
theorem MkIn.putF {H H1 : Heap} {base A nx nx1 : Nat} {a : Aut} {l : List (Option (Nat × Nat))} {vi vf vo vc vn v' : Value} {p : Int} {old : Option (Nat × Nat)} {b1 t1 : Nat} (h : MkIn H base A nx a l vi vf vo vc vn) (hj : l[1]? = some old)
  (hown : OwnInts H1 (some (b1, t1)) 3 v' (a.final ++ [p])) (hblk : nx ≤ b1 ∨ ∃ t, old = some (b1, t)) (hlt : b1 < nx1) (hle : nx ≤ nx1) (same : ∀ i, i < nx → (∀ b t, old = some (b, t) → i ≠ b) → H1 i = H i) :
  MkIn (H1.put A (.cells (autV (Go.Am.putF a p) vi v' vo vc vn) 0 none false (some 30))) base A nx1 (Go.Am.putF a p) (l.set 1 (some (b1, t1))) vi v' vo vc vn := by
 have hlen := h.len
 have hfr := frameB (o := .cells (autV (Go.Am.putF a p) vi v' vo vc vn) 0 none false (some 30)) h.sep hj same
 have hA := h.hA
 have hset : ∀ (k : Nat) (ob : Option (Nat × Nat)), k ≠ 1 → l[k]? = some ob → (l.set 1 (some (b1, t1)))[k]? = some ob := fun k ob hk hl => by
  rw [List.getElem?_set_ne (fun e => hk e.symm), hl]
 have hbA : b1 ≠ A := by
  rcases hblk with hb | ⟨t, hb⟩
  ·omega
  ·rw [hb] at hj; exact (h.sep.1 _ _ _ hj).2.1
 refine ⟨Heap.put_eq, by simp [hlen], ?_, ?_, ?_, ?_, ?_, h.sep.set h.hb hA hle (by rcases hblk with hb | ⟨t, hb⟩; exact .inl hb; exact .inr ⟨t, by rw [hj, hb]⟩) hlt, by omega, by have := h.hb; omega⟩
 ·obtain ⟨b, h1, h2⟩ := h.init; exact ⟨b, hset _ _ (by omega) h1, AppI.same (hfr _ _ (by omega) h1) h2⟩
 ·exact ⟨_, by rw [List.getElem?_set_self (by omega)], OwnRow.same (fun b t e => by cases e; exact Heap.put_ne hbA) hown⟩
 ·obtain ⟨b, h1, h2⟩ := h.opens; exact ⟨b, hset _ _ (by omega) h1, OwnRow.same (hfr _ _ (by omega) h1) h2⟩
 ·obtain ⟨b, h1, h2⟩ := h.closes; exact ⟨b, hset _ _ (by omega) h1, OwnRow.same (hfr _ _ (by omega) h1) h2⟩
 ·obtain ⟨b, h1, h2⟩ := h.inners; exact ⟨b, hset _ _ (by omega) h1, OwnRow.same (hfr _ _ (by omega) h1) h2⟩
theorem MkIn.putO {H H1 : Heap} {base A nx nx1 : Nat} {a : Aut} {l : List (Option (Nat × Nat))} {vi vf vo vc vn v' : Value} {p : R4} {old : Option (Nat × Nat)} {b1 t1 : Nat} (h : MkIn H base A nx a l vi vf vo vc vn) (hj : l[2]? = some old)
  (hown : OwnOf e4 4 44 H1 (some (b1, t1)) v' (a.opens ++ [p])) (hblk : nx ≤ b1 ∨ ∃ t, old = some (b1, t)) (hlt : b1 < nx1) (hle : nx ≤ nx1) (same : ∀ i, i < nx → (∀ b t, old = some (b, t) → i ≠ b) → H1 i = H i) :
  MkIn (H1.put A (.cells (autV (Go.Am.putO a p) vi vf v' vc vn) 0 none false (some 30))) base A nx1 (Go.Am.putO a p) (l.set 2 (some (b1, t1))) vi vf v' vc vn := by
 have hlen := h.len
 have hfr := frameB (o := .cells (autV (Go.Am.putO a p) vi vf v' vc vn) 0 none false (some 30)) h.sep hj same
 have hA := h.hA
 have hset : ∀ (k : Nat) (ob : Option (Nat × Nat)), k ≠ 2 → l[k]? = some ob → (l.set 2 (some (b1, t1)))[k]? = some ob := fun k ob hk hl => by
  rw [List.getElem?_set_ne (fun e => hk e.symm), hl]
 have hbA : b1 ≠ A := by
  rcases hblk with hb | ⟨t, hb⟩
  ·omega
  ·rw [hb] at hj; exact (h.sep.1 _ _ _ hj).2.1
 refine ⟨Heap.put_eq, by simp [hlen], ?_, ?_, ?_, ?_, ?_, h.sep.set h.hb hA hle (by rcases hblk with hb | ⟨t, hb⟩; exact .inl hb; exact .inr ⟨t, by rw [hj, hb]⟩) hlt, by omega, by have := h.hb; omega⟩
 ·obtain ⟨b, h1, h2⟩ := h.init; exact ⟨b, hset _ _ (by omega) h1, AppI.same (hfr _ _ (by omega) h1) h2⟩
 ·obtain ⟨b, h1, h2⟩ := h.final; exact ⟨b, hset _ _ (by omega) h1, OwnRow.same (hfr _ _ (by omega) h1) h2⟩
 ·exact ⟨_, by rw [List.getElem?_set_self (by omega)], OwnRow.same (fun b t e => by cases e; exact Heap.put_ne hbA) hown⟩
 ·obtain ⟨b, h1, h2⟩ := h.closes; exact ⟨b, hset _ _ (by omega) h1, OwnRow.same (hfr _ _ (by omega) h1) h2⟩
 ·obtain ⟨b, h1, h2⟩ := h.inners; exact ⟨b, hset _ _ (by omega) h1, OwnRow.same (hfr _ _ (by omega) h1) h2⟩
theorem MkIn.putC {H H1 : Heap} {base A nx nx1 : Nat} {a : Aut} {l : List (Option (Nat × Nat))} {vi vf vo vc vn v' : Value} {p : R4} {old : Option (Nat × Nat)} {b1 t1 : Nat} (h : MkIn H base A nx a l vi vf vo vc vn) (hj : l[3]? = some old)
  (hown : OwnOf e4 4 46 H1 (some (b1, t1)) v' (a.closes ++ [p])) (hblk : nx ≤ b1 ∨ ∃ t, old = some (b1, t)) (hlt : b1 < nx1) (hle : nx ≤ nx1) (same : ∀ i, i < nx → (∀ b t, old = some (b, t) → i ≠ b) → H1 i = H i) :
  MkIn (H1.put A (.cells (autV (Go.Am.putC a p) vi vf vo v' vn) 0 none false (some 30))) base A nx1 (Go.Am.putC a p) (l.set 3 (some (b1, t1))) vi vf vo v' vn := by
 have hlen := h.len
 have hfr := frameB (o := .cells (autV (Go.Am.putC a p) vi vf vo v' vn) 0 none false (some 30)) h.sep hj same
 have hA := h.hA
 have hset : ∀ (k : Nat) (ob : Option (Nat × Nat)), k ≠ 3 → l[k]? = some ob → (l.set 3 (some (b1, t1)))[k]? = some ob := fun k ob hk hl => by
  rw [List.getElem?_set_ne (fun e => hk e.symm), hl]
 have hbA : b1 ≠ A := by
  rcases hblk with hb | ⟨t, hb⟩
  ·omega
  ·rw [hb] at hj; exact (h.sep.1 _ _ _ hj).2.1
 refine ⟨Heap.put_eq, by simp [hlen], ?_, ?_, ?_, ?_, ?_, h.sep.set h.hb hA hle (by rcases hblk with hb | ⟨t, hb⟩; exact .inl hb; exact .inr ⟨t, by rw [hj, hb]⟩) hlt, by omega, by have := h.hb; omega⟩
 ·obtain ⟨b, h1, h2⟩ := h.init; exact ⟨b, hset _ _ (by omega) h1, AppI.same (hfr _ _ (by omega) h1) h2⟩
 ·obtain ⟨b, h1, h2⟩ := h.final; exact ⟨b, hset _ _ (by omega) h1, OwnRow.same (hfr _ _ (by omega) h1) h2⟩
 ·obtain ⟨b, h1, h2⟩ := h.opens; exact ⟨b, hset _ _ (by omega) h1, OwnRow.same (hfr _ _ (by omega) h1) h2⟩
 ·exact ⟨_, by rw [List.getElem?_set_self (by omega)], OwnRow.same (fun b t e => by cases e; exact Heap.put_ne hbA) hown⟩
 ·obtain ⟨b, h1, h2⟩ := h.inners; exact ⟨b, hset _ _ (by omega) h1, OwnRow.same (hfr _ _ (by omega) h1) h2⟩
theorem MkIn.putN {H H1 : Heap} {base A nx nx1 : Nat} {a : Aut} {l : List (Option (Nat × Nat))} {vi vf vo vc vn v' : Value} {p : R3} {old : Option (Nat × Nat)} {b1 t1 : Nat} (h : MkIn H base A nx a l vi vf vo vc vn) (hj : l[4]? = some old)
  (hown : OwnOf e3 3 48 H1 (some (b1, t1)) v' (a.inners ++ [p])) (hblk : nx ≤ b1 ∨ ∃ t, old = some (b1, t)) (hlt : b1 < nx1) (hle : nx ≤ nx1) (same : ∀ i, i < nx → (∀ b t, old = some (b, t) → i ≠ b) → H1 i = H i) :
  MkIn (H1.put A (.cells (autV (Go.Am.putN a p) vi vf vo vc v') 0 none false (some 30))) base A nx1 (Go.Am.putN a p) (l.set 4 (some (b1, t1))) vi vf vo vc v' := by
 have hlen := h.len
 have hfr := frameB (o := .cells (autV (Go.Am.putN a p) vi vf vo vc v') 0 none false (some 30)) h.sep hj same
 have hA := h.hA
 have hset : ∀ (k : Nat) (ob : Option (Nat × Nat)), k ≠ 4 → l[k]? = some ob → (l.set 4 (some (b1, t1)))[k]? = some ob := fun k ob hk hl => by
  rw [List.getElem?_set_ne (fun e => hk e.symm), hl]
 have hbA : b1 ≠ A := by
  rcases hblk with hb | ⟨t, hb⟩
  ·omega
  ·rw [hb] at hj; exact (h.sep.1 _ _ _ hj).2.1
 refine ⟨Heap.put_eq, by simp [hlen], ?_, ?_, ?_, ?_, ?_, h.sep.set h.hb hA hle (by rcases hblk with hb | ⟨t, hb⟩; exact .inl hb; exact .inr ⟨t, by rw [hj, hb]⟩) hlt, by omega, by have := h.hb; omega⟩
 ·obtain ⟨b, h1, h2⟩ := h.init; exact ⟨b, hset _ _ (by omega) h1, AppI.same (hfr _ _ (by omega) h1) h2⟩
 ·obtain ⟨b, h1, h2⟩ := h.final; exact ⟨b, hset _ _ (by omega) h1, OwnRow.same (hfr _ _ (by omega) h1) h2⟩
 ·obtain ⟨b, h1, h2⟩ := h.opens; exact ⟨b, hset _ _ (by omega) h1, OwnRow.same (hfr _ _ (by omega) h1) h2⟩
 ·obtain ⟨b, h1, h2⟩ := h.closes; exact ⟨b, hset _ _ (by omega) h1, OwnRow.same (hfr _ _ (by omega) h1) h2⟩
 ·exact ⟨_, by rw [List.getElem?_set_self (by omega)], OwnRow.same (fun b t e => by cases e; exact Heap.put_ne hbA) hown⟩
theorem MkIn.low {H : Heap} {base base' A nx : Nat} {a : Aut} {l : List (Option (Nat × Nat))} {vi vf vo vc vn : Value} (h : MkIn H base A nx a l vi vf vo vc vn) (hb : base' ≤ base) : MkIn H base' A nx a l vi vf vo vc vn :=
 ⟨h.cell, h.len, h.init, h.final, h.opens, h.closes, h.inners, ⟨fun j b t hj => by have := h.sep.1 j b t hj; omega, h.sep.2⟩, h.hA, by have := h.hb; omega⟩
theorem MkIn.other {H : Heap} {base A nx z : Nat} {o : AObj} {a : Aut} {l : List (Option (Nat × Nat))} {vi vf vo vc vn : Value} (h : MkIn H base A nx a l vi vf vo vc vn) (hz : z < base) (hzA : z ≠ A) : MkIn (H.put z o) base A nx a l vi vf vo vc vn := by
 have hs : ∀ (k : Nat) (ob : Option (Nat × Nat)), l[k]? = some ob → ∀ b t, ob = some (b, t) → (H.put z o) b = H b := fun k ob hl b t e => by
  subst e
  have := h.sep.1 k b t hl
  exact Heap.put_ne (by omega)
 refine ⟨by rw [Heap.put_ne (fun e => hzA e.symm)]; exact h.cell, h.len, ?_, ?_, ?_, ?_, ?_, h.sep, h.hA, h.hb⟩
 ·obtain ⟨b, h1, h2⟩ := h.init; exact ⟨b, h1, AppI.same (hs _ _ h1) h2⟩
 ·obtain ⟨b, h1, h2⟩ := h.final; exact ⟨b, h1, OwnRow.same (hs _ _ h1) h2⟩
 ·obtain ⟨b, h1, h2⟩ := h.opens; exact ⟨b, h1, OwnRow.same (hs _ _ h1) h2⟩
 ·obtain ⟨b, h1, h2⟩ := h.closes; exact ⟨b, h1, OwnRow.same (hs _ _ h1) h2⟩
 ·obtain ⟨b, h1, h2⟩ := h.inners; exact ⟨b, h1, OwnRow.same (hs _ _ h1) h2⟩
end Go.Proofs.YtjohiaoepbnicaaGreat
