import Derived.Sort.Grow
import Derived.Deep.Draws
import Derived.Test.YtjohiaoepbnicaaGreatRows
import Derived.Shelf.SlicesG.Cmp
import Derived.Shelf.Lay
import Derived.Ground.SlgcProg
import Derived.Test.YtjohiaoepbnicaaGreatQRM6
namespace Go.Proofs.YtjohiaoepbnicaaGreat
set_option linter.unusedSimpArgs false
set_option linter.unusedVariables false
open Go.RowKit Go.Am
attribute [local irreducible] aop OpsL Trip blockExit OpsD OpsK OpsR
abbrev OwnM (H : Heap) (ob : Option (Nat × Nat)) (v : Value) (l : List R4) : Prop := OwnOf Go.Am.e4 4 107 H ob v l
theorem ok_put3 {H : Heap} {nx k : Nat} {o o' : AObj} (hok : ∀ id o, H id = some o → id < nx) (hk : H k = some o') : ∀ id p, (H.put k o) id = some p → id < nx := fun id p h => by
 by_cases e : id = k
 ·subst e; exact hok _ _ hk
 ·rw [Heap.put_ne e] at h; exact hok _ _ h
theorem entersMoves : Am.Enters Tryz.prog 60 := ⟨Tryz.f60, Tryz.func60, by kernel_rfl, by kernel_rfl⟩
set_option maxRecDepth 20000 in
set_option maxHeartbeats 8000000 in
theorem movesC (W0 : World) {nx : Nat} {H : Heap} {a : Aut} {vi vf vo vc vn : Value} (ha : AutIn H a vi vf vo vc vn) (hn : AutLen a) :
  ACalls Tryz.prog W0 60 [.agg (autV a vi vf vo vc vn).toArray] nx H fun v nx' H' => ∃ ob, OwnM H' ob v (movesA a) ∧ Ext nx H nx' H' ∧ ∀ b t, ob = some (b, t) → nx ≤ b ∧ b < nx' := by
 obtain ⟨ai, ci, rfl⟩ := ha.init.slice
 obtain ⟨af, cf, rfl⟩ := ha.final.slice
 obtain ⟨ao, co, rfl⟩ := ha.opens.slice
 obtain ⟨ac, cc, rfl⟩ := ha.closes.slice
 obtain ⟨an, cn, rfl⟩ := ha.inners.slice
 refine ACalls.by_trip (fn := Tryz.f60) (c := _) Tryz.func60 rfl (fun tm n hn0 htm => ?_)
 have q0 : tm 0 = .agg (autV a (.slice ai a.init.length ci) (.slice af a.final.length cf) (.slice ao a.opens.length co) (.slice ac a.closes.length cc) (.slice an a.inners.length cn)).toArray := htm 0
 clear htm
 replace hn0 : n = 63 := hn0
 refine Trip.ok fun hok => ?_
 replace hok : ∀ id o, H id = some o → id < nx := hok
 refine Trip.seq ?_
 refine Trip.ops ?_
 refine OpsL.new (by subst_vars; decide) (aop_box (by simp only [ASt.ev, tmPut, ↓reduceIte, Nat.reduceEqDiff, *]; rfl)) ?_
 have hx0 : Ext nx H (nx + 1) (H.put nx (.cells (Value.agg (autV a (.slice ai a.init.length ci) (.slice af a.final.length cf) (.slice ao a.opens.length co) (.slice ac a.closes.length cc) (.slice an a.inners.length cn)).toArray).cells.toList 0 none false (some 30))) := Ext.newPut
 have gx : (H.put nx (.cells (Value.agg (autV a (.slice ai a.init.length ci) (.slice af a.final.length cf) (.slice ao a.opens.length co) (.slice ac a.closes.length cc) (.slice an a.inners.length cn)).toArray).cells.toList 0 none false (some 30))) nx = some (.cells (autV a (.slice ai a.init.length ci) (.slice af a.final.length cf) (.slice ao a.opens.length co) (.slice ac a.closes.length cc) (.slice an a.inners.length cn)) 0 none false (some 30)) := Heap.put_eq
 have hokG := ok_new (o := .cells (Value.agg (autV a (.slice ai a.init.length ci) (.slice af a.final.length cf) (.slice ao a.opens.length co) (.slice ac a.closes.length cc) (.slice an a.inners.length cn)).toArray).cells.toList 0 none false (some 30)) hok
 generalize H.put nx (.cells (Value.agg (autV a (.slice ai a.init.length ci) (.slice af a.final.length cf) (.slice ao a.opens.length co) (.slice ac a.closes.length cc) (.slice an a.inners.length cn)).toArray).cells.toList 0 none false (some 30)) = G at *
 replace ha := ha.ext hx0 hok
 have l1 := hn.opens
 have l2 := hn.closes
 have l3 := hn.inners
 repeat (first | (refine OpsL.q (by first | exact oasg | exact ofa) ?_) | refine Trip.seq ?_ | refine Trip.ops ?_ | (refine OpsL.nil ?_; (change Trip _ _ _ _ _)))
 have cb0 : cellAt G ⟨nx, 0 + 4, none⟩ (.slice ao a.opens.length co) := by rw [Nat.zero_add]; exact cell_of gx rfl
 repeat (first | (refine OpsL.q (by first | exact omv | exact olen | exact old) ?_) | refine Trip.block ?_ | (refine OpsL.nil ?_; (change Trip _ _ _ _ _)))
 refine Trip.mono (Q := fun e st => e = .exit 0 ∧ ∃ (tm' : Nat → Value) (nx' : Nat) (H' : Heap) (ob : Option (Nat × Nat)) (v : Value), st = ⟨tm', n, H', nx'⟩ ∧ Ext (nx + 1) G nx' H' ∧ (∀ b t, ob = some (b, t) → nx + 1 ≤ b ∧ b < nx') ∧ (∀ id o, H' id = some o → id < nx') ∧ OwnM H' ob v (a.opens.map moveO) ∧ tm' 1 = .pointer (some ⟨nx, 0, none⟩) ∧ tm' 3 = v) ?_ ?_
 ·refine Trip.inv (fun (i : Nat) st => ∃ (tm' : Nat → Value) (nx' : Nat) (H' : Heap) (ob : Option (Nat × Nat)) (v : Value), st = ⟨tm', n, H', nx'⟩ ∧ Ext (nx + 1) G nx' H' ∧ (∀ b t, ob = some (b, t) → nx + 1 ≤ b ∧ b < nx') ∧ (∀ id o, H' id = some o → id < nx') ∧ OwnM H' ob v ((a.opens.take i).map moveO) ∧ tm' 1 = .pointer (some ⟨nx, 0, none⟩) ∧ tm' 3 = v ∧ tm' 11 = .slice ao a.opens.length co ∧ tm' 12 = .int .i64 a.opens.length ∧ tm' 13 = .int .i64 i ∧ i ≤ a.opens.length) (fun i => a.opens.length - i) 0 ?_ ?_
  ·exact ⟨_, _, _, none, .slice none 0 0, rfl, Ext.refl, fun _ _ h => (by cases h), hokG, ⟨rfl, by simp, by simp⟩, by simp [tmPut, *], by simp [tmPut, *], by simp [tmPut, *], by simp [tmPut, *], by simp [tmPut, *], Nat.zero_le _⟩
  ·rintro i st ⟨tm, nx', H', ob, v, rfl, hx, hob, hok', hown, d1, d3, dsl, dln, dix, hi⟩
   by_cases hlt : i < a.opens.length
   ·obtain ⟨p, hp0, g⟩ := rows_at (ha.opens.ext hx hokG) hlt
    subst hp0
    have hst : (a.opens.take (i + 1)).map moveO = ((a.opens.take i).map moveO) ++ [moveO a.opens[i]] := by rw [List.take_succ_eq_append_getElem hlt, List.map_append]; rfl
    have hzl : ((a.opens.take i).map moveO).length ≤ 3000 := by simp only [List.length_append, List.length_map, List.length_take]; omega
    generalize (a.opens.take i).map moveO = zs at *
    generalize a.opens[i] = r at *
    repeat (first | refine Trip.seq ?_ | refine Trip.ops ?_)
    refine OpsL.lssT ?_
    repeat (first | refine Trip.seq ?_ | (refine OpsL.nil ?_; (change Trip _ _ _ _ _)))
    refine Trip.ifT ?_
    repeat (first | refine OpsL.q (by exact oixa) ?_ | refine Trip.seq ?_ | refine Trip.ops ?_ | refine Trip.block ?_ | (refine Trip.skip ?_; (change Trip _ _ _ _ _)))
    refine OpsL.q (aop_loadAgg (k := 4) (vs := Go.Am.e4 r) (by simp only [ASt.ev, tmPut, ↓reduceIte, Nat.reduceEqDiff, *]; rfl) (by exact rfl) rfl (by exact rfl) g) ?_
    refine OpsL.new (by subst_vars; decide) (aop_alloc (l := rep 4 [.int .i64 0]) (by exact rfl)) ?_
    refine OpsL.upd (aop_store (k := 4) (u := .agg (Go.Am.e4 r).toArray) (by simp only [ASt.ev, tmPut, ↓reduceIte, Nat.reduceEqDiff, *]; done) (by simp only [ASt.ev, tmPut, ↓reduceIte, Nat.reduceEqDiff, *]; done) (by exact rfl) rfl (o := .cells (Go.Am.e4 r) 0 none false (some 44)) (setc_allN (vs := Go.Am.e4 r) Heap.put_eq rfl rfl)) ?_
    obtain ⟨G4, hG4⟩ : ∃ G4, G4 = (H'.put nx' (.cells (rep 4 [.int .i64 0]) 0 none false (some 44))).put nx' (.cells (Go.Am.e4 r) 0 none false (some 44)) := ⟨_, rfl⟩
    have hx4 : Ext nx' H' (nx' + 1) G4 := ⟨Nat.le_succ _, fun j hj => by rw [hG4, Heap.put_ne (by omega), Heap.put_ne (by omega)]⟩
    have hok4 : ∀ id o, G4 id = some o → id < nx' + 1 := by rw [hG4]; exact ok_put3 (ok_new hok') Heap.put_eq
    have hb4 : G4 nx' = some (.cells (Go.Am.e4 r) 0 none false (some 44)) := by rw [hG4, Heap.put_eq]
    first | rw [← hG4] | skip
    clear hG4
    have c0 : cellAt G4 ⟨nx', 0, none⟩ (.int .i64 r.1) := cell_of hb4 rfl
    have c1 : cellAt G4 ⟨nx', 0 + 1, none⟩ (.int .i64 r.2.1) := by rw [Nat.zero_add]; exact cell_of hb4 rfl
    have c2 : cellAt G4 ⟨nx', 0 + 2, none⟩ (.int .i64 r.2.2.1) := by rw [Nat.zero_add]; exact cell_of hb4 rfl
    have c3 : cellAt G4 ⟨nx', 0 + 3, none⟩ (.int .i64 r.2.2.2) := by rw [Nat.zero_add]; exact cell_of hb4 rfl
    repeat (first | (refine OpsL.q (by first | exact omv | exact ofa | exact old) ?_) | refine Trip.ops ?_ | (refine OpsL.nil ?_; (change Trip _ _ _ _ _)))
    refine OpsL.q (aop_build (v := .agg (Go.Am.e4 (moveO r)).toArray) (l := [(0, .int .i64 r.1), (1, .int .i64 0), (2, .int .i64 r.2.2.1), (3, .int .i64 r.2.2.2)]) (by simp only [evParts, ASt.ev, tmPut, ↓reduceIte, reduceIte, Option.some.injEq, Nat.reduceEqDiff, plainC, plain1, *]) (by kernel_rfl)) ?_
    refine OpsL.new (by subst_vars; decide) (aop_buildSlice (l := [(0, .agg (Go.Am.e4 (moveO r)).toArray)]) (r := (.slice (some ⟨nx' + 1, 0, none⟩) 1 1, .new (.cells (Go.Am.e4 (moveO r)) 4 none false (some 107)))) (by simp only [evParts, ASt.ev, tmPut, ↓reduceIte, reduceIte, Option.some.injEq, Nat.reduceEqDiff, *]) (by kernel_rfl)) ?_
    have hx5 : Ext (nx' + 1) G4 (nx' + 1 + 1) (G4.put (nx' + 1) (.cells (Go.Am.e4 (moveO r)) 4 none false (some 107))) := Ext.newPut
    have hok5 := ok_new (o := .cells (Go.Am.e4 (moveO r)) 4 none false (some 107)) hok4
    have hone : RowsAt Go.Am.e4 4 (G4.put (nx' + 1) (.cells (Go.Am.e4 (moveO r)) 4 none false (some 107))) (.slice (some ⟨nx' + 1, 0, none⟩) 1 1) [moveO r] := by
     refine .inr ⟨⟨nx' + 1, 0, none⟩, 1, rfl, fun j hj => ?_⟩
     have : j = 0 := by simpa using hj
     subst this
     exact getc_own (by show 0 + 4 ≤ 4; decide)
    generalize G4.put (nx' + 1) (.cells (Go.Am.e4 (moveO r)) 4 none false (some 107)) = G5 at *
    refine OpsL.appendO (bytes := 32) (z := rep 4 [.int .i64 0]) e4_len e4_one (by omega) (by subst_vars; decide) (OwnOf.ext (hx4.trans hx5) (fun b t h => (hob b t h).2) hown) hone (by simp only [ASt.ev, tmPut, ↓reduceIte, Nat.reduceEqDiff, *]; done) (by simp only [ASt.ev, tmPut, ↓reduceIte, Nat.reduceEqDiff, *]; done) (fun b t h => by have := (hob b t h).2; omega) (by exact rfl) (by exact rfl) (by exact rfl) (by exact rfl) (by exact rfl) rfl (by simp; omega) (by omega) ?_
    intro v8 nx8 H8 ob8 hA8
    repeat (first | (refine OpsL.q (by first | exact omv | exact oasg | exact oadd) ?_) | refine Trip.ops ?_ | (refine OpsL.nil ?_; ((repeat (refine blockExit_normal ?_)); first | (change Trip _ _ _ _ _) | (dsimp only))))
    refine ⟨i + 1, ⟨_, nx8, H8, ob8, v8, rfl, ⟨by have := hx.1; have := hA8.le; omega, fun j hj => ?_⟩, fun b t h => ?_, hA8.ok (fun b t h => by have := (hob b t h).2; omega) hok5, by rw [hst]; exact hA8.own, by simp [tmPut, *], by simp [tmPut, *], by simp [tmPut, *], by simp [tmPut, *], by simp [tmPut, *], by omega⟩, by omega⟩
    ·have := hx.1
     rw [hA8.same j (by omega) (fun b t h => by have := (hob b t h).1; omega), hx5.2 j (by omega), hx4.2 j (by omega), hx.2 j hj]
    ·obtain ⟨q1, q2⟩ := hA8.blk b t h
     refine ⟨?_, q1⟩
     rcases q2 with rfl | ⟨t', h'⟩
     ·have := hx.1; omega
     ·exact (hob _ _ h').1
   ·have hin : i = a.opens.length := by omega
    subst hin
    rw [List.take_length] at hown
    repeat (first | refine Trip.seq ?_ | refine Trip.ops ?_)
    refine OpsL.lssF ?_
    repeat (first | refine Trip.seq ?_ | (refine OpsL.nil ?_; (change Trip _ _ _ _ _)))
    refine Trip.ifF ?_
    repeat (refine Trip.exit ?_; (dsimp only))
    exact ⟨rfl, _, _, _, ob, v, rfl, hx, hob, hok', hown, by simp [tmPut, *], by simp [tmPut, *]⟩
 rintro e st ⟨rfl, tm', m1, J1, p1, u1, rfl, y1, z1, f1, w1, d1, d3⟩
 ((repeat (refine blockExit_eq ?_)); change Trip _ _ _ _ _)
 have hb1 : J1 nx = some (.cells (autV a (.slice ai a.init.length ci) (.slice af a.final.length cf) (.slice ao a.opens.length co) (.slice ac a.closes.length cc) (.slice an a.inners.length cn)) 0 none false (some 30)) := (y1.2 nx (by omega)).trans gx
 have cb1 : cellAt J1 ⟨nx, 0 + 5, none⟩ (.slice ac a.closes.length cc) := by rw [Nat.zero_add]; exact cell_of hb1 rfl
 repeat (first | (refine OpsL.q (by first | exact omv | exact olen | exact ofa | exact old) ?_) | refine Trip.seq ?_ | refine Trip.ops ?_ | refine Trip.block ?_ | (refine OpsL.nil ?_; (change Trip _ _ _ _ _)))
 refine Trip.mono (Q := fun e st => e = .exit 2 ∧ ∃ (tm' : Nat → Value) (nx' : Nat) (H' : Heap) (ob : Option (Nat × Nat)) (v : Value), st = ⟨tm', n, H', nx'⟩ ∧ Ext (nx + 1) G nx' H' ∧ (∀ b t, ob = some (b, t) → nx + 1 ≤ b ∧ b < nx') ∧ (∀ id o, H' id = some o → id < nx') ∧ OwnM H' ob v ((a.opens.map moveO) ++ a.closes.map moveC) ∧ tm' 1 = .pointer (some ⟨nx, 0, none⟩) ∧ tm' 3 = v) ?_ ?_
 ·refine Trip.inv (fun (i : Nat) st => ∃ (tm' : Nat → Value) (nx' : Nat) (H' : Heap) (ob : Option (Nat × Nat)) (v : Value), st = ⟨tm', n, H', nx'⟩ ∧ Ext (nx + 1) G nx' H' ∧ (∀ b t, ob = some (b, t) → nx + 1 ≤ b ∧ b < nx') ∧ (∀ id o, H' id = some o → id < nx') ∧ OwnM H' ob v ((a.opens.map moveO) ++ (a.closes.take i).map moveC) ∧ tm' 1 = .pointer (some ⟨nx, 0, none⟩) ∧ tm' 3 = v ∧ tm' 29 = .slice ac a.closes.length cc ∧ tm' 30 = .int .i64 a.closes.length ∧ tm' 31 = .int .i64 i ∧ i ≤ a.closes.length) (fun i => a.closes.length - i) 0 ?_ ?_
  ·exact ⟨_, m1, J1, p1, u1, rfl, y1, z1, f1, by simpa using w1, by simp [tmPut, *], by simp [tmPut, *], by simp [tmPut, *], by simp [tmPut, *], by simp [tmPut, *], Nat.zero_le _⟩
  ·clear d1 d3
   rintro i st ⟨tm, nx', H', ob, v, rfl, hx, hob, hok', hown, d1, d3, dsl, dln, dix, hi⟩
   by_cases hlt : i < a.closes.length
   ·obtain ⟨p, hp0, g⟩ := rows_at (ha.closes.ext hx hokG) hlt
    subst hp0
    have hst : (a.opens.map moveO) ++ (a.closes.take (i + 1)).map moveC = ((a.opens.map moveO) ++ (a.closes.take i).map moveC) ++ [moveC a.closes[i]] := by rw [List.take_succ_eq_append_getElem hlt, List.map_append, ← List.append_assoc]; rfl
    have hzl : ((a.opens.map moveO) ++ (a.closes.take i).map moveC).length ≤ 3000 := by simp only [List.length_append, List.length_map, List.length_take]; omega
    generalize (a.opens.map moveO) ++ (a.closes.take i).map moveC = zs at *
    generalize a.closes[i] = r at *
    repeat (first | refine Trip.seq ?_ | refine Trip.ops ?_)
    refine OpsL.lssT ?_
    repeat (first | refine Trip.seq ?_ | (refine OpsL.nil ?_; (change Trip _ _ _ _ _)))
    refine Trip.ifT ?_
    repeat (first | refine OpsL.q (by exact oixa) ?_ | refine Trip.seq ?_ | refine Trip.ops ?_ | refine Trip.block ?_ | (refine Trip.skip ?_; (change Trip _ _ _ _ _)))
    refine OpsL.q (aop_loadAgg (k := 4) (vs := Go.Am.e4 r) (by simp only [ASt.ev, tmPut, ↓reduceIte, Nat.reduceEqDiff, *]; rfl) (by exact rfl) rfl (by exact rfl) g) ?_
    refine OpsL.new (by subst_vars; decide) (aop_alloc (l := rep 4 [.int .i64 0]) (by exact rfl)) ?_
    refine OpsL.upd (aop_store (k := 4) (u := .agg (Go.Am.e4 r).toArray) (by simp only [ASt.ev, tmPut, ↓reduceIte, Nat.reduceEqDiff, *]; done) (by simp only [ASt.ev, tmPut, ↓reduceIte, Nat.reduceEqDiff, *]; done) (by exact rfl) rfl (o := .cells (Go.Am.e4 r) 0 none false (some 46)) (setc_allN (vs := Go.Am.e4 r) Heap.put_eq rfl rfl)) ?_
    obtain ⟨G4, hG4⟩ : ∃ G4, G4 = (H'.put nx' (.cells (rep 4 [.int .i64 0]) 0 none false (some 46))).put nx' (.cells (Go.Am.e4 r) 0 none false (some 46)) := ⟨_, rfl⟩
    have hx4 : Ext nx' H' (nx' + 1) G4 := ⟨Nat.le_succ _, fun j hj => by rw [hG4, Heap.put_ne (by omega), Heap.put_ne (by omega)]⟩
    have hok4 : ∀ id o, G4 id = some o → id < nx' + 1 := by rw [hG4]; exact ok_put3 (ok_new hok') Heap.put_eq
    have hb4 : G4 nx' = some (.cells (Go.Am.e4 r) 0 none false (some 46)) := by rw [hG4, Heap.put_eq]
    first | rw [← hG4] | skip
    clear hG4
    have c0 : cellAt G4 ⟨nx', 0, none⟩ (.int .i64 r.1) := cell_of hb4 rfl
    have c1 : cellAt G4 ⟨nx', 0 + 1, none⟩ (.int .i64 r.2.1) := by rw [Nat.zero_add]; exact cell_of hb4 rfl
    have c2 : cellAt G4 ⟨nx', 0 + 2, none⟩ (.int .i64 r.2.2.1) := by rw [Nat.zero_add]; exact cell_of hb4 rfl
    have c3 : cellAt G4 ⟨nx', 0 + 3, none⟩ (.int .i64 r.2.2.2) := by rw [Nat.zero_add]; exact cell_of hb4 rfl
    repeat (first | (refine OpsL.q (by first | exact omv | exact ofa | exact old) ?_) | refine Trip.ops ?_ | (refine OpsL.nil ?_; (change Trip _ _ _ _ _)))
    refine OpsL.q (aop_build (v := .agg (Go.Am.e4 (moveC r)).toArray) (l := [(0, .int .i64 r.1), (1, .int .i64 r.2.2.1), (2, .int .i64 r.2.2.2), (3, .int .i64 0)]) (by simp only [evParts, ASt.ev, tmPut, ↓reduceIte, reduceIte, Option.some.injEq, Nat.reduceEqDiff, plainC, plain1, *]) (by kernel_rfl)) ?_
    refine OpsL.new (by subst_vars; decide) (aop_buildSlice (l := [(0, .agg (Go.Am.e4 (moveC r)).toArray)]) (r := (.slice (some ⟨nx' + 1, 0, none⟩) 1 1, .new (.cells (Go.Am.e4 (moveC r)) 4 none false (some 107)))) (by simp only [evParts, ASt.ev, tmPut, ↓reduceIte, reduceIte, Option.some.injEq, Nat.reduceEqDiff, *]) (by kernel_rfl)) ?_
    have hx5 : Ext (nx' + 1) G4 (nx' + 1 + 1) (G4.put (nx' + 1) (.cells (Go.Am.e4 (moveC r)) 4 none false (some 107))) := Ext.newPut
    have hok5 := ok_new (o := .cells (Go.Am.e4 (moveC r)) 4 none false (some 107)) hok4
    have hone : RowsAt Go.Am.e4 4 (G4.put (nx' + 1) (.cells (Go.Am.e4 (moveC r)) 4 none false (some 107))) (.slice (some ⟨nx' + 1, 0, none⟩) 1 1) [moveC r] := by
     refine .inr ⟨⟨nx' + 1, 0, none⟩, 1, rfl, fun j hj => ?_⟩
     have : j = 0 := by simpa using hj
     subst this
     exact getc_own (by show 0 + 4 ≤ 4; decide)
    generalize G4.put (nx' + 1) (.cells (Go.Am.e4 (moveC r)) 4 none false (some 107)) = G5 at *
    refine OpsL.appendO (bytes := 32) (z := rep 4 [.int .i64 0]) e4_len e4_one (by omega) (by subst_vars; decide) (OwnOf.ext (hx4.trans hx5) (fun b t h => (hob b t h).2) hown) hone (by simp only [ASt.ev, tmPut, ↓reduceIte, Nat.reduceEqDiff, *]; done) (by simp only [ASt.ev, tmPut, ↓reduceIte, Nat.reduceEqDiff, *]; done) (fun b t h => by have := (hob b t h).2; omega) (by exact rfl) (by exact rfl) (by exact rfl) (by exact rfl) (by exact rfl) rfl (by simp; omega) (by omega) ?_
    intro v8 nx8 H8 ob8 hA8
    repeat (first | (refine OpsL.q (by first | exact omv | exact oasg | exact oadd) ?_) | refine Trip.ops ?_ | (refine OpsL.nil ?_; ((repeat (refine blockExit_normal ?_)); first | (change Trip _ _ _ _ _) | (dsimp only))))
    refine ⟨i + 1, ⟨_, nx8, H8, ob8, v8, rfl, ⟨by have := hx.1; have := hA8.le; omega, fun j hj => ?_⟩, fun b t h => ?_, hA8.ok (fun b t h => by have := (hob b t h).2; omega) hok5, by rw [hst]; exact hA8.own, by simp [tmPut, *], by simp [tmPut, *], by simp [tmPut, *], by simp [tmPut, *], by simp [tmPut, *], by omega⟩, by omega⟩
    ·have := hx.1
     rw [hA8.same j (by omega) (fun b t h => by have := (hob b t h).1; omega), hx5.2 j (by omega), hx4.2 j (by omega), hx.2 j hj]
    ·obtain ⟨q1, q2⟩ := hA8.blk b t h
     refine ⟨?_, q1⟩
     rcases q2 with rfl | ⟨t', h'⟩
     ·have := hx.1; omega
     ·exact (hob _ _ h').1
   ·have hin : i = a.closes.length := by omega
    subst hin
    rw [List.take_length] at hown
    repeat (first | refine Trip.seq ?_ | refine Trip.ops ?_)
    refine OpsL.lssF ?_
    repeat (first | refine Trip.seq ?_ | (refine OpsL.nil ?_; (change Trip _ _ _ _ _)))
    refine Trip.ifF ?_
    repeat (refine Trip.exit ?_; (dsimp only))
    exact ⟨rfl, _, _, _, ob, v, rfl, hx, hob, hok', hown, by simp [tmPut, *], by simp [tmPut, *]⟩
 clear d1 d3
 rintro e st ⟨rfl, tm', m2, J2, p2, u2, rfl, y2, z2, f2, w2, d1, d3⟩
 ((repeat (refine blockExit_eq ?_)); change Trip _ _ _ _ _)
 have hb2 : J2 nx = some (.cells (autV a (.slice ai a.init.length ci) (.slice af a.final.length cf) (.slice ao a.opens.length co) (.slice ac a.closes.length cc) (.slice an a.inners.length cn)) 0 none false (some 30)) := (y2.2 nx (by omega)).trans gx
 have cb2 : cellAt J2 ⟨nx, 0 + 6, none⟩ (.slice an a.inners.length cn) := by rw [Nat.zero_add]; exact cell_of hb2 rfl
 repeat (first | (refine OpsL.q (by first | exact omv | exact olen | exact ofa | exact old) ?_) | refine Trip.seq ?_ | refine Trip.ops ?_ | refine Trip.block ?_ | (refine OpsL.nil ?_; (change Trip _ _ _ _ _)))
 refine Trip.mono (Q := fun e st => e = .exit 4 ∧ ∃ (tm' : Nat → Value) (nx' : Nat) (H' : Heap) (ob : Option (Nat × Nat)) (v : Value), st = ⟨tm', n, H', nx'⟩ ∧ Ext (nx + 1) G nx' H' ∧ (∀ b t, ob = some (b, t) → nx + 1 ≤ b ∧ b < nx') ∧ (∀ id o, H' id = some o → id < nx') ∧ OwnM H' ob v ((a.opens.map moveO ++ a.closes.map moveC) ++ a.inners.map moveN) ∧ tm' 1 = .pointer (some ⟨nx, 0, none⟩) ∧ tm' 3 = v) ?_ ?_
 ·refine Trip.inv (fun (i : Nat) st => ∃ (tm' : Nat → Value) (nx' : Nat) (H' : Heap) (ob : Option (Nat × Nat)) (v : Value), st = ⟨tm', n, H', nx'⟩ ∧ Ext (nx + 1) G nx' H' ∧ (∀ b t, ob = some (b, t) → nx + 1 ≤ b ∧ b < nx') ∧ (∀ id o, H' id = some o → id < nx') ∧ OwnM H' ob v ((a.opens.map moveO ++ a.closes.map moveC) ++ (a.inners.take i).map moveN) ∧ tm' 1 = .pointer (some ⟨nx, 0, none⟩) ∧ tm' 3 = v ∧ tm' 47 = .slice an a.inners.length cn ∧ tm' 48 = .int .i64 a.inners.length ∧ tm' 49 = .int .i64 i ∧ i ≤ a.inners.length) (fun i => a.inners.length - i) 0 ?_ ?_
  ·exact ⟨_, m2, J2, p2, u2, rfl, y2, z2, f2, by simpa using w2, by simp [tmPut, *], by simp [tmPut, *], by simp [tmPut, *], by simp [tmPut, *], by simp [tmPut, *], Nat.zero_le _⟩
  ·clear d1 d3
   rintro i st ⟨tm, nx', H', ob, v, rfl, hx, hob, hok', hown, d1, d3, dsl, dln, dix, hi⟩
   by_cases hlt : i < a.inners.length
   ·obtain ⟨p, hp0, g⟩ := rows_at (ha.inners.ext hx hokG) hlt
    subst hp0
    have hst : (a.opens.map moveO ++ a.closes.map moveC) ++ (a.inners.take (i + 1)).map moveN = ((a.opens.map moveO ++ a.closes.map moveC) ++ (a.inners.take i).map moveN) ++ [moveN a.inners[i]] := by rw [List.take_succ_eq_append_getElem hlt, List.map_append, ← List.append_assoc]; rfl
    have hzl : ((a.opens.map moveO ++ a.closes.map moveC) ++ (a.inners.take i).map moveN).length ≤ 3000 := by simp only [List.length_append, List.length_map, List.length_take]; omega
    generalize (a.opens.map moveO ++ a.closes.map moveC) ++ (a.inners.take i).map moveN = zs at *
    generalize a.inners[i] = r at *
    repeat (first | refine Trip.seq ?_ | refine Trip.ops ?_)
    refine OpsL.lssT ?_
    repeat (first | refine Trip.seq ?_ | (refine OpsL.nil ?_; (change Trip _ _ _ _ _)))
    refine Trip.ifT ?_
    repeat (first | refine OpsL.q (by exact oixa) ?_ | refine Trip.seq ?_ | refine Trip.ops ?_ | refine Trip.block ?_ | (refine Trip.skip ?_; (change Trip _ _ _ _ _)))
    refine OpsL.q (aop_loadAgg (k := 3) (vs := Go.Am.e3 r) (by simp only [ASt.ev, tmPut, ↓reduceIte, Nat.reduceEqDiff, *]; rfl) (by exact rfl) rfl (by exact rfl) g) ?_
    refine OpsL.new (by subst_vars; decide) (aop_alloc (l := rep 3 [.int .i64 0]) (by exact rfl)) ?_
    refine OpsL.upd (aop_store (k := 3) (u := .agg (Go.Am.e3 r).toArray) (by simp only [ASt.ev, tmPut, ↓reduceIte, Nat.reduceEqDiff, *]; done) (by simp only [ASt.ev, tmPut, ↓reduceIte, Nat.reduceEqDiff, *]; done) (by exact rfl) rfl (o := .cells (Go.Am.e3 r) 0 none false (some 48)) (setc_allN (vs := Go.Am.e3 r) Heap.put_eq rfl rfl)) ?_
    obtain ⟨G4, hG4⟩ : ∃ G4, G4 = (H'.put nx' (.cells (rep 3 [.int .i64 0]) 0 none false (some 48))).put nx' (.cells (Go.Am.e3 r) 0 none false (some 48)) := ⟨_, rfl⟩
    have hx4 : Ext nx' H' (nx' + 1) G4 := ⟨Nat.le_succ _, fun j hj => by rw [hG4, Heap.put_ne (by omega), Heap.put_ne (by omega)]⟩
    have hok4 : ∀ id o, G4 id = some o → id < nx' + 1 := by rw [hG4]; exact ok_put3 (ok_new hok') Heap.put_eq
    have hb4 : G4 nx' = some (.cells (Go.Am.e3 r) 0 none false (some 48)) := by rw [hG4, Heap.put_eq]
    first | rw [← hG4] | skip
    clear hG4
    have c0 : cellAt G4 ⟨nx', 0, none⟩ (.int .i64 r.1) := cell_of hb4 rfl
    have c1 : cellAt G4 ⟨nx', 0 + 1, none⟩ (.int .i64 r.2.1) := by rw [Nat.zero_add]; exact cell_of hb4 rfl
    have c2 : cellAt G4 ⟨nx', 0 + 2, none⟩ (.int .i64 r.2.2) := by rw [Nat.zero_add]; exact cell_of hb4 rfl
    repeat (first | (refine OpsL.q (by first | exact omv | exact ofa | exact old) ?_) | refine Trip.ops ?_ | (refine OpsL.nil ?_; (change Trip _ _ _ _ _)))
    refine OpsL.q (aop_build (v := .agg (Go.Am.e4 (moveN r)).toArray) (l := [(0, .int .i64 r.1), (1, .int .i64 0), (2, .int .i64 r.2.2), (3, .int .i64 0)]) (by simp only [evParts, ASt.ev, tmPut, ↓reduceIte, reduceIte, Option.some.injEq, Nat.reduceEqDiff, plainC, plain1, *]) (by kernel_rfl)) ?_
    refine OpsL.new (by subst_vars; decide) (aop_buildSlice (l := [(0, .agg (Go.Am.e4 (moveN r)).toArray)]) (r := (.slice (some ⟨nx' + 1, 0, none⟩) 1 1, .new (.cells (Go.Am.e4 (moveN r)) 4 none false (some 107)))) (by simp only [evParts, ASt.ev, tmPut, ↓reduceIte, reduceIte, Option.some.injEq, Nat.reduceEqDiff, *]) (by kernel_rfl)) ?_
    have hx5 : Ext (nx' + 1) G4 (nx' + 1 + 1) (G4.put (nx' + 1) (.cells (Go.Am.e4 (moveN r)) 4 none false (some 107))) := Ext.newPut
    have hok5 := ok_new (o := .cells (Go.Am.e4 (moveN r)) 4 none false (some 107)) hok4
    have hone : RowsAt Go.Am.e4 4 (G4.put (nx' + 1) (.cells (Go.Am.e4 (moveN r)) 4 none false (some 107))) (.slice (some ⟨nx' + 1, 0, none⟩) 1 1) [moveN r] := by
     refine .inr ⟨⟨nx' + 1, 0, none⟩, 1, rfl, fun j hj => ?_⟩
     have : j = 0 := by simpa using hj
     subst this
     exact getc_own (by show 0 + 4 ≤ 4; decide)
    generalize G4.put (nx' + 1) (.cells (Go.Am.e4 (moveN r)) 4 none false (some 107)) = G5 at *
    refine OpsL.appendO (bytes := 32) (z := rep 4 [.int .i64 0]) e4_len e4_one (by omega) (by subst_vars; decide) (OwnOf.ext (hx4.trans hx5) (fun b t h => (hob b t h).2) hown) hone (by simp only [ASt.ev, tmPut, ↓reduceIte, Nat.reduceEqDiff, *]; done) (by simp only [ASt.ev, tmPut, ↓reduceIte, Nat.reduceEqDiff, *]; done) (fun b t h => by have := (hob b t h).2; omega) (by exact rfl) (by exact rfl) (by exact rfl) (by exact rfl) (by exact rfl) rfl (by simp; omega) (by omega) ?_
    intro v8 nx8 H8 ob8 hA8
    repeat (first | (refine OpsL.q (by first | exact omv | exact oasg | exact oadd) ?_) | refine Trip.ops ?_ | (refine OpsL.nil ?_; ((repeat (refine blockExit_normal ?_)); first | (change Trip _ _ _ _ _) | (dsimp only))))
    refine ⟨i + 1, ⟨_, nx8, H8, ob8, v8, rfl, ⟨by have := hx.1; have := hA8.le; omega, fun j hj => ?_⟩, fun b t h => ?_, hA8.ok (fun b t h => by have := (hob b t h).2; omega) hok5, by rw [hst]; exact hA8.own, by simp [tmPut, *], by simp [tmPut, *], by simp [tmPut, *], by simp [tmPut, *], by simp [tmPut, *], by omega⟩, by omega⟩
    ·have := hx.1
     rw [hA8.same j (by omega) (fun b t h => by have := (hob b t h).1; omega), hx5.2 j (by omega), hx4.2 j (by omega), hx.2 j hj]
    ·obtain ⟨q1, q2⟩ := hA8.blk b t h
     refine ⟨?_, q1⟩
     rcases q2 with rfl | ⟨t', h'⟩
     ·have := hx.1; omega
     ·exact (hob _ _ h').1
   ·have hin : i = a.inners.length := by omega
    subst hin
    rw [List.take_length] at hown
    repeat (first | refine Trip.seq ?_ | refine Trip.ops ?_)
    refine OpsL.lssF ?_
    repeat (first | refine Trip.seq ?_ | (refine OpsL.nil ?_; (change Trip _ _ _ _ _)))
    refine Trip.ifF ?_
    repeat (refine Trip.exit ?_; (dsimp only))
    exact ⟨rfl, _, _, _, ob, v, rfl, hx, hob, hok', hown, by simp [tmPut, *], by simp [tmPut, *]⟩
 clear d1 d3
 rintro e st ⟨rfl, tm', m3, J3, p3, u3, rfl, y3, z3, f3, w3, d1, d3⟩
 ((repeat (refine blockExit_eq ?_)); change Trip _ _ _ _ _)
 repeat (first | (refine OpsL.q (by first | exact omv | exact oasg) ?_) | refine Trip.seq ?_ | refine Trip.ops ?_ | (refine Trip.ret ?_; (dsimp only)) | (refine OpsL.nil ?_; (change Trip _ _ _ _ _)))
 refine ⟨.inr rfl, _, res_tmp, p3, by simpa [tmPut, *, movesA] using w3, hx0.trans y3, fun b t h => by have := z3 b t h; omega⟩
end Go.Proofs.YtjohiaoepbnicaaGreat
namespace Go.Am
set_option linter.unusedSimpArgs false
set_option linter.unusedVariables false
open Go.RowKit
section
variable {α : Type} [DecidableEq α]
def dedF (l : List α) : List α := l.foldl (fun acc x => if acc.getLast? = some x then acc else acc ++ [x]) []
theorem dedF_snoc (p : List α) (x : α) : dedF (p ++ [x]) = if (dedF p).getLast? = some x then dedF p else dedF p ++ [x] := by
 unfold dedF
 rw [List.foldl_append]
 rfl
theorem dedF_last (l : List α) : (dedF l).getLast? = l.getLast? := by
 rcases List.eq_nil_or_concat l with rfl | ⟨p, x, rfl⟩
 ·rfl
 ·rw [List.concat_eq_append, dedF_snoc]
  split
  ·rename_i h; rw [h]; simp
  ·simp
theorem dedF_snoc' (p : List α) (x : α) : dedF (p ++ [x]) = if p.getLast? = some x then dedF p else dedF p ++ [x] := by rw [dedF_snoc, dedF_last]
theorem dedF_take (l : List α) {m : Nat} (h0 : 0 < m) (h : m < l.length) : dedF (l.take (m + 1)) = if l[m - 1] = l[m] then dedF (l.take m) else dedF (l.take m) ++ [l[m]] := by
 rw [List.take_add_one, List.getElem?_eq_getElem h, Option.toList_some, dedF_snoc']
 have : (l.take m).getLast? = some l[m - 1] := by
  rw [List.getLast?_eq_getElem?, List.length_take, Nat.min_eq_left (by omega), List.getElem?_take, if_pos (by omega), List.getElem?_eq_getElem]
 rw [this]
 simp
theorem dedF_one (l : List α) (h : l.length ≤ 1) : dedF l = l := by
 match l, h with
 | [], _ => rfl
 | [x], _ => rfl
theorem dedF_same (l : List α) : ∀ m, m ≤ l.length → (∀ i (h : i < l.length), 0 < i → i < m → l[i - 1] ≠ l[i]) → dedF (l.take m) = l.take m := by
 intro m
 induction m with
 | zero => intro _ _; rfl
 | succ m ih =>
  intro hm h
  by_cases h0 : 0 < m
  ·rw [dedF_take l h0 (by omega), if_neg (h m (by omega) h0 (Nat.lt_succ_self _)), ih (by omega) (fun i hi a b => h i hi a (by omega)), List.take_add_one, List.getElem?_eq_getElem (by omega : m < l.length)]
   rfl
  ·have : m = 0 := by omega
   subst this
   exact dedF_one _ (by simp; omega)
theorem dedF_mem (l : List α) (x : α) : x ∈ dedF l ↔ x ∈ l := by
 have : ∀ l : List α, ∀ acc : List α, x ∈ l.foldl (fun acc x => if acc.getLast? = some x then acc else acc ++ [x]) acc ↔ x ∈ acc ∨ x ∈ l := by
  intro l
  induction l with
  | nil => intro acc; simp
  | cons y l ih =>
   intro acc
   rw [List.foldl_cons, ih]
   split
   ·rename_i h
    have := List.mem_of_getLast? h
    constructor
    ·rintro (h1 | h1)
     ·exact .inl h1
     ·exact .inr (List.mem_cons_of_mem _ h1)
    ·rintro (h1 | h1)
     ·exact .inl h1
     ·rcases List.mem_cons.1 h1 with rfl | h1
      ·exact .inl this
      ·exact .inr h1
   ·simp only [List.mem_append, List.mem_cons, List.not_mem_nil, or_false]
    constructor
    ·rintro ((h1 | h1) | h1)
     ·exact .inl h1
     ·exact .inr (.inl h1)
     ·exact .inr (.inr h1)
    ·rintro (h1 | h1 | h1)
     ·exact .inl (.inl h1)
     ·exact .inl (.inr h1)
     ·exact .inr h1
 have h := this l []
 simpa [dedF] using h
end
section
variable {α : Type} {enc : α → List Value} {sz : Nat} {H : Heap}
theorem flat_set (hk : ∀ x, (enc x).length = sz) : ∀ (l : List α) (i : Nat) (x : α), i < l.length → (l.flatMap enc).take (i * sz) ++ enc x ++ (l.flatMap enc).drop (i * sz + sz) = (l.set i x).flatMap enc := by
 intro l
 induction l with
 | nil => intro i x h; simp at h
 | cons y l ih =>
  intro i x h
  cases i with
  | zero =>
   rw [Nat.zero_mul, Nat.zero_add, List.take_zero, List.nil_append, List.flatMap_cons, List.set_cons_zero, List.flatMap_cons]
   rw [show sz = (enc y).length from (hk y).symm, List.drop_left]
  | succ i =>
   have := ih i x (by simpa using h)
   rw [List.flatMap_cons, List.set_cons_succ, List.flatMap_cons, ← this]
   rw [Nat.add_mul, Nat.one_mul]
   rw [List.take_append, List.drop_append, hk, List.take_of_length_le (by rw [hk]; omega), List.drop_eq_nil_of_le (by rw [hk]; omega)]
   rw [show i * sz + sz - sz = i * sz by omega, show i * sz + sz + sz - sz = i * sz + sz by omega]
   simp
theorem setc_flat (hk : ∀ x, (enc x).length = sz) (h1 : ∀ x, (enc x).all (·.oneCell') = true) {b t : Nat} {el : TypeId} {l : List α} {rest : List Value} {i : Nat} {x : α} (hH : H b = some (.cells (l.flatMap enc ++ rest) sz (some t) false (some el))) (hi : i < l.length) :
  setc H ⟨b, 0 + i * sz, some t⟩ (enc x) = some (.cells ((l.set i x).flatMap enc ++ rest) sz (some t) false (some el)) := by
 have hfl := flat_len hk l
 have hle : (i + 1) * sz ≤ l.length * sz := Nat.mul_le_mul_right sz hi
 rw [Nat.add_mul, Nat.one_mul] at hle
 have hone := h1 x
 unfold setc
 simp only [hH, Nat.zero_add]
 rw [if_pos ⟨trivial, by rw [List.length_append, hfl, hk]; omega, trivial, hone⟩]
 rw [hk, List.take_append_of_le_length (by rw [hfl]; omega), List.drop_append_of_le_length (by rw [hfl]; omega), ← List.append_assoc, ← flat_set hk l i x hi]
theorem getc_flat (hk : ∀ x, (enc x).length = sz) {b t : Nat} {el : TypeId} {l : List α} {rest : List Value} {i : Nat} (hH : H b = some (.cells (l.flatMap enc ++ rest) sz (some t) false (some el))) (hi : i < l.length) : getc H ⟨b, 0 + i * sz, some t⟩ sz = some (enc l[i]) := by
 have hfl := flat_len hk l
 have hle : (i + 1) * sz ≤ l.length * sz := Nat.mul_le_mul_right sz hi
 rw [Nat.add_mul, Nat.one_mul] at hle
 unfold getc
 simp only [hH, Nat.zero_add]
 rw [if_pos ⟨trivial, by rw [List.length_append, hfl]; omega⟩, List.drop_append_of_le_length (by rw [hfl]; omega), List.take_append_of_le_length (by rw [List.length_drop, hfl]; omega), flat_at hk l i hi]
theorem zcells_len {z : List Value} (n : Nat) : (zcells z n).length = n * z.length := by
 induction n with
 | zero => simp [zcells, rep]
 | succ n ih => simp_all [zcells, rep, List.replicate_succ, Nat.add_mul]; omega
theorem zcells_one {z : List Value} (h : z.all (·.oneCell') = true) (n : Nat) : (zcells z n).all (·.oneCell') = true := by
 induction n with
 | zero => simp [zcells, rep]
 | succ n ih => simp_all [zcells, rep, List.replicate_succ]
theorem setc_end (hk : ∀ x, (enc x).length = sz) {b t k : Nat} {el : TypeId} {l : List α} {rest z : List Value} (hz : z.length = sz) (hz1 : z.all (·.oneCell') = true) (hH : H b = some (.cells (l.flatMap enc ++ rest) sz (some t) false (some el))) (hkl : k ≤ l.length) :
  ∃ rest', setc H ⟨b, 0 + k * sz, some t⟩ (zcells z (l.length - k)) = some (.cells ((l.take k).flatMap enc ++ rest') sz (some t) false (some el)) := by
 have hfl := flat_len hk l
 have hft := flat_len hk (l.take k)
 have hsplit : l.flatMap enc = (l.take k).flatMap enc ++ (l.drop k).flatMap enc := by rw [← List.flatMap_append, List.take_append_drop]
 have hmul : (l.length - k) * sz + k * sz = l.length * sz := by rw [← Nat.add_mul]; congr 1; omega
 refine ⟨zcells z (l.length - k) ++ ((l.flatMap enc ++ rest).drop (k * sz + (zcells z (l.length - k)).length)), ?_⟩
 unfold setc
 simp only [hH, Nat.zero_add]
 rw [if_pos ⟨trivial, by rw [List.length_append, hfl, zcells_len, hz]; omega, trivial, zcells_one hz1 _⟩]
 have ht : (l.flatMap enc ++ rest).take (k * sz) = (l.take k).flatMap enc := by
  rw [hsplit, List.append_assoc, List.take_append_of_le_length (by rw [hft, List.length_take, Nat.min_eq_left hkl]; exact Nat.le_refl _), List.take_of_length_le (by rw [hft, List.length_take, Nat.min_eq_left hkl]; exact Nat.le_refl _)]
 rw [ht, List.append_assoc]
end
section
variable {P : Program} {W0 : World} {H : Heap} {nx n : Nat} {type : TypeId} {pos : String} {after : Array Edge} {ops : Array Oper} {l : List Oper} {tm : Nat → Value} {QQ : ASt → Prop}
theorem OpsL.clear {t el : TypeId} {x : Operand} {a : Addr} {m c : Nat} {z : List Value} {o : AObj} (hx : ASt.ev ⟨tm, n, H, nx⟩ x = some (.slice (some a) m c)) (hu : P.underlying t = some (.slice el)) (hz : zeroOf P el = some z) (hm : m ≠ 0) (hs : setc H a (zcells z m) = some o) (h : OpsL P W0 ops l ⟨tm, n, H.put a.block o, nx⟩ QQ) :
  OpsL P W0 ops (⟨none, .call ⟨.builtin .clear, #[x], #[t]⟩, type, pos, after, none⟩ :: l) ⟨tm, n, H, nx⟩ QQ := by
 refine OpsL.upd (v := .tuple #[]) ?_ h
 have hc : aClear P H #[t] (.slice (some a) m c) = none := by simp [aClear, hu]
 simp [aop, evAll, hx, aBuiltin, hc, aClearS, hu, hm, hz, hs]
end
end Go.Am
namespace Go.Am
set_option linter.unusedSimpArgs false
set_option linter.unusedVariables false
section
variable {α : Type} {lt : α → α → Prop}
def StrictL (lt : α → α → Prop) (l : List α) : Prop := l.Pairwise lt
def SortedL (lt : α → α → Prop) (l : List α) : Prop := l.Pairwise fun x y => ¬ lt y x
structure OrdL (lt : α → α → Prop) : Prop where
 irr : ∀ x, ¬ lt x x
 tr : ∀ {x y z}, lt x y → lt y z → lt x z
 tot : ∀ {x y}, ¬ lt x y → ¬ lt y x → x = y
theorem strictL_ext (ho : OrdL lt) : ∀ (l r : List α), StrictL lt l → StrictL lt r → (∀ x, x ∈ l ↔ x ∈ r) → l = r := by
 intro l
 induction l with
 | nil =>
  intro r _ _ h
  cases r with
  | nil => rfl
  | cons y r => exact absurd ((h y).2 List.mem_cons_self) (by simp)
 | cons x l ih =>
  intro r hl hr h
  cases r with
  | nil => exact absurd ((h x).1 List.mem_cons_self) (by simp)
  | cons y r =>
   unfold StrictL at *
   rw [List.pairwise_cons] at hl hr
   have hxy : x = y := by
    rcases List.mem_cons.1 ((h x).1 List.mem_cons_self) with e | hx
    ·exact e
    ·rcases List.mem_cons.1 ((h y).2 List.mem_cons_self) with e | hy
     ·exact e.symm
     ·exact absurd (ho.tr (hr.1 x hx) (hl.1 y hy)) (ho.irr _)
   subst hxy
   congr 1
   refine ih r hl.2 hr.2 fun z => ?_
   constructor
   ·intro hz
    rcases List.mem_cons.1 ((h z).1 (List.mem_cons_of_mem _ hz)) with e | hz'
    ·subst e; exact absurd (hl.1 z hz) (ho.irr _)
    ·exact hz'
   ·intro hz
    rcases List.mem_cons.1 ((h z).2 (List.mem_cons_of_mem _ hz)) with e | hz'
    ·subst e; exact absurd (hr.1 z hz) (ho.irr _)
    ·exact hz'
variable [DecidableEq α]
theorem strictL_ded (ho : OrdL lt) (l : List α) (h : SortedL lt l) : StrictL lt (dedF l) := by
 have key : ∀ n, n ≤ l.length → StrictL lt (dedF (l.take n)) ∧ ∀ x ∈ dedF (l.take n), ∀ j (hj : j < l.length), n ≤ j → ¬ lt l[j] x := by
  have hmem : ∀ n, ∀ x ∈ dedF (l.take n), ∀ j (hj : j < l.length), n ≤ j → ¬ lt l[j] x := fun n x hx j hj hnj => by
   rw [dedF_mem] at hx
   obtain ⟨i, hi, rfl⟩ := List.getElem_of_mem hx
   rw [List.length_take] at hi
   rw [List.getElem_take]
   exact List.pairwise_iff_getElem.1 h i j (by omega) hj (by omega)
  intro n
  induction n with
  | zero => intro _; exact ⟨List.Pairwise.nil, fun x hx => by cases hx⟩
  | succ n ih =>
   intro hn
   refine ⟨?_, hmem (n + 1)⟩
   obtain ⟨i1, i2⟩ := ih (by omega)
   by_cases h0 : 0 < n
   ·rw [dedF_take l h0 (by omega)]
    split
    ·exact i1
    ·rename_i hne
     refine List.pairwise_append.2 ⟨i1, List.pairwise_singleton _ _, fun x hx y hy => ?_⟩
     rw [List.mem_singleton] at hy
     subst hy
     by_cases hlt : lt x l[n]
     ·exact hlt
     ·have hxe : x = l[n] := ho.tot hlt (i2 x hx n (by omega) (Nat.le_refl _))
      rw [dedF_mem] at hx
      obtain ⟨i, hi, hxi⟩ := List.getElem_of_mem hx
      rw [List.length_take] at hi
      rw [List.getElem_take] at hxi
      exfalso
      have h1 : ¬ lt l[n - 1] l[i] := by
       by_cases e : i = n - 1
       ·subst e; exact ho.irr _
       ·exact List.pairwise_iff_getElem.1 h i (n - 1) (by omega) (by omega) (by omega)
      have h2 : ¬ lt l[n] l[n - 1] := List.pairwise_iff_getElem.1 h (n - 1) n (by omega) (by omega) (by omega)
      have e1 : l[i] = l[n] := hxi.trans hxe
      rw [e1] at h1
      exact hne (ho.tot h1 h2)
   ·have : n = 0 := by omega
    subst this
    rw [dedF_one _ (by simp; omega)]
    match l.take 1, (by simp; omega : (l.take 1).length ≤ 1) with
    | [], _ => exact List.Pairwise.nil
    | [x], _ => exact List.pairwise_singleton _ _
 have := (key l.length (Nat.le_refl _)).1
 rwa [List.take_length] at this
def insL (lt : α → α → Prop) [DecidableRel lt] (x : α) : List α → List α
 | [] => [x]
 | y :: l => if lt x y then x :: y :: l else if x = y then y :: l else y :: insL lt x l
def tidyL (lt : α → α → Prop) [DecidableRel lt] (l : List α) : List α := l.foldr (insL lt) []
variable [DecidableRel lt]
theorem insL_mem (x z : α) (l : List α) : z ∈ insL lt x l ↔ z = x ∨ z ∈ l := by
 induction l with
 | nil => simp [insL]
 | cons y l ih =>
  unfold insL
  split
  ·simp
  ·split
   ·rename_i h; subst h; simp
   ·simp only [List.mem_cons, ih]
    constructor
    ·rintro (h | h | h)
     ·exact .inr (.inl h)
     ·exact .inl h
     ·exact .inr (.inr h)
    ·rintro (h | h | h)
     ·exact .inr (.inl h)
     ·exact .inl h
     ·exact .inr (.inr h)
theorem insL_strict (ho : OrdL lt) (x : α) {l : List α} (h : StrictL lt l) : StrictL lt (insL lt x l) := by
 induction l with
 | nil => exact List.pairwise_singleton _ _
 | cons y l ih =>
  unfold StrictL at h
  rw [List.pairwise_cons] at h
  unfold insL
  split
  ·rename_i hxy
   exact List.pairwise_cons.2 ⟨fun z hz => by
    rcases List.mem_cons.1 hz with rfl | hz
    ·exact hxy
    ·exact ho.tr hxy (h.1 z hz), List.pairwise_cons.2 h⟩
  ·split
   ·exact List.pairwise_cons.2 h
   ·rename_i h1 h2
    refine List.pairwise_cons.2 ⟨fun z hz => ?_, ih h.2⟩
    rcases (insL_mem x z l).1 hz with rfl | hz
    ·by_cases h3 : lt y z
     ·exact h3
     ·exact absurd (ho.tot h1 h3) h2
    ·exact h.1 z hz
theorem tidyL_strict (ho : OrdL lt) (l : List α) : StrictL lt (tidyL lt l) := by
 induction l with
 | nil => exact List.Pairwise.nil
 | cons x l ih => exact insL_strict ho x ih
theorem tidyL_mem (x : α) (l : List α) : x ∈ tidyL lt l ↔ x ∈ l := by
 induction l with
 | nil => exact Iff.rfl
 | cons y l ih =>
  show x ∈ insL lt y (tidyL lt l) ↔ _
  rw [insL_mem, ih, List.mem_cons]
theorem tidyL_eq (ho : OrdL lt) {l r : List α} (h1 : StrictL lt r) (h2 : ∀ x, x ∈ r ↔ x ∈ l) : r = tidyL lt l :=
 strictL_ext ho _ _ h1 (tidyL_strict ho l) fun x => by rw [h2, tidyL_mem]
theorem insL_len (x : α) (l : List α) : (insL lt x l).length ≤ l.length + 1 := by
 induction l with
 | nil => simp [insL]
 | cons y l ih =>
  unfold insL
  split
  ·simp
  ·split
   ·simp
   ·simp only [List.length_cons]; omega
theorem tidyL_len (l : List α) : (tidyL lt l).length ≤ l.length := by
 induction l with
 | nil => exact Nat.le_refl _
 | cons y l ih =>
  have := insL_len (lt := lt) y (tidyL lt l)
  show (insL lt y (tidyL lt l)).length ≤ l.length + 1
  omega
end
def lt4 (x y : R4) : Prop := x.1 < y.1 ∨ (x.1 = y.1 ∧ (x.2.1 < y.2.1 ∨ (x.2.1 = y.2.1 ∧ (x.2.2.1 < y.2.2.1 ∨ (x.2.2.1 = y.2.2.1 ∧ x.2.2.2 < y.2.2.2)))))
def lt3 (x y : R3) : Prop := x.1 < y.1 ∨ (x.1 = y.1 ∧ (x.2.1 < y.2.1 ∨ (x.2.1 = y.2.1 ∧ x.2.2 < y.2.2)))
def lt1 (x y : Int) : Prop := x < y
instance : DecidableRel lt4 := fun x y => by unfold lt4; infer_instance
instance : DecidableRel lt3 := fun x y => by unfold lt3; infer_instance
instance : DecidableRel lt1 := fun x y => by unfold lt1; infer_instance
theorem ord4 : OrdL lt4 where
 irr x := by unfold lt4; omega
 tr h1 h2 := by unfold lt4 at *; omega
 tot {x y} h1 h2 := by
  obtain ⟨a, b, c, d⟩ := x
  obtain ⟨a2, b2, c2, d2⟩ := y
  unfold lt4 at *
  simp only at *
  have e1 : a = a2 := by omega
  have e2 : b = b2 := by omega
  have e3 : c = c2 := by omega
  have e4 : d = d2 := by omega
  rw [e1, e2, e3, e4]
theorem ord3 : OrdL lt3 where
 irr x := by unfold lt3; omega
 tr h1 h2 := by unfold lt3 at *; omega
 tot {x y} h1 h2 := by
  obtain ⟨a, b, c⟩ := x
  obtain ⟨a2, b2, c2⟩ := y
  unfold lt3 at *
  simp only at *
  have e1 : a = a2 := by omega
  have e2 : b = b2 := by omega
  have e3 : c = c2 := by omega
  rw [e1, e2, e3]
theorem ord1 : OrdL lt1 where
 irr x := by unfold lt1; omega
 tr h1 h2 := by unfold lt1 at *; omega
 tot h1 h2 := by unfold lt1 at *; omega
def orF : List Int → Int
 | [] => 0
 | x :: l => if x ≠ 0 then x else orF l
def normA (a : Aut) : Aut := ⟨a.N, a.G, tidyL lt1 a.init, tidyL lt1 a.final, tidyL lt4 a.opens, tidyL lt4 a.closes, tidyL lt3 a.inners⟩
end Go.Am
namespace Go.Am
set_option linter.unusedSimpArgs false
set_option linter.unusedVariables false
open Go.RowKit
open Go.Sort hiding Below
theorem grow_of_bel {W w' : World} (h : BelD W.heap.size W w') : ∃ q os', w' = grow (W.drewN q) os' := by
 refine ⟨w'.drawn - W.drawn, w'.heap.extract W.heap.size w'.heap.size, ?_⟩
 have hd := h.drawn
 have hh : w'.heap = W.heap ++ w'.heap.extract W.heap.size w'.heap.size := by
  apply Array.ext_getElem?
  intro i
  by_cases hi : i < W.heap.size
  ·rw [Array.getElem?_append_left hi, h.block i hi]
  ·rw [Array.getElem?_append_right (by omega), Array.getElem?_extract]
   have hs := h.size
   by_cases h2 : i < w'.heap.size
   ·rw [if_pos (by omega)]
    congr 1; omega
   ·rw [if_neg (by omega), Array.getElem?_eq_none (by omega)]
 obtain ⟨h1, h2, h3, h4, h5, h6⟩ := h
 cases w'
 simp only [grow, World.drewN] at *
 subst h1 h2 h3
 congr 1
 omega
def plainA : Value → Bool
 | .agg a => a.toList.all plain1
 | v => plain1 v
theorem plainA_VR {nx : Nat} {H : Heap} {C : Corr} {v : Value} (h : plainA v = true) : VR nx H C v v := by
 cases v with
 | agg a =>
  refine .agg a a rfl fun i p q => plain1_VR (List.all_eq_true.1 h _ ?_)
  simp
 | _ => exact plain1_VR h
variable {P : Program}
theorem lays_of_acalls {f : FuncId} {args : List Value} {r : Value} (ha : args.all plainA = true) (hr : plain1 r = true)
  (h : ∀ w nx H, ACalls P w f args nx H fun v _ _ => v = r) (W : World) : Calls P f args.toArray W fun e w' => e = .returned r ∧ ∃ q os', w' = grow (W.drewN q) os' := by
 refine (h W NG (tabTree []).get (Corr.tab W) W args (Rel.tabs Tabs.nil (BelD.refl _ _)) ⟨rfl, fun i p _ => plainA_VR (List.all_eq_true.1 ha _ (List.getElem_mem p))⟩).mono ?_
 rintro e w' ⟨v, v', C', nx', H', rfl, rfl, hR', hv, hS⟩
 refine ⟨?_, grow_of_bel hR'.below⟩
 cases hv <;> first | rfl | (simp [plain1] at hr)
theorem ACalls.weaken {P : Program} {W0 : World} {nx : Nat} {H : Heap} {f : FuncId} {args : List Value} {R R' : Value → Nat → Heap → Prop} (h : ACalls P W0 f args nx H R) (hq : ∀ v n G, R v n G → R' v n G) : ACalls P W0 f args nx H R' := fun C w args' hR ha => by
 refine (h C w args' hR ha).mono ?_
 rintro e w' ⟨v, v', C', nx', H', h1, h2, h3⟩
 exact ⟨v, v', C', nx', H', h1, hq _ _ _ h2, h3⟩
end Go.Am
namespace Go.Proofs.YtjohiaoepbnicaaGreat
set_option linter.unusedSimpArgs false
set_option linter.unusedVariables false
open Go.Shelf Go.RowKit Go.Lib Go.Am
open Go.Sort hiding Below
shelf_lay_g SlLaysC2.n5 Slgc 5 at Tryz 46 as cmpIntL
abbrev enc4 : R4 → List Value := e4
abbrev enc3 : R3 → List Value := e3
abbrev enc1 : Int → List Value := encN
theorem enc1_flat (l : List Int) : l.flatMap enc1 = l.map (.int .i64 ·) := by
 induction l with
 | nil => rfl
 | cons x l ih => rw [List.flatMap_cons, ih]; rfl
theorem enc4_len (x : R4) : (enc4 x).length = 4 := rfl
theorem enc3_len (x : R3) : (enc3 x).length = 3 := rfl
theorem enc1_len (x : Int) : (enc1 x).length = 1 := rfl
theorem enc4_one (x : R4) : (enc4 x).all (·.oneCell') = true := rfl
theorem enc3_one (x : R3) : (enc3 x).all (·.oneCell') = true := rfl
theorem enc1_one (x : Int) : (enc1 x).all (·.oneCell') = true := rfl
theorem mixedO : Tryz.prog.follows .mixedOrders = true := by kernel_rfl
def Fresh (nx : Nat) (H : Heap) (nx' : Nat) (H' : Heap) (ob : Option (Nat × Nat)) : Prop := Ext nx H nx' H' ∧ ∀ b t, ob = some (b, t) → nx ≤ b ∧ b < nx'
def cmp4 (x y : R4) : Int := orF [Lib.compareInt x.1 y.1, Lib.compareInt x.2.1 y.2.1, Lib.compareInt x.2.2.1 y.2.2.1, Lib.compareInt x.2.2.2 y.2.2.2]
def cmp3 (x y : R3) : Int := orF [Lib.compareInt x.1 y.1, Lib.compareInt x.2.1 y.2.1, Lib.compareInt x.2.2 y.2.2]
theorem cmpInt_sign (x y : Int) : (x < y ∧ Lib.compareInt x y = -1) ∨ (x = y ∧ Lib.compareInt x y = 0) ∨ (y < x ∧ Lib.compareInt x y = 1) := by
 unfold Lib.compareInt
 by_cases h : x < y
 ·exact .inl ⟨h, by simp [h]⟩
 ·by_cases h2 : y < x
  ·exact .inr (.inr ⟨h2, by simp [h, h2]⟩)
  ·exact .inr (.inl ⟨by omega, by simp [h, h2]⟩)
theorem cmp1_lt (x y : Int) : Lib.compareInt x y < 0 ↔ lt1 x y := by
 unfold lt1
 rcases cmpInt_sign x y with ⟨h, e⟩ | ⟨h, e⟩ | ⟨h, e⟩ <;> rw [e] <;> omega
theorem orF_cons_lt (x y : Int) (l : List Int) : orF (Lib.compareInt x y :: l) < 0 ↔ x < y ∨ (x = y ∧ orF l < 0) := by
 have e0 : orF (Lib.compareInt x y :: l) = if Lib.compareInt x y ≠ 0 then Lib.compareInt x y else orF l := rfl
 rw [e0]
 rcases cmpInt_sign x y with ⟨h, e⟩ | ⟨h, e⟩ | ⟨h, e⟩ <;> rw [e] <;> simp <;> omega
theorem cmp4_lt (x y : R4) : cmp4 x y < 0 ↔ lt4 x y := by
 unfold cmp4 lt4
 rw [orF_cons_lt, orF_cons_lt, orF_cons_lt, orF_cons_lt]
 simp [orF]
theorem cmp3_lt (x y : R3) : cmp3 x y < 0 ↔ lt3 x y := by
 unfold cmp3 lt3
 rw [orF_cons_lt, orF_cons_lt, orF_cons_lt]
 simp [orF]
theorem cmpI_calls (x y : Int) (W : World) : Calls Tryz.prog 46 #[.int .i64 x, .int .i64 y] W fun e w' => e = .returned (.int .i64 (Lib.compareInt x y)) ∧ ∃ q os', w' = grow (W.drewN q) os' := by
 have h1 := AnyG.cmp_Compare_int cmpIntL x y W
 refine h1.mono ?_
 rintro e w' ⟨h2, h3⟩
 exact ⟨h2, 0, #[], by rw [h3]; simp [grow, World.drewN]⟩
theorem entersCmpI : Am.Enters Tryz.prog 46 := ⟨Tryz.f46, Tryz.func46, by kernel_rfl, by kernel_rfl⟩
theorem cmpIC (W0 : World) {nx : Nat} {H : Heap} (x y : Int) : ACalls Tryz.prog W0 46 [.int .i64 x, .int .i64 y] nx H fun v nx' H' => v = .int .i64 (Lib.compareInt x y) ∧ nx' = nx ∧ H' = H :=
 (told_of_calls (W0 := W0) (P := Tryz.prog) (f := 46) (args := [.int .i64 x, .int .i64 y]) (r := .int .i64 (Lib.compareInt x y)) entersCmpI rfl rfl (fun w => (AnyG.cmp_Compare_int cmpIntL x y w).mono (by
  rintro e w' ⟨h1, h2⟩
  subst h2
  exact ⟨h1, BelD.refl _ _⟩))).2 nx H
set_option maxRecDepth 20000 in
theorem eqO (H : Heap) (x y : R4) (r : Bool) (hr : decide (x = y) = r) : aEq Tryz.prog H 60 44 (.agg (enc4 x).toArray) (.agg (enc4 y).toArray) = some r := by
 have h1 : Tryz.prog.stoodInHeld 44 = false := by kernel_rfl
 obtain ⟨a, b, c, d⟩ := x
 obtain ⟨a2, b2, c2, d2⟩ := y
 have key : aEq Tryz.prog H 60 44 (.agg (enc4 (a, b, c, d)).toArray) (.agg (enc4 (a2, b2, c2, d2)).toArray) = some ((a == a2) && (b == b2) && (c == c2) && (d == d2)) := by
  cases h : (a == a2) <;> cases h2 : (b == b2) <;> cases h3 : (c == c2) <;> cases h4 : (d == d2) <;> simp [enc4, e4, aEq, eqFields, getPart, isAggD, h, h2, h3, h4, h1, Tryz.underlying44, Tryz.underlying3]
 rw [key, ← hr]
 congr 1
 rw [Bool.eq_iff_iff]
 simp [and_assoc]
set_option maxRecDepth 20000 in
theorem eqC (H : Heap) (x y : R4) (r : Bool) (hr : decide (x = y) = r) : aEq Tryz.prog H 60 46 (.agg (enc4 x).toArray) (.agg (enc4 y).toArray) = some r := by
 have h1 : Tryz.prog.stoodInHeld 46 = false := by kernel_rfl
 obtain ⟨a, b, c, d⟩ := x
 obtain ⟨a2, b2, c2, d2⟩ := y
 have key : aEq Tryz.prog H 60 46 (.agg (enc4 (a, b, c, d)).toArray) (.agg (enc4 (a2, b2, c2, d2)).toArray) = some ((a == a2) && (b == b2) && (c == c2) && (d == d2)) := by
  cases h : (a == a2) <;> cases h2 : (b == b2) <;> cases h3 : (c == c2) <;> cases h4 : (d == d2) <;> simp [enc4, e4, aEq, eqFields, getPart, isAggD, h, h2, h3, h4, h1, Tryz.underlying46, Tryz.underlying3]
 rw [key, ← hr]
 congr 1
 rw [Bool.eq_iff_iff]
 simp [and_assoc]
set_option maxRecDepth 20000 in
theorem eqN (H : Heap) (x y : R3) (r : Bool) (hr : decide (x = y) = r) : aEq Tryz.prog H 60 48 (.agg (enc3 x).toArray) (.agg (enc3 y).toArray) = some r := by
 have h1 : Tryz.prog.stoodInHeld 48 = false := by kernel_rfl
 obtain ⟨a, b, c⟩ := x
 obtain ⟨a2, b2, c2⟩ := y
 have key : aEq Tryz.prog H 60 48 (.agg (enc3 (a, b, c)).toArray) (.agg (enc3 (a2, b2, c2)).toArray) = some ((a == a2) && (b == b2) && (c == c2)) := by
  cases h : (a == a2) <;> cases h2 : (b == b2) <;> cases h3 : (c == c2) <;> simp [enc3, e3, aEq, eqFields, getPart, isAggD, h, h2, h3, h1, Tryz.underlying48, Tryz.underlying3]
 rw [key, ← hr]
 congr 1
 rw [Bool.eq_iff_iff]
 simp [and_assoc]
end Go.Proofs.YtjohiaoepbnicaaGreat
namespace Go.Proofs.YtjohiaoepbnicaaGreat
set_option linter.unusedSimpArgs false
set_option linter.unusedVariables false
open Go.RowKit Go.Am
attribute [local irreducible] aop OpsL Trip blockExit OpsD OpsK OpsR
abbrev AtO (H : Heap) (v : Value) (l : List (R4)) : Prop := RowsAt enc4 4 H v l
abbrev OwnO (H : Heap) (ob : Option (Nat × Nat)) (v : Value) (l : List (R4)) : Prop := OwnOf enc4 4 44 H ob v l
theorem entersGrowO : Am.Enters Tryz.prog 84 := ⟨Tryz.f84, Tryz.func84, by kernel_rfl, by kernel_rfl⟩
theorem entersConcO : Am.Enters Tryz.prog 68 := ⟨Tryz.f68, Tryz.func68, by kernel_rfl, by kernel_rfl⟩
set_option maxRecDepth 20000 in
set_option maxHeartbeats 4000000 in
theorem growOC (W0 : World) {nx m : Nat} {H : Heap} (hm : m ≤ 1000000) :
  ACalls Tryz.prog W0 84 [.slice none 0 0, .int .i64 m] nx H fun v nx' H' => ∃ ob, OwnO H' ob v [] ∧ Fresh nx H nx' H' ob := by
 refine ACalls.by_trip (fn := Tryz.f84) (c := _) Tryz.func84 rfl (fun tm n hn0 htm => ?_)
 have e0 : tm 0 = .slice none 0 0 := htm 0
 have e1 : tm 1 = .int .i64 m := htm 1
 clear htm
 replace hn0 : n = 27 := hn0
 repeat (first | (refine OpsL.q (by first | exact omv | exact oasg) ?_) | refine Trip.seq ?_ | refine Trip.ops ?_ | (refine OpsL.nil ?_; (change Trip _ _ _ _ _)))
 refine OpsL.lssF ?_
 repeat (refine OpsL.nil ?_; (change Trip _ _ _ _ _))
 refine Trip.ifF ?_
 repeat (first | refine OpsL.q (by exact omv) ?_ | refine Trip.seq ?_ | refine Trip.ops ?_ | (refine Trip.skip ?_; (change Trip _ _ _ _ _)))
 refine OpsL.q (aop_capN (by simp only [ASt.ev, tmPut, ↓reduceIte, Nat.reduceEqDiff, *]; rfl) (by exact rfl)) ?_
 repeat (first | (refine OpsL.q (by first | exact omv | exact olen | exact osub | exact oasg) ?_) | refine Trip.seq ?_ | refine Trip.ops ?_ | (refine OpsL.nil ?_; (change Trip _ _ _ _ _)))
 by_cases h0 : 0 < m
 ·refine OpsL.gtrT ?_
  repeat (refine OpsL.nil ?_; (change Trip _ _ _ _ _))
  refine Trip.ifT ?_
  repeat (first | refine OpsL.q (by exact omv) ?_ | refine Trip.ops ?_)
  refine OpsL.q (aop_capN (by simp only [ASt.ev, tmPut, ↓reduceIte, Nat.reduceEqDiff, *]; rfl) (by exact rfl)) ?_
  refine OpsL.q (aop_slice (r := .slice none 0 0) (a := none) (b := some (.int .i64 0)) (c := none) (by simp only [ASt.ev, tmPut, ↓reduceIte, Nat.reduceEqDiff, *]; done) rfl (by simp only [evOpt, ASt.ev, tmPut, ↓reduceIte, reduceIte, Option.some.injEq, Nat.reduceEqDiff, Option.map_some]; rfl) rfl (aSlice_nil (el := 44) (sz := 4) (by exact rfl) (by exact rfl) (.inl ⟨rfl, rfl⟩) (.inr ⟨.i64, rfl⟩))) ?_
  repeat (refine OpsL.q (by exact omv) ?_)
  refine OpsL.new (by subst_vars; decide) (aop_appendZ (k := m) (el := 44) (kd := .i64) (size := 4) (bytes := 32) (z := [.int .i64 0, .int .i64 0, .int .i64 0, .int .i64 0]) (by simp only [ASt.ev, tmPut, ↓reduceIte, Nat.reduceEqDiff, *]; done) (by simp only [ASt.ev, tmPut, ↓reduceIte, reduceIte, Nat.reduceEqDiff, plain1, *]; simp) (by exact rfl) (by exact rfl) (by exact rfl) (by exact rfl) (by exact rfl) rfl h0 (by omega) (by omega)) ?_
  repeat (refine OpsL.q (by first | exact omv | exact olen) ?_)
  refine OpsL.q (aop_slice (r := .slice (some ⟨nx, 0, some nx⟩) 0 0) (a := none) (b := some (.int .i64 0)) (c := none) (by simp only [ASt.ev, tmPut, ↓reduceIte, Nat.reduceEqDiff, *]; rfl) rfl (by simp only [evOpt, ASt.ev, tmPut, ↓reduceIte, reduceIte, Option.some.injEq, Nat.reduceEqDiff, Option.map_some]; rfl) rfl (by
   have := aSlice_tagged (P := Tryz.prog) (H := H.put nx (.cells (zcells [.int .i64 0, .int .i64 0, .int .i64 0, .int .i64 0] m) 4 (some nx) false (some 44))) (t := 26) (el := 44) (sz := 4) (a := ⟨nx, 0, some nx⟩) (len := m) (cap := m) (l := 0) (h := 0) (tg := nx) (lo := none) (hi := some (.int .i64 0)) (by exact rfl) (by exact rfl) Heap.put_eq rfl rfl rfl (.inl ⟨rfl, rfl⟩) (.inr ⟨.i64, rfl⟩) (Nat.le_refl _) (Nat.zero_le _)
   simpa using this)) ?_
  repeat (first | (refine OpsL.q (by first | exact omv | exact oasg) ?_) | refine Trip.seq ?_ | refine Trip.ops ?_ | (refine Trip.ret ?_; (dsimp only)) | (refine OpsL.nil ?_; (change Trip _ _ _ _ _)))
  refine ⟨.inr rfl, _, res_tmp, some (nx, nx), ?_, ⟨Ext.newPut, fun b t h => by cases h; exact ⟨Nat.le_refl _, Nat.lt_succ_self _⟩⟩⟩
  refine ⟨by simp [tmPut], rfl, zcells [.int .i64 0, .int .i64 0, .int .i64 0, .int .i64 0] m, ?_⟩
  rw [Heap.put_eq]
  simp
 ·refine OpsL.gtrF ?_
  repeat (refine OpsL.nil ?_; (change Trip _ _ _ _ _))
  refine Trip.ifF ?_
  repeat (first | (refine OpsL.q (by first | exact omv | exact oasg) ?_) | refine Trip.seq ?_ | refine Trip.ops ?_ | (refine Trip.skip ?_; (change Trip _ _ _ _ _)) | (refine Trip.ret ?_; (dsimp only)) | (refine OpsL.nil ?_; (change Trip _ _ _ _ _)))
  refine ⟨.inr rfl, _, res_tmp, none, ⟨by simp [tmPut, *], rfl, rfl⟩, Ext.refl, fun b t h => by cases h⟩
def RowsInO (H : Heap) (v : Value) (ls : List (Value × List (R4))) : Prop :=
 ∃ a, v = .slice (some ⟨a, 0, none⟩) ls.length ls.length ∧ H a = some (.cells (ls.map (·.1)) 1 none false (some 26)) ∧ ∀ x ∈ ls, AtO H x.1 x.2
def allOfO (ls : List (Value × List (R4))) : List (R4) := ls.flatMap (·.2)
theorem allOfO_take (ls : List (Value × List (R4))) {i : Nat} (h : i < ls.length) : allOfO (ls.take (i + 1)) = allOfO (ls.take i) ++ ls[i].2 := by
 unfold allOfO
 rw [List.take_add_one, List.getElem?_eq_getElem h, Option.toList_some, List.flatMap_append]
 simp
set_option maxRecDepth 20000 in
set_option maxHeartbeats 4000000 in
theorem concOC (W0 : World) {nx : Nat} {H : Heap} {v : Value} {ls : List (Value × List (R4))} (hr : RowsInO H v ls) (hm : (allOfO ls).length ≤ 100000) (hl : ls.length ≤ 100) :
  ACalls Tryz.prog W0 68 [v] nx H fun v nx' H' => ∃ ob, OwnO H' ob v (allOfO ls) ∧ Fresh nx H nx' H' ob := by
 obtain ⟨a, rfl, hH, hrows⟩ := hr
 refine ACalls.by_trip (fn := Tryz.f68) (c := _) Tryz.func68 rfl (fun tm n hn0 htm => ?_)
 have e0 : tm 0 = .slice (some ⟨a, 0, none⟩) ls.length ls.length := htm 0
 clear htm
 replace hn0 : n = 36 := hn0
 refine Trip.ok fun hok => ?_
 replace hok : ∀ id o, H id = some o → id < nx := hok
 have hcell : ∀ (G : Heap), G a = some (.cells (ls.map (·.1)) 1 none false (some 26)) → ∀ i (h : i < ls.length), cellAt G ⟨a, 0 + (i : Int).toNat * 1, none⟩ ls[i].1 := fun G hG i h => by
  have := cellAt_own (off := i) hG (by simpa using h)
  simpa using this
 have hlen : ∀ i, i ≤ ls.length → (allOfO (ls.take i)).length ≤ (allOfO ls).length := fun i hi => by
  have h1 : allOfO ls = allOfO (ls.take i) ++ allOfO (ls.drop i) := by
   unfold allOfO
   rw [← List.flatMap_append, List.take_append_drop]
  rw [h1, List.length_append]; omega
 repeat (first | (refine OpsL.q (by first | exact omv | exact oasg | exact olen) ?_) | refine Trip.seq ?_ | refine Trip.ops ?_ | refine Trip.block ?_ | (refine OpsL.nil ?_; (change Trip _ _ _ _ _)))
 refine Trip.inv (fun (i : Nat) st => ∃ (tm : Nat → Value), st = ⟨tm, n, H, nx⟩ ∧ tm 0 = .slice (some ⟨a, 0, none⟩) ls.length ls.length ∧ tm 9 = .slice (some ⟨a, 0, none⟩) ls.length ls.length ∧ tm 10 = .int .i64 ls.length ∧ tm 11 = .int .i64 i ∧ tm 3 = .int .i64 (allOfO (ls.take i)).length ∧ i ≤ ls.length) (fun i => ls.length - i) 0 ?_ ?_
 ·exact ⟨_, rfl, by simp [tmPut, *], by simp [tmPut, *], by simp [tmPut, *], by simp [tmPut, *], by simp [tmPut, allOfO], by omega⟩
 ·clear e0
  rintro i st ⟨tm, rfl, e0, e9, e10, e11, e3, hi⟩
  by_cases hlt : i < ls.length
  ·have hc := hcell H hH i hlt
   obtain ⟨ua, uc, hu⟩ := (hrows _ (List.getElem_mem hlt)).slice
   have hst := allOfO_take ls hlt
   have hl1 := hlen (i + 1) (by omega)
   rw [hst, List.length_append] at hl1
   rw [hu] at hc
   generalize ls[i].2 = us at *
   generalize allOfO (ls.take i) = zs at *
   repeat (first | refine Trip.seq ?_ | refine Trip.ops ?_)
   refine OpsL.lssT ?_
   repeat (first | refine Trip.seq ?_ | (refine OpsL.nil ?_; (change Trip _ _ _ _ _)))
   refine Trip.ifT ?_
   repeat (first | (refine OpsL.q (by first | exact omv | exact oasg | exact oixa | exact old | exact olen | exact oadd) ?_) | refine Trip.seq ?_ | refine Trip.ops ?_ | refine Trip.block ?_ | (refine Trip.skip ?_; (change Trip _ _ _ _ _)) | (refine OpsL.nil ?_; (change Trip _ _ _ _ _)))
   refine OpsL.lssF ?_
   repeat (refine OpsL.nil ?_; (change Trip _ _ _ _ _))
   refine Trip.ifF ?_
   repeat (first | (refine OpsL.q (by first | exact omv | exact oadd) ?_) | refine Trip.ops ?_ | (refine Trip.skip ?_; ((repeat (refine blockExit_normal ?_)); change Trip _ _ _ _ _)) | (refine OpsL.nil ?_; (dsimp only)))
   exact ⟨i + 1, ⟨_, rfl, by simp [tmPut, *], by simp [tmPut, *], by simp [tmPut, *], by simp [tmPut, *], by rw [hst]; simp [tmPut, *], by omega⟩, by omega⟩
  ·have hin : i = ls.length := by omega
   subst hin
   rw [List.take_length] at e3
   repeat (first | refine Trip.seq ?_ | refine Trip.ops ?_)
   refine OpsL.lssF ?_
   repeat (first | refine Trip.seq ?_ | (refine OpsL.nil ?_; (change Trip _ _ _ _ _)))
   refine Trip.ifF ?_
   repeat (first | refine OpsL.q (by exact omv) ?_ | refine Trip.seq ?_ | refine Trip.ops ?_ | (refine Trip.exit ?_; ((repeat (refine blockExit_eq ?_)); change Trip _ _ _ _ _)))
   refine OpsL.c2 (hf := entersGrowO) (hc := (growOC W0 (m := (allOfO ls).length) (by omega)).ok) (h := ?_)
   rintro gv nx1 H1 ⟨⟨ob1, ho1, hx1, hob1⟩, hok1⟩
   repeat (first | (refine OpsL.q (by first | exact omv | exact oasg | exact olen) ?_) | refine Trip.seq ?_ | refine Trip.ops ?_ | refine Trip.block ?_ | (refine OpsL.nil ?_; (change Trip _ _ _ _ _)))
   refine Trip.inv (fun (i : Nat) st => ∃ (tm : Nat → Value) (nx' : Nat) (H' : Heap) (ob : Option (Nat × Nat)) (v : Value), st = ⟨tm, n, H', nx'⟩ ∧ Fresh nx H nx' H' ob ∧ (∀ id o, H' id = some o → id < nx') ∧ OwnO H' ob v (allOfO (ls.take i)) ∧ tm 25 = .slice (some ⟨a, 0, none⟩) ls.length ls.length ∧ tm 26 = .int .i64 ls.length ∧ tm 27 = .int .i64 i ∧ tm 6 = v ∧ i ≤ ls.length) (fun i => ls.length - i) 0 ?_ ?_
   ·exact ⟨_, _, _, ob1, gv, rfl, ⟨hx1, hob1⟩, hok1, ho1, by simp [tmPut, *], by simp [tmPut, *], by simp [tmPut, *], by simp [tmPut, *], by omega⟩
   ·clear e0 e9 e10 e11 e3 ho1 hx1 hob1 hok1
    rintro i st ⟨tm, nx', H', ob, v, rfl, ⟨hx, hob⟩, hok', hown, e25, e26, e27, e6, hi⟩
    by_cases hlt : i < ls.length
    ·have hst := allOfO_take ls hlt
     have hl1 := hlen (i + 1) (by omega)
     rw [hst, List.length_append] at hl1
     have hrow := (hrows _ (List.getElem_mem hlt)).ext hx hok
     have hc := hcell H' (by rw [hx.2 a (hok _ _ hH)]; exact hH) i hlt
     obtain ⟨ua, uc, hu⟩ := hrow.slice
     rw [hu] at hc hrow
     generalize ls[i].2 = us at *
     generalize allOfO (ls.take i) = zs at *
     repeat (first | refine Trip.seq ?_ | refine Trip.ops ?_)
     refine OpsL.lssT ?_
     repeat (first | refine Trip.seq ?_ | (refine OpsL.nil ?_; (change Trip _ _ _ _ _)))
     refine Trip.ifT ?_
     repeat (first | (refine OpsL.q (by first | exact omv | exact oasg | exact oixa | exact old) ?_) | refine Trip.seq ?_ | refine Trip.ops ?_ | refine Trip.block ?_ | (refine Trip.skip ?_; (change Trip _ _ _ _ _)) | (refine OpsL.nil ?_; (change Trip _ _ _ _ _)))
     refine OpsL.appendO (bytes := 32) (z := [.int .i64 0, .int .i64 0, .int .i64 0, .int .i64 0]) enc4_len enc4_one (by omega) (by subst_vars; decide) hown hrow (by simp only [ASt.ev, tmPut, ↓reduceIte, Nat.reduceEqDiff, *]; done) (by simp only [ASt.ev, tmPut, ↓reduceIte, Nat.reduceEqDiff, *]; done) (fun b t h => (hob b t h).2) (by exact rfl) (by exact rfl) (by exact rfl) (by exact rfl) (by exact rfl) rfl (by omega) (by omega) ?_
     intro v' nx2 H2 ob2 hA
     repeat (first | (refine OpsL.q (by first | exact omv | exact oasg | exact oadd) ?_) | refine Trip.ops ?_ | (refine OpsL.nil ?_; ((repeat (refine blockExit_normal ?_)); first | (change Trip _ _ _ _ _) | (dsimp only))))
     refine ⟨i + 1, ⟨_, nx2, H2, ob2, v', rfl, ⟨⟨by have := hx.1; have := hA.le; omega, fun j hj => ?_⟩, fun b t h => ?_⟩, ?_, by rw [hst]; exact hA.own, by simp [tmPut, *], by simp [tmPut, *], by simp [tmPut, *], by simp [tmPut, *], by omega⟩, by omega⟩
     ·rw [hA.same j (by have := hx.1; omega) (fun b t h => by have := (hob b t h).1; omega), hx.2 j hj]
     ·obtain ⟨q1, q2⟩ := hA.blk b t h
      refine ⟨?_, q1⟩
      rcases q2 with rfl | ⟨t', h'⟩
      ·exact hx.1
      ·exact (hob _ _ h').1
     ·exact hA.ok (fun b t h => (hob b t h).2) hok'
    ·have hin : i = ls.length := by omega
     subst hin
     rw [List.take_length] at hown
     repeat (first | refine Trip.seq ?_ | refine Trip.ops ?_)
     refine OpsL.lssF ?_
     repeat (first | refine Trip.seq ?_ | (refine OpsL.nil ?_; (change Trip _ _ _ _ _)))
     refine Trip.ifF ?_
     repeat (first | (refine OpsL.q (by first | exact omv | exact oasg) ?_) | refine Trip.seq ?_ | refine Trip.ops ?_ | (refine Trip.exit ?_; ((repeat (refine blockExit_eq ?_)); change Trip _ _ _ _ _)) | (refine Trip.ret ?_; (dsimp only)) | (refine OpsL.nil ?_; (change Trip _ _ _ _ _)))
     exact ⟨.inr rfl, _, res_tmp, ob, by simp [tmPut, *], hx, hob⟩
end Go.Proofs.YtjohiaoepbnicaaGreat
namespace Go.Proofs.YtjohiaoepbnicaaGreat
set_option linter.unusedSimpArgs false
set_option linter.unusedVariables false
open Go.RowKit Go.Am
attribute [local irreducible] aop OpsL Trip blockExit OpsD OpsK OpsR
theorem entersCompO : Am.Enters Tryz.prog 70 := ⟨Tryz.f70, Tryz.func70, by kernel_rfl, by kernel_rfl⟩
set_option maxRecDepth 20000 in
set_option maxHeartbeats 4000000 in
theorem compOC (W0 : World) {nx : Nat} {H : Heap} {ob : Option (Nat × Nat)} {v : Value} {l : List (R4)} (h : OwnO H ob v l) (hl : l.length ≤ 100000) :
  ACalls Tryz.prog W0 70 [v] nx H fun v' nx' H' => nx' = nx ∧ OwnO H' ob v' (dedF l) ∧ ∀ i, (∀ b t, ob = some (b, t) → i ≠ b) → H' i = H i := by
 have hrow := h.at enc4_len
 obtain ⟨va, vc, rfl⟩ := hrow.slice
 refine ACalls.by_trip (fn := Tryz.f70) (c := _) Tryz.func70 rfl (fun tm n hn0 htm => ?_)
 have e0 : tm 0 = .slice va l.length vc := htm 0
 clear htm
 replace hn0 : n = 61 := hn0
 by_cases hsh : l.length < 2
 ·repeat (first | (refine OpsL.q (by first | exact omv | exact oasg | exact olen) ?_) | refine Trip.seq ?_ | refine Trip.ops ?_ | (refine OpsL.nil ?_; (change Trip _ _ _ _ _)))
  refine OpsL.lssT ?_
  repeat (refine OpsL.nil ?_; (change Trip _ _ _ _ _))
  refine Trip.ifT ?_
  repeat (first | (refine OpsL.q (by first | exact omv | exact oasg) ?_) | refine Trip.seq ?_ | refine Trip.ops ?_ | (refine Trip.ret ?_; (dsimp only)) | (refine OpsL.nil ?_; (change Trip _ _ _ _ _)))
  exact ⟨.inr rfl, _, res_tmp, rfl, by rw [dedF_one l (by omega)]; simp [tmPut, *], fun _ _ => rfl⟩
 ·obtain ⟨b, t, rfl⟩ : ∃ b t, ob = some (b, t) := by
   cases ob with
   | none => obtain ⟨_, _, h2⟩ := h; omega
   | some bt => exact ⟨_, _, rfl⟩
  obtain ⟨hv, _, rest, hH⟩ := h
  obtain ⟨rfl, _, rfl⟩ := Value.slice.inj hv
  have hS : ∀ (G : Heap) (A rest : List Value), G b = some (.cells (A ++ rest) 4 (some t) false (some 44)) → ∀ k, k < l.length → aSlice Tryz.prog G 26 (.slice (some ⟨b, 0, some t⟩) l.length l.length) (some (.int .i64 k)) none none = some (.slice (some ⟨b, 0 + k * 4, some t⟩) (l.length - k) (l.length - k)) := fun G A rest hG k hk => by
   have := aSlice_tagged (P := Tryz.prog) (H := G) (t := 26) (el := 44) (sz := 4) (a := ⟨b, 0, some t⟩) (len := l.length) (cap := l.length) (l := k) (h := l.length) (tg := t) (lo := some (.int .i64 k)) (hi := none) (by exact rfl) (by exact rfl) hG rfl rfl rfl (.inr ⟨.i64, rfl⟩) (.inl ⟨rfl, rfl⟩) (by omega) (Nat.le_refl _)
   rw [if_neg (by omega)] at this
   exact this
  have hS2 : ∀ (G : Heap) (A rest : List Value), G b = some (.cells (A ++ rest) 4 (some t) false (some 44)) → ∀ k, k ≤ l.length → aSlice Tryz.prog G 26 (.slice (some ⟨b, 0, some t⟩) l.length l.length) none (some (.int .i64 k)) none = some (.slice (some ⟨b, 0, some t⟩) k k) := fun G A rest hG k hk => by
   have := aSlice_tagged (P := Tryz.prog) (H := G) (t := 26) (el := 44) (sz := 4) (a := ⟨b, 0, some t⟩) (len := l.length) (cap := l.length) (l := 0) (h := k) (tg := t) (lo := none) (hi := some (.int .i64 k)) (by exact rfl) (by exact rfl) hG rfl rfl rfl (.inl ⟨rfl, rfl⟩) (.inr ⟨.i64, rfl⟩) (Nat.zero_le _) hk
   simpa using this
  repeat (first | (refine OpsL.q (by first | exact omv | exact oasg | exact olen) ?_) | refine Trip.seq ?_ | refine Trip.ops ?_ | (refine OpsL.nil ?_; (change Trip _ _ _ _ _)))
  refine OpsL.lssF ?_
  repeat (refine OpsL.nil ?_; (change Trip _ _ _ _ _))
  refine Trip.ifF ?_
  repeat (first | refine OpsL.q (by exact oasg) ?_ | refine Trip.seq ?_ | refine Trip.ops ?_ | refine Trip.block ?_ | (refine Trip.skip ?_; (change Trip _ _ _ _ _)) | (refine OpsL.nil ?_; (change Trip _ _ _ _ _)))
  refine Trip.inv (fun (k : Nat) st => ∃ (tm : Nat → Value), st = ⟨tm, n, H, nx⟩ ∧ tm 0 = .slice (some ⟨b, 0, some t⟩) l.length l.length ∧ tm 3 = .int .i64 k ∧ 1 ≤ k ∧ k ≤ l.length ∧ ∀ i (h : i < l.length), 0 < i → i < k → l[i - 1] ≠ l[i]) (fun k => l.length - k) 1 ?_ ?_
  ·exact ⟨_, rfl, by simp [tmPut, *], by simp [tmPut], by omega, by omega, fun i h h0 h1 => by omega⟩
  ·clear e0
   rintro k st ⟨tm, rfl, e0, e3, hk1, hk2, hne⟩
   by_cases hlt : k < l.length
   ·repeat (first | (refine OpsL.q (by first | exact omv | exact olen) ?_) | refine Trip.seq ?_ | refine Trip.ops ?_)
    refine OpsL.lssT ?_
    repeat (refine OpsL.nil ?_; (change Trip _ _ _ _ _))
    refine Trip.ifT ?_
    repeat (first | refine Trip.seq ?_ | refine Trip.block ?_ | (refine Trip.skip ?_; (change Trip _ _ _ _ _)))
    have g1 := getc_flat enc4_len hH hlt
    have g2 := getc_flat enc4_len hH (show k - 1 < l.length by omega)
    refine Trip.mono (Q := fun e st => e = .normal ∧ ∃ (tm' : Nat → Value), st = ⟨tm', n, H, nx⟩ ∧ tm' 25 = .bool (decide (l[k] = l[k - 1])) ∧ tm' 0 = .slice (some ⟨b, 0, some t⟩) l.length l.length ∧ tm' 3 = .int .i64 k) ?_ ?_
    ·refine OpsK.drawn (K := fun _ _ => True) mixedO (by kernel_rfl) (by kernel_rfl) trivial ?_
     refine OpsK.one rfl (by kernel_rfl) ?_
     repeat (first | refine OpsL.q (by exact omv) ?_ | (refine OpsL.nil ?_; (skip)))
     refine OpsK.one rfl (by kernel_rfl) ?_
     repeat (first | refine OpsL.q (by exact omv) ?_ | (refine OpsL.nil ?_; (skip)))
     refine OpsK.one rfl (by kernel_rfl) ?_
     repeat (first | refine OpsL.q (by exact oixa) ?_ | (refine OpsL.nil ?_; (dsimp only)))
     refine OpsK.one rfl (by kernel_rfl) ?_
     refine OpsL.q (aop_loadAgg (k := 4) (vs := enc4 l[k]) (by simp only [ASt.ev, tmPut, ↓reduceIte, Nat.reduceEqDiff, *]; rfl) (by exact rfl) rfl (by exact rfl) (by show getc H ⟨b, 0 + (k : Int).toNat * 4, some t⟩ 4 = _; rw [Int.toNat_natCast]; exact g1)) ?_
     repeat (refine OpsL.nil ?_; (skip))
     refine OpsK.one rfl (by kernel_rfl) ?_
     repeat (first | refine OpsL.q (by exact omv) ?_ | (refine OpsL.nil ?_; (skip)))
     refine OpsK.one rfl (by kernel_rfl) ?_
     repeat (first | refine OpsL.q (by exact omv) ?_ | (refine OpsL.nil ?_; (skip)))
     refine OpsK.one rfl (by kernel_rfl) ?_
     repeat (first | refine OpsL.q (by exact osub) ?_ | (refine OpsL.nil ?_; (skip)))
     refine OpsK.one rfl (by kernel_rfl) ?_
     repeat (first | refine OpsL.q (by exact oixa) ?_ | (refine OpsL.nil ?_; (dsimp only)))
     refine OpsK.one rfl (by kernel_rfl) ?_
     refine OpsL.q (aop_loadAgg (k := 4) (vs := enc4 l[k - 1]) (by simp only [ASt.ev, tmPut, ↓reduceIte, Nat.reduceEqDiff, *]; rfl) (by exact rfl) rfl (by exact rfl) (by show getc H ⟨b, 0 + ((k : Int) - 1).toNat * 4, some t⟩ 4 = _; rw [show ((k : Int) - 1).toNat = k - 1 by omega]; exact g2)) ?_
     repeat (refine OpsL.nil ?_; (skip))
     refine OpsK.one rfl (by kernel_rfl) ?_
     refine OpsL.q (aop_eqlA (r := decide (l[k] = l[k - 1])) (by simp only [ASt.ev, tmPut, ↓reduceIte, Nat.reduceEqDiff, *]; done) (by simp only [ASt.ev, tmPut, ↓reduceIte, Nat.reduceEqDiff, *]; done) (by kernel_rfl) (eqO _ _ _ _ rfl)) ?_
     repeat (refine OpsL.nil ?_; (skip))
     refine OpsK.nil ?_
     exact ⟨rfl, _, rfl, by simp [tmPut], by simp [tmPut, *], by simp [tmPut, *]⟩
    ·rintro e st ⟨rfl, tm', rfl, e25, e0, e3⟩
     dsimp only
     clear g1 g2
     by_cases heq : l[k] = l[k - 1]
     ·rw [decide_eq_true heq] at e25
      repeat fail
      refine Trip.ifT ?_
      repeat (first | refine OpsL.q (by exact omv) ?_ | refine Trip.seq ?_ | refine Trip.ops ?_)
      refine OpsL.q (aop_slice (a := some (.int .i64 k)) (b := none) (c := none) (by simp only [ASt.ev, tmPut, ↓reduceIte, Nat.reduceEqDiff, *]; done) (by simp only [evOpt, ASt.ev, tmPut, ↓reduceIte, reduceIte, Option.some.injEq, Nat.reduceEqDiff, Option.map_some, *]) rfl rfl (hS H _ _ hH k hlt)) ?_
      repeat (first | refine OpsL.q (by exact oasg) ?_ | refine Trip.seq ?_ | refine Trip.ops ?_ | refine Trip.block ?_ | (refine OpsL.nil ?_; (change Trip _ _ _ _ _)))
      have hd0 : dedF (l.take (k + 1)) = l.take k := by
       rw [dedF_take l (by omega) hlt, if_pos heq.symm]
       exact dedF_same l k (by omega) (fun i hi a c => hne i hi a c)
      refine Trip.inv (fun (k2 : Nat) st => ∃ (tm : Nat → Value) (H' : Heap) (A : List (R4)) (rest : List Value) (kk : Nat), st = ⟨tm, n, H', nx⟩ ∧ H' b = some (.cells (A.flatMap enc4 ++ rest) 4 (some t) false (some 44)) ∧ A.length = l.length ∧ (∀ i, i ≠ b → H' i = H i) ∧ tm 0 = .slice (some ⟨b, 0, some t⟩) l.length l.length ∧ tm 3 = .int .i64 kk ∧ tm 4 = .slice (some ⟨b, 0 + k * 4, some t⟩) (l.length - k) (l.length - k) ∧ tm 5 = .int .i64 k2 ∧
       1 ≤ kk ∧ kk ≤ k + k2 - 1 ∧ 1 ≤ k2 ∧ k2 ≤ l.length - k ∧ A.take kk = dedF (l.take (k + k2)) ∧ A.drop (k + k2 - 1) = l.drop (k + k2 - 1)) (fun k2 => l.length - k - k2) 1 ?_ ?_
      ·exact ⟨_, H, l, rest, k, rfl, hH, rfl, fun _ _ => rfl, by simp [tmPut, *], by simp [tmPut, *], by simp [tmPut, *], by simp [tmPut, *], by omega, by omega, by omega, by omega, hd0.symm, rfl⟩
      ·clear e0 e3 e25
       rintro k2 st ⟨tm, H', A, rest', kk, rfl, hG, hAl, hsame, e0, e3, e4, e5, k1, k3, k4, k5, hta, hda⟩
       by_cases hlt2 : k + k2 < l.length
       ·have hA1 : A[k + k2]'(by omega) = l[k + k2] := by
         have : (A.drop (k + k2 - 1))[1]? = (l.drop (k + k2 - 1))[1]? := by rw [hda]
         rw [List.getElem?_drop, List.getElem?_drop, show k + k2 - 1 + 1 = k + k2 by omega, List.getElem?_eq_getElem (by omega), List.getElem?_eq_getElem hlt2] at this
         exact Option.some.inj this
        have hA2 : A[k + k2 - 1]'(by omega) = l[k + k2 - 1] := by
         have : (A.drop (k + k2 - 1))[0]? = (l.drop (k + k2 - 1))[0]? := by rw [hda]
         rw [List.getElem?_drop, List.getElem?_drop, Nat.add_zero, List.getElem?_eq_getElem (by omega), List.getElem?_eq_getElem (by omega)] at this
         exact Option.some.inj this
        have hstep := dedF_take l (m := k + k2) (by omega) hlt2
        have hdn : A.drop (k + (k2 + 1) - 1) = l.drop (k + (k2 + 1) - 1) := by
         have := congrArg (List.drop 1) hda
         rw [List.drop_drop, List.drop_drop] at this
         rw [show k + (k2 + 1) - 1 = k + k2 - 1 + 1 by omega]; exact this
        have g1 := getc_flat enc4_len hG (show k + k2 < A.length by omega)
        have g2 := getc_flat enc4_len hG (show k + k2 - 1 < A.length by omega)
        rw [hA1] at g1
        rw [hA2] at g2
        replace g1 : getc H' ⟨b, 0 + k * 4 + (k2 : Int).toNat * 4, some t⟩ 4 = some (enc4 l[k + k2]) := by
         rw [Int.toNat_natCast, show 0 + k * 4 + k2 * 4 = 0 + (k + k2) * 4 by omega]; exact g1
        replace g2 : getc H' ⟨b, 0 + k * 4 + ((k2 : Int) - 1).toNat * 4, some t⟩ 4 = some (enc4 l[k + k2 - 1]) := by
         rw [show 0 + k * 4 + ((k2 : Int) - 1).toNat * 4 = 0 + (k + k2 - 1) * 4 by omega]; exact g2
        repeat (first | (refine OpsL.q (by first | exact omv | exact olen) ?_) | refine Trip.seq ?_ | refine Trip.ops ?_)
        refine OpsL.lssT ?_
        repeat (refine OpsL.nil ?_; (change Trip _ _ _ _ _))
        refine Trip.ifT ?_
        repeat (first | refine Trip.seq ?_ | refine Trip.block ?_ | (refine Trip.skip ?_; (change Trip _ _ _ _ _)))
        refine Trip.mono (Q := fun e st => e = .normal ∧ ∃ (tm' : Nat → Value), st = ⟨tm', n, H', nx⟩ ∧ tm' 44 = .bool (!decide (l[k + k2] = l[k + k2 - 1])) ∧ tm' 0 = .slice (some ⟨b, 0, some t⟩) l.length l.length ∧ tm' 3 = .int .i64 kk ∧ tm' 4 = .slice (some ⟨b, 0 + k * 4, some t⟩) (l.length - k) (l.length - k) ∧ tm' 5 = .int .i64 k2) ?_ ?_
        ·refine OpsK.drawn (K := fun _ _ => True) mixedO (by kernel_rfl) (by kernel_rfl) trivial ?_
         refine OpsK.one rfl (by kernel_rfl) ?_
         repeat (first | refine OpsL.q (by exact omv) ?_ | (refine OpsL.nil ?_; (skip)))
         refine OpsK.one rfl (by kernel_rfl) ?_
         repeat (first | refine OpsL.q (by exact omv) ?_ | (refine OpsL.nil ?_; (skip)))
         refine OpsK.one rfl (by kernel_rfl) ?_
         repeat (first | refine OpsL.q (by exact oixa) ?_ | (refine OpsL.nil ?_; (dsimp only)))
         refine OpsK.one rfl (by kernel_rfl) ?_
         refine OpsL.q (aop_loadAgg (k := 4) (vs := enc4 l[k + k2]) (by simp only [ASt.ev, tmPut, ↓reduceIte, Nat.reduceEqDiff, *]; rfl) (by exact rfl) rfl (by exact rfl) g1) ?_
         repeat (refine OpsL.nil ?_; (skip))
         refine OpsK.one rfl (by kernel_rfl) ?_
         repeat (first | refine OpsL.q (by exact omv) ?_ | (refine OpsL.nil ?_; (skip)))
         refine OpsK.one rfl (by kernel_rfl) ?_
         repeat (first | refine OpsL.q (by exact omv) ?_ | (refine OpsL.nil ?_; (skip)))
         refine OpsK.one rfl (by kernel_rfl) ?_
         repeat (first | refine OpsL.q (by exact osub) ?_ | (refine OpsL.nil ?_; (skip)))
         refine OpsK.one rfl (by kernel_rfl) ?_
         repeat (first | refine OpsL.q (by exact oixa) ?_ | (refine OpsL.nil ?_; (dsimp only)))
         refine OpsK.one rfl (by kernel_rfl) ?_
         refine OpsL.q (aop_loadAgg (k := 4) (vs := enc4 l[k + k2 - 1]) (by simp only [ASt.ev, tmPut, ↓reduceIte, Nat.reduceEqDiff, *]; rfl) (by exact rfl) rfl (by exact rfl) g2) ?_
         repeat (refine OpsL.nil ?_; (skip))
         refine OpsK.one rfl (by kernel_rfl) ?_
         refine OpsL.q (aop_neqA (r := decide (l[k + k2] = l[k + k2 - 1])) (by simp only [ASt.ev, tmPut, ↓reduceIte, Nat.reduceEqDiff, *]; done) (by simp only [ASt.ev, tmPut, ↓reduceIte, Nat.reduceEqDiff, *]; done) (by kernel_rfl) (eqO _ _ _ _ rfl)) ?_
         repeat (refine OpsL.nil ?_; (skip))
         refine OpsK.nil ?_
         exact ⟨rfl, _, rfl, by simp [tmPut], by simp [tmPut, *], by simp [tmPut, *], by simp [tmPut, *], by simp [tmPut, *]⟩
        ·rintro e st ⟨rfl, tm', rfl, e44, e0, e3, e4, e5⟩
         dsimp only
         by_cases he2 : l[k + k2] = l[k + k2 - 1]
         ·rw [decide_eq_true he2] at e44
          rw [if_pos he2.symm] at hstep
          repeat fail
          refine Trip.ifF ?_
          repeat (first | (refine OpsL.q (by first | exact omv | exact oasg | exact oadd) ?_) | refine Trip.ops ?_ | (refine Trip.skip ?_; ((repeat (refine blockExit_normal ?_)); change Trip _ _ _ _ _)) | (refine OpsL.nil ?_; (dsimp only)))
          exact ⟨k2 + 1, ⟨_, H', A, rest', kk, rfl, hG, hAl, hsame, by simp [tmPut, *], by simp [tmPut, *], by simp [tmPut, *], by simp [tmPut, *], k1, by omega, by omega, by omega, by rw [hta, ← hstep]; rfl, hdn⟩, by omega⟩
         ·rw [decide_eq_false he2] at e44
          rw [if_neg (fun h => he2 h.symm)] at hstep
          repeat fail
          refine Trip.ifT ?_
          repeat (first | (refine OpsL.q (by first | exact omv | exact oixa) ?_) | refine Trip.seq ?_ | refine Trip.ops ?_)
          refine OpsL.q (aop_loadAgg (k := 4) (vs := enc4 l[k + k2]) (by simp only [ASt.ev, tmPut, ↓reduceIte, Nat.reduceEqDiff, *]; rfl) (by exact rfl) rfl (by exact rfl) g1) ?_
          repeat (refine OpsL.q (by exact oixa) ?_)
          refine OpsL.upd (aop_store (u := .agg (enc4 l[k + k2]).toArray) (o := .cells ((A.set kk l[k + k2]).flatMap enc4 ++ rest') 4 (some t) false (some 44)) (by simp only [ASt.ev, tmPut, ↓reduceIte, Nat.reduceEqDiff, *]; rfl) (by simp only [ASt.ev, tmPut, ↓reduceIte, Nat.reduceEqDiff, *]; done) (by exact rfl) rfl (by
           have := setc_flat (x := l[k + k2]) enc4_len enc4_one hG (show kk < A.length by omega)
           show setc H' ⟨b, 0 + (kk : Int).toNat * 4, some t⟩ (enc4 l[k + k2]) = _
           rw [Int.toNat_natCast]; exact this)) ?_
          repeat (first | (refine OpsL.q (by first | exact omv | exact oasg | exact oadd) ?_) | refine Trip.ops ?_ | (refine OpsL.nil ?_; ((repeat (refine blockExit_normal ?_)); first | (change Trip _ _ _ _ _) | (dsimp only))))
          refine ⟨k2 + 1, ⟨_, _, A.set kk l[k + k2], rest', kk + 1, rfl, Heap.put_eq, by rw [List.length_set]; exact hAl, fun i hi => by show Heap.put H' b _ i = _; rw [Heap.put_ne hi]; exact hsame i hi, by simp [tmPut, *], by simp [tmPut, *], by simp [tmPut, *], by simp [tmPut, *], by omega, by omega, by omega, by omega, ?_, ?_⟩, by omega⟩
          ·rw [show k + (k2 + 1) = k + k2 + 1 by omega, hstep, ← hta, List.take_add_one, List.getElem?_set_self (by omega), List.take_set_of_le (Nat.le_refl _)]
           rfl
          ·rw [List.drop_set_of_lt (by omega)]
           exact hdn
       ·have hk2 : k2 = l.length - k := by omega
        rw [show k + k2 = l.length by omega, List.take_length] at hta
        repeat (first | (refine OpsL.q (by first | exact omv | exact olen) ?_) | refine Trip.seq ?_ | refine Trip.ops ?_)
        refine OpsL.lssF ?_
        repeat (refine OpsL.nil ?_; (change Trip _ _ _ _ _))
        refine Trip.ifF ?_
        repeat (first | refine OpsL.q (by exact omv) ?_ | refine Trip.seq ?_ | refine Trip.ops ?_ | (refine Trip.exit ?_; ((repeat (refine blockExit_eq ?_)); change Trip _ _ _ _ _)))
        refine OpsL.q (aop_slice (a := some (.int .i64 kk)) (b := none) (c := none) (by simp only [ASt.ev, tmPut, ↓reduceIte, Nat.reduceEqDiff, *]; done) (by simp only [evOpt, ASt.ev, tmPut, ↓reduceIte, reduceIte, Option.some.injEq, Nat.reduceEqDiff, Option.map_some, *]) rfl rfl (hS H' _ _ hG kk (by omega))) ?_
        obtain ⟨rest2, hend⟩ := setc_end (k := kk) (z := [.int .i64 0, .int .i64 0, .int .i64 0, .int .i64 0]) enc4_len rfl rfl hG (by omega)
        rw [hAl, hta] at hend
        refine OpsL.clear (z := [.int .i64 0, .int .i64 0, .int .i64 0, .int .i64 0]) (by simp only [ASt.ev, tmPut, ↓reduceIte, Nat.reduceEqDiff, *]; rfl) (by exact rfl) (by exact rfl) (by omega) hend ?_
        repeat (first | refine OpsL.q (by exact omv) ?_ | refine Trip.seq ?_ | refine Trip.ops ?_ | (refine OpsL.nil ?_; (change Trip _ _ _ _ _)))
        have hlen : (dedF l).length = kk := by rw [← hta, List.length_take]; omega
        refine OpsL.q (aop_slice (a := none) (b := some (.int .i64 kk)) (c := none) (by simp only [ASt.ev, tmPut, ↓reduceIte, Nat.reduceEqDiff, *]; done) rfl (by simp only [evOpt, ASt.ev, tmPut, ↓reduceIte, reduceIte, Option.some.injEq, Nat.reduceEqDiff, Option.map_some, *]) rfl (hS2 _ _ rest2 Heap.put_eq kk (by omega))) ?_
        repeat (first | refine OpsL.q (by exact oasg) ?_ | (refine Trip.ret ?_; ((repeat (refine blockExit_ret ?_)); dsimp only)) | (refine OpsL.nil ?_; (change Trip _ _ _ _ _)))
        refine ⟨.inr rfl, _, res_tmp, rfl, ?_, fun i hi => ?_⟩
        ·refine ⟨by simp [tmPut, hlen], by rw [flat_len enc4_len], rest2, Heap.put_eq⟩
        ·show Heap.put H' b _ i = _
         rw [Heap.put_ne (hi b t rfl)]
         exact hsame i (hi b t rfl)
     ·rw [decide_eq_false heq] at e25
      repeat fail
      refine Trip.ifF ?_
      repeat (first | (refine OpsL.q (by first | exact omv | exact oasg | exact oadd) ?_) | refine Trip.ops ?_ | (refine Trip.skip ?_; ((repeat (refine blockExit_normal ?_)); change Trip _ _ _ _ _)) | (refine OpsL.nil ?_; (dsimp only)))
      refine ⟨k + 1, ⟨_, rfl, by simp [tmPut, *], by simp [tmPut, *], by omega, by omega, fun i hi h0 h1 => ?_⟩, by omega⟩
      by_cases hik : i = k
      ·subst hik
       exact fun hh => heq hh.symm
      ·exact hne i hi h0 (by omega)
   ·repeat (first | (refine OpsL.q (by first | exact omv | exact olen) ?_) | refine Trip.seq ?_ | refine Trip.ops ?_)
    refine OpsL.lssF ?_
    repeat (refine OpsL.nil ?_; (change Trip _ _ _ _ _))
    refine Trip.ifF ?_
    repeat (first | (refine OpsL.q (by first | exact omv | exact oasg) ?_) | refine Trip.seq ?_ | refine Trip.ops ?_ | (refine Trip.exit ?_; ((repeat (refine blockExit_eq ?_)); change Trip _ _ _ _ _)) | (refine Trip.ret ?_; (dsimp only)) | (refine OpsL.nil ?_; (change Trip _ _ _ _ _)))
    have hd := dedF_same l l.length (Nat.le_refl _) (fun i hi a c => hne i hi a (by omega))
    rw [List.take_length] at hd
    refine ⟨.inr rfl, _, res_tmp, rfl, ?_, fun _ _ => rfl⟩
    rw [hd]
    exact ⟨by simp [tmPut, *], by rw [flat_len enc4_len], rest, hH⟩
end Go.Proofs.YtjohiaoepbnicaaGreat
