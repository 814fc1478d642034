import Derived.Shelf.Lay
import Derived.Shelf.Sort.Plain
import Derived.Shelf.Slices.In.SortNone
import Derived.Ground.NamesProg
import Derived.Test.YtjohiaoepbnicaaGreatQRM11
namespace Go.Proofs.YtjohiaoepbnicaaGreat
set_option linter.unusedSimpArgs false
set_option linter.unusedVariables false
open Go.RowKit Go.Am
attribute [local irreducible] aop OpsL Trip blockExit OpsD OpsK OpsR
theorem reach_empty {a : Aut} (hi0 : ∀ s, ¬ s ∈ a.init) (hm0 : ∀ m, ¬ m ∈ movesA a) (t : Thg) : t ∈ [((1, 0) : Thg)] ↔ ReachT a t := by
 constructor
 ·intro h
  rw [List.mem_singleton] at h
  subst h
  exact .bot
 ·intro h
  cases h with
  | bot => simp
  | init hs => exact absurd hs (hi0 _)
  | step hm _ _ => exact absurd hm (hm0 _)
set_option maxRecDepth 20000 in
set_option maxHeartbeats 16000000 in
theorem findEC (W0 : World) {nx : Nat} {H : Heap} {a : Aut} {vi vf vo vc vn : Value} (ha : AutIn H a vi vf vo vc vn) (hn : AutLen a) (hi0 : ∀ s, ¬ s ∈ a.init) (hm0 : ∀ m, ¬ m ∈ movesA a) :
  ACalls Tryz.prog W0 26 [.agg (autV a vi vf vo vc vn).toArray] nx H fun v nx' H' => ∃ (m : Nat) (F : List Thg), v = .map (some m) ∧ H' m = some (.map (F.map fun t => (thV t, .agg #[])) (List.range F.length) F.length) ∧ F.Nodup ∧ (∀ t, t ∈ F ↔ ReachT a t) ∧ nx ≤ m ∧ m < nx' ∧ Ext nx H nx' H' := by
 obtain ⟨ai, ci, rfl⟩ := ha.init.slice
 obtain ⟨af, cf, rfl⟩ := ha.final.slice
 obtain ⟨ao, co, rfl⟩ := ha.opens.slice
 obtain ⟨ac, cc, rfl⟩ := ha.closes.slice
 obtain ⟨an, cn, rfl⟩ := ha.inners.slice
 refine ACalls.by_trip (fn := Tryz.f26) (c := _) Tryz.func26 rfl (fun tm n hn0 htm => ?_)
 have q0 : tm 0 = .agg (autV a (.slice ai a.init.length ci) (.slice af a.final.length cf) (.slice ao a.opens.length co) (.slice ac a.closes.length cc) (.slice an a.inners.length cn)).toArray := htm 0
 clear htm
 replace hn0 : n = 75 := hn0
 refine Trip.ok fun hok => ?_
 replace hok : ∀ id o, H id = some o → id < nx := hok
 refine Trip.seq ?_
 refine Trip.ops ?_
 refine OpsL.new (by subst_vars; decide) (aop_box (by simp only [ASt.ev, tmPut, ↓reduceIte, Nat.reduceEqDiff, *]; rfl)) ?_
 have hx0 : Ext nx H (nx + 1) (H.put nx (.cells (Value.agg (autV a (.slice ai a.init.length ci) (.slice af a.final.length cf) (.slice ao a.opens.length co) (.slice ac a.closes.length cc) (.slice an a.inners.length cn)).toArray).cells.toList 0 none false (some 30))) := Ext.newPut
 have gx : (H.put nx (.cells (Value.agg (autV a (.slice ai a.init.length ci) (.slice af a.final.length cf) (.slice ao a.opens.length co) (.slice ac a.closes.length cc) (.slice an a.inners.length cn)).toArray).cells.toList 0 none false (some 30))) nx = some (.cells (autV a (.slice ai a.init.length ci) (.slice af a.final.length cf) (.slice ao a.opens.length co) (.slice ac a.closes.length cc) (.slice an a.inners.length cn)) 0 none false (some 30)) := Heap.put_eq
 have ok0 := ok_new (o := .cells (Value.agg (autV a (.slice ai a.init.length ci) (.slice af a.final.length cf) (.slice ao a.opens.length co) (.slice ac a.closes.length cc) (.slice an a.inners.length cn)).toArray).cells.toList 0 none false (some 30)) hok
 generalize H.put nx (.cells (Value.agg (autV a (.slice ai a.init.length ci) (.slice af a.final.length cf) (.slice ao a.opens.length co) (.slice ac a.closes.length cc) (.slice an a.inners.length cn)).toArray).cells.toList 0 none false (some 30)) = G at *
 repeat (first | refine OpsL.q (by exact oasg) ?_ | refine Trip.seq ?_ | refine Trip.ops ?_ | (refine OpsL.nil ?_; (change Trip _ _ _ _ _)))
 refine OpsL.new (by subst_vars; decide) aop_makeMap3 ?_
 have hx1 : Ext (nx + 1) G (nx + 1 + 1) (G.put (nx + 1) (.map [] [] 0)) := Ext.newPut
 have gm : (G.put (nx + 1) (.map [] [] 0)) (nx + 1) = some (.map [] [] 0) := Heap.put_eq
 have ok1 := ok_new (o := .map [] [] 0) ok0
 generalize G.put (nx + 1) (.map [] [] 0) = G1 at *
 have gx1 := (hx1.2 nx (by omega)).trans gx
 have ha1 := ha.ext (hx0.trans hx1) hok
 repeat fail
 refine OpsL.q (aop_loadAgg (k := 7) (vs := autV a (.slice ai a.init.length ci) (.slice af a.final.length cf) (.slice ao a.opens.length co) (.slice ac a.closes.length cc) (.slice an a.inners.length cn)) (by simp only [ASt.ev, tmPut, ↓reduceIte, Nat.reduceEqDiff, *]; done) (by exact rfl) rfl (by exact rfl) (getc_all gx1 rfl)) ?_
 refine OpsL.c1 (hf := entersMoves) (hc := (movesC W0 ha1 hn).ok) (h := ?_)
 rintro v1 n1 H1 ⟨⟨ob1, w1, x1, b1⟩, ok1'⟩
 refine OpsL.c1 (hf := entersWaiting) (hc := (waitingC W0 (w1.at e4_len) (movesA_len hn)).ok) (h := ?_)
 rintro v2 n2 H2 ⟨⟨W, rfl, hw, x2⟩, ok2⟩
 have hle1 := x1.1
 have hle2 := x2.1
 have gm2 : H2 (nx + 1) = some (.map [] [] 0) := by rw [x2.2 _ (by omega), x1.2 _ (by omega)]; exact gm
 have gx2 : H2 nx = some (.cells (autV a (.slice ai a.init.length ci) (.slice af a.final.length cf) (.slice ao a.opens.length co) (.slice ac a.closes.length cc) (.slice an a.inners.length cn)) 0 none false (some 30)) := by rw [x2.2 _ (by omega), x1.2 _ (by omega)]; exact gx1
 have ha2 := ha1.ext (x1.trans x2) ok1
 have hxH : Ext nx H n2 H2 := ((hx0.trans hx1).trans x1).trans x2
 clear gx gx1 gm w1 b1 ha ha1 x1 x2 hx0 hx1 ok0 ok1 ok1'
 repeat (first | refine OpsL.q (by exact oasg) ?_ | refine Trip.seq ?_ | refine Trip.ops ?_ | (refine OpsL.nil ?_; (change Trip _ _ _ _ _)))
 refine OpsL.q (aop_build (v := thV (1, 0)) (l := [(0, .int .i64 1), (1, .int .i64 0)]) (by simp only [evParts, ASt.ev, tmPut, ↓reduceIte, reduceIte, Option.some.injEq, Nat.reduceEqDiff, plainC, plain1, *]) (by kernel_rfl)) ?_
 refine OpsL.new (by subst_vars; decide) (aop_buildSlice (l := [(0, thV (1, 0))]) (r := (.slice (some ⟨n2, 0, none⟩) 1 1, .new (.cells (encT (1, 0)) 2 none false (some 102)))) (by simp only [evParts, ASt.ev, tmPut, ↓reduceIte, reduceIte, Option.some.injEq, Nat.reduceEqDiff, *]) (by kernel_rfl)) ?_
 have x3 : Ext n2 H2 (n2 + 1) (H2.put n2 (.cells (encT (1, 0)) 2 none false (some 102))) := Ext.newPut
 have gt : (H2.put n2 (.cells (encT (1, 0)) 2 none false (some 102))) n2 = some (.cells (encT (1, 0)) 2 none false (some 102)) := Heap.put_eq
 have ok3 := ok_new (o := .cells (encT (1, 0)) 2 none false (some 102)) ok2
 generalize H2.put n2 (.cells (encT (1, 0)) 2 none false (some 102)) = G3 at *
 have gx3 := (x3.2 nx (by omega)).trans gx2
 have gm3 := (x3.2 (nx + 1) (by omega)).trans gm2
 have ha3 := ha2.ext x3 ok2
 have hw3 := hw.ext x3
 have ci0 : cellAt G3 ⟨nx, 0 + 2, none⟩ (.slice ai a.init.length ci) := by rw [Nat.zero_add]; exact cell_of gx3 rfl
 have hli := hn.init
 clear gx2 gm2 hw ha2 ok2
 repeat (first | (refine OpsL.q (by first | exact omv | exact oasg | exact olen | exact ofa | exact old) ?_) | refine Trip.seq ?_ | refine Trip.ops ?_ | refine Trip.block ?_ | (refine OpsL.nil ?_; (change Trip _ _ _ _ _)))
 have hl0 : ¬ 0 < a.init.length := fun h => hi0 _ (List.getElem_mem h)
 refine Trip.mono (Q := fun e st => e = .exit 0 ∧ ∃ (tm' : Nat → Value), st = ⟨tm', n, G3, n2 + 1⟩ ∧ tm' 3 = .map (some (nx + 1)) ∧ tm' 4 = .map (some n1) ∧ tm' 5 = .slice (some ⟨n2, 0, none⟩) 1 1) ?_ ?_
 ·refine Trip.inv (fun (i : Nat) st => ∃ (tm' : Nat → Value), st = ⟨tm', n, G3, n2 + 1⟩ ∧ tm' 3 = .map (some (nx + 1)) ∧ tm' 4 = .map (some n1) ∧ tm' 5 = .slice (some ⟨n2, 0, none⟩) 1 1 ∧ tm' 22 = .int .i64 a.init.length ∧ tm' 23 = .int .i64 0) (fun _ => 0) 0 ?_ ?_
  ·exact ⟨_, rfl, by simp [tmPut, *], by simp [tmPut, *], by simp [tmPut, *], by simp [tmPut, *], by simp [tmPut, *]⟩
  ·rintro i st ⟨tm, rfl, q3, q4, q5, q22, q23⟩
   repeat (first | refine Trip.seq ?_ | refine Trip.ops ?_)
   refine OpsL.lssF ?_
   repeat (first | refine Trip.seq ?_ | (refine OpsL.nil ?_; (change Trip _ _ _ _ _)))
   refine Trip.ifF ?_
   repeat (refine Trip.exit ?_; (dsimp only))
   exact ⟨rfl, _, rfl, by simp [tmPut, *], by simp [tmPut, *], by simp [tmPut, *]⟩
 rintro e st ⟨rfl, tm', rfl, q3, q4, q5⟩
 ((repeat (refine blockExit_eq ?_)); change Trip _ _ _ _ _)
 have hc3 : G3 (nx + 1) = some (.map (([] : List Thg).map fun t => (thV t, .agg #[])) (List.range ([] : List Thg).length) ([] : List Thg).length) := gm3
 have hle12 : nx + 1 + 1 ≤ n2 := by omega
 clear ci0 gx3
 repeat (first | refine Trip.seq ?_ | refine Trip.block ?_)
 refine Trip.inv (fun (p : Nat) st => ∃ (tm' : Nat → Value) (nx' : Nat) (H' : Heap), st = ⟨tm', n, H', nx'⟩ ∧ n2 + 1 ≤ nx' ∧ (∀ j, j < n2 + 1 → j ≠ nx + 1 → H' j = G3 j) ∧ (∀ id o, H' id = some o → id < nx') ∧ H' (nx + 1) = some (.map ((([((1, 0) : Thg)] : List Thg).take p).map fun t => (thV t, .agg #[])) (List.range (([((1, 0) : Thg)] : List Thg).take p).length) (([((1, 0) : Thg)] : List Thg).take p).length) ∧ tm' 3 = .map (some (nx + 1)) ∧ tm' 4 = .map (some n1) ∧ tm' 5 = .slice (some ⟨n2, 0, none⟩) (1 - p) 1 ∧ p ≤ 1) (fun p => 1 - p) 0 ?_ ?_
 ·exact ⟨_, _, _, rfl, Nat.le_refl _, fun _ _ _ => rfl, ok3, hc3, by simp [tmPut, *], by simp [tmPut, *], by simp [tmPut, *], Nat.zero_le _⟩
 ·clear q3 q4 q5 hc3 ok3 gm3
  rintro p st ⟨tm, nx', H', rfl, hle, hFr, hok', hcell, q3, q4, q5, hp⟩
  by_cases h0 : p = 0
  ·subst h0
   have hg : getc H' ⟨n2, 0 + ((1 : Int) - 1).toNat * 2, none⟩ 2 = some (encT (1, 0)) := by
    unfold getc
    simp only [(hFr n2 (by omega) (by omega)).trans gt]
    rfl
   have q5' : tm 5 = .slice (some ⟨n2, 0, none⟩) 1 1 := q5
   clear q5
   repeat (first | (refine OpsL.q (by first | exact omv | exact olen) ?_) | refine Trip.seq ?_ | refine Trip.ops ?_)
   refine OpsL.gtrT ?_
   repeat (refine OpsL.nil ?_; (change Trip _ _ _ _ _))
   refine Trip.ifT ?_
   repeat (first | (refine OpsL.q (by first | exact omv | exact osub | exact olen | exact oixa | exact aop_loadAgg (k := 2) (by simp only [ASt.ev, tmPut, ↓reduceIte, Nat.reduceEqDiff, *]; rfl) (by exact rfl) rfl (by exact rfl) (by assumption)) ?_) | refine Trip.seq ?_ | refine Trip.ops ?_ | refine Trip.block ?_ | (refine Trip.skip ?_; (change Trip _ _ _ _ _)))
   refine OpsL.new (by subst_vars; decide) (aop_alloc (l := (rep 2 [.int .i64 0])) (by kernel_rfl)) ?_
   refine OpsL.upd (aop_store (k := 2) (u := thV (1, 0)) (by simp only [ASt.ev, tmPut, ↓reduceIte, Nat.reduceEqDiff, *]; done) (by simp only [ASt.ev, tmPut, ↓reduceIte, Nat.reduceEqDiff, *]; rfl) (by exact rfl) rfl (o := .cells (encT (1, 0)) 0 none false (some 102)) (setc_allN (vs := (encT (1, 0))) Heap.put_eq rfl rfl)) ?_
   obtain ⟨G5, hG5⟩ : ∃ G0, G0 = (H'.put nx' (.cells (rep 2 [.int .i64 0]) 0 none false (some 102))).put nx' (.cells (encT (1, 0)) 0 none false (some 102)) := ⟨_, rfl⟩
   have xG5 : Ext nx' H' (nx' + 1) G5 := ⟨Nat.le_succ _, fun j hj => by rw [hG5, Heap.put_ne (by omega), Heap.put_ne (by omega)]⟩
   have kG5 : ∀ id o, G5 id = some o → id < nx' + 1 := by rw [hG5]; exact ok_put3 (ok_new hok') Heap.put_eq
   have bG5 : G5 nx' = some (.cells (encT (1, 0)) 0 none false (some 102)) := by rw [hG5, Heap.put_eq]
   rw [← hG5]
   clear hG5 hg
   have g52 : G5 n2 = some (.cells (encT (1, 0)) 2 none false (some 102)) := by rw [xG5.2 n2 (by omega), hFr n2 (by omega) (by omega)]; exact gt
   have hsl : aSlice Tryz.prog G5 103 (.slice (some ⟨n2, 0, none⟩) 1 1) none (some (.int .i64 ((1 : Int) - 1))) none = some (.slice (some ⟨n2, 0, none⟩) 0 1) := by
    have := aSlice_plain (P := Tryz.prog) (H := G5) (t := 103) (el := 102) (sz := 2) (a := ⟨n2, 0, none⟩) (len := 1) (cap := 1) (l := 0) (h := 0) (lo := none) (hi := some (.int .i64 ((1 : Int) - 1))) (by exact rfl) (by exact rfl) g52 rfl rfl (.inl ⟨rfl, rfl⟩) (.inr ⟨.i64, rfl⟩) (Nat.le_refl _) (Nat.zero_le _)
    rwa [if_neg (by omega)] at this
   repeat (first | (refine OpsL.q (by first | exact omv | exact olen | exact osub) ?_) | refine Trip.seq ?_ | refine Trip.ops ?_ | (refine OpsL.nil ?_; (change Trip _ _ _ _ _)))
   refine OpsL.q (aop_slice (r := .slice (some ⟨n2, 0, none⟩) 0 1) (a := none) (b := some (.int .i64 ((1 : Int) - 1))) (c := none) (by simp only [ASt.ev, tmPut, ↓reduceIte, Nat.reduceEqDiff, *]; done) rfl (by simp only [evOpt, ASt.ev, tmPut, ↓reduceIte, reduceIte, Option.some.injEq, Nat.reduceEqDiff, Option.map_some, *] <;> rfl) rfl hsl) ?_
   have hcell5 : G5 (nx + 1) = some (.map (([] : List Thg).map fun t => (thV t, .agg #[])) (List.range ([] : List Thg).length) ([] : List Thg).length) := (xG5.2 _ (by omega)).trans hcell
   have hF5 : FoundAt G5 (.map (some (nx + 1))) [] := ⟨nx + 1, _, _, rfl, hcell5⟩
   repeat (first | (refine OpsL.q (by first | exact omv | exact oasg) ?_) | refine Trip.seq ?_ | refine Trip.ops ?_ | (refine OpsL.nil ?_; (change Trip _ _ _ _ _)))
   refine OpsL.q (aop_loadAgg (k := 2) (vs := encT (1, 0)) (by simp only [ASt.ev, tmPut, ↓reduceIte, Nat.reduceEqDiff, *]; done) (by exact rfl) rfl (by exact rfl) (getc_all bG5 rfl)) ?_
   refine OpsL.q (aop_lookup3 (by simp only [ASt.ev, tmPut, ↓reduceIte, Nat.reduceEqDiff, *]; done) (by simp only [ASt.ev, tmPut, ↓reduceIte, Nat.reduceEqDiff, *]; rfl) (hF5.told (1, 0))) ?_
   repeat (first | (refine OpsL.q (by first | exact omv | exact aop_extract (by simp only [ASt.ev, tmPut, ↓reduceIte, Nat.reduceEqDiff, *]; rfl) (by exact rfl)) ?_))
   refine OpsL.new (by subst_vars; decide) (aop_alloc (l := []) (by kernel_rfl)) ?_
   refine OpsL.upd (aop_store (k := 0) (u := .agg #[]) (by simp only [ASt.ev, tmPut, ↓reduceIte, Nat.reduceEqDiff, *]; done) (by simp only [ASt.ev, tmPut, ↓reduceIte, Nat.reduceEqDiff, *]; rfl) (by exact rfl) rfl (o := .cells [] 0 none false (some 104)) (setc_allN (vs := []) Heap.put_eq rfl rfl)) ?_
   obtain ⟨G6, hG6⟩ : ∃ G0, G0 = (G5.put (nx' + 1) (.cells [] 0 none false (some 104))).put (nx' + 1) (.cells [] 0 none false (some 104)) := ⟨_, rfl⟩
   have xG6 : Ext (nx' + 1) G5 ((nx' + 1) + 1) G6 := ⟨Nat.le_succ _, fun j hj => by rw [hG6, Heap.put_ne (by omega), Heap.put_ne (by omega)]⟩
   have kG6 : ∀ id o, G6 id = some o → id < (nx' + 1) + 1 := by rw [hG6]; exact ok_put3 (ok_new kG5) Heap.put_eq
   rw [← hG6]
   clear hG6
   have hc6 := (xG6.2 (nx + 1) (by omega)).trans hcell5
   have hb6 := (xG6.2 nx' (Nat.lt_succ_self _)).trans bG5
   have hF6 : ∀ j, j < n2 + 1 → j ≠ nx + 1 → G6 j = G3 j := fun j h1 h2 => by rw [xG6.2 _ (by omega), xG5.2 _ (by omega)]; exact hFr j h1 h2
   simp only [List.not_mem_nil, decide_false]
   repeat (first | (refine OpsL.q (by first | exact omv | exact oasg) ?_) | refine Trip.seq ?_ | refine Trip.ops ?_ | (refine OpsL.nil ?_; (change Trip _ _ _ _ _)))
   refine Trip.ifF ?_
   repeat (first | refine OpsL.q (by exact omv) ?_ | refine Trip.seq ?_ | refine Trip.ops ?_ | (refine Trip.skip ?_; (change Trip _ _ _ _ _)))
   refine OpsL.q (aop_loadAgg (k := 2) (vs := encT (1, 0)) (by simp only [ASt.ev, tmPut, ↓reduceIte, Nat.reduceEqDiff, *]; done) (by exact rfl) rfl (by exact rfl) (getc_all hb6 rfl)) ?_
   refine OpsL.q (aop_build (v := .agg #[]) (l := []) (by simp only [evParts]) (by kernel_rfl)) ?_
   have hupd : aMapUpdate Tryz.prog G6 55 (.map (some (nx + 1))) (thV (1, 0)) (.agg #[]) = some (.upd (nx + 1) (.map (([((1, 0) : Thg)] : List Thg).map fun t => (thV t, .agg #[])) (List.range 1) 1)) := FoundAt.put hc6 (by simp)
   refine OpsL.upd (aop_mapUpdate3 (by simp only [ASt.ev, tmPut, ↓reduceIte, Nat.reduceEqDiff, *]; done) (by simp only [ASt.ev, tmPut, ↓reduceIte, Nat.reduceEqDiff, *]; rfl) (by simp only [ASt.ev, tmPut, ↓reduceIte, Nat.reduceEqDiff, *]; done) hupd) ?_
   obtain ⟨G7, hG7⟩ : ∃ G0, G0 = G6.put (nx + 1) (.map (([((1, 0) : Thg)] : List Thg).map fun t => (thV t, .agg #[])) (List.range 1) 1) := ⟨_, rfl⟩
   have hc7 : G7 (nx + 1) = some (.map (([((1, 0) : Thg)] : List Thg).map fun t => (thV t, .agg #[])) (List.range 1) 1) := by rw [hG7, Heap.put_eq]
   have ok7 : ∀ id o, G7 id = some o → id < nx' + 1 + 1 := by rw [hG7]; exact ok_put3 kG6 hc6
   have hF7 : ∀ j, j < n2 + 1 → j ≠ nx + 1 → G7 j = G3 j := fun j h1 h2 => by rw [hG7, Heap.put_ne h2]; exact hF6 j h1 h2
   have hb7 : G7 nx' = some (.cells (encT (1, 0)) 0 none false (some 102)) := by rw [hG7, Heap.put_ne (by omega)]; exact hb6
   rw [← hG7]
   clear hG7 hupd hc6 hb6 hF6 kG6 xG6 xG5 kG5 bG5 g52 hsl hcell5 hF5
   obtain ⟨r, htell⟩ := hw3.tells (1, 0)
   have hwf : WaitIn G7 n1 n1 (nx' + 1 + 1) (waitW (movesA a)) W := hw3.framed (fun j h3 h4 => hF7 j h4 (by omega)) (by omega)
   have hw0 : waitW (movesA a) (1, 0) = [] := List.eq_nil_iff_forall_not_mem.2 fun m hm => hm0 m (List.mem_filter.1 hm).1
   repeat (first | refine OpsL.q (by exact omv) ?_ | refine Trip.seq ?_ | refine Trip.ops ?_ | (refine OpsL.nil ?_; (change Trip _ _ _ _ _)))
   refine OpsL.q (aop_loadAgg (k := 2) (vs := encT (1, 0)) (by simp only [ASt.ev, tmPut, ↓reduceIte, Nat.reduceEqDiff, *]; done) (by exact rfl) rfl (by exact rfl) (getc_all hb7 rfl)) ?_
   refine OpsL.q (aop_lookup3 (by simp only [ASt.ev, tmPut, ↓reduceIte, Nat.reduceEqDiff, *]; done) (by simp only [ASt.ev, tmPut, ↓reduceIte, Nat.reduceEqDiff, *]; rfl) (htell G7 _ hwf).1) ?_
   have hrr := (htell G7 _ hwf).2
   rw [hw0] at hrr
   obtain ⟨ra, rc, rfl⟩ := hrr.slice
   repeat (first | (refine OpsL.q (by first | exact omv | exact olen) ?_) | refine Trip.block ?_ | (refine OpsL.nil ?_; (change Trip _ _ _ _ _)))
   refine Trip.mono (Q := fun e st => e = .exit 4 ∧ ∃ (tm' : Nat → Value), st = ⟨tm', n, G7, nx' + 1 + 1⟩ ∧ tm' 3 = .map (some (nx + 1)) ∧ tm' 4 = .map (some n1) ∧ tm' 5 = .slice (some ⟨n2, 0, none⟩) 0 1) ?_ ?_
   ·refine Trip.inv (fun (i : Nat) st => ∃ (tm' : Nat → Value), st = ⟨tm', n, G7, nx' + 1 + 1⟩ ∧ tm' 3 = .map (some (nx + 1)) ∧ tm' 4 = .map (some n1) ∧ tm' 5 = .slice (some ⟨n2, 0, none⟩) 0 1 ∧ tm' 60 = .int .i64 0 ∧ tm' 61 = .int .i64 0) (fun _ => 0) 0 ?_ ?_
    ·exact ⟨_, rfl, by simp [tmPut, *], by simp [tmPut, *], by simp [tmPut, *], by simp [tmPut, *], by simp [tmPut, *]⟩
    ·clear q3 q4 q5'
     rintro i st ⟨tm', rfl, q3, q4, q5, q60, q61⟩
     repeat (first | refine Trip.seq ?_ | refine Trip.ops ?_)
     refine OpsL.lssF ?_
     repeat (first | refine Trip.seq ?_ | (refine OpsL.nil ?_; (change Trip _ _ _ _ _)))
     refine Trip.ifF ?_
     repeat (refine Trip.exit ?_; (dsimp only))
     exact ⟨rfl, _, rfl, by simp [tmPut, *], by simp [tmPut, *], by simp [tmPut, *]⟩
   clear q3 q4 q5'
   rintro e st ⟨rfl, tm', rfl, q3, q4, q5⟩
   ((repeat (first | refine blockExit_eq ?_ | refine blockExit_normal ?_)); dsimp only)
   repeat fail
   exact ⟨1, ⟨_, _, _, rfl, by omega, hF7, ok7, hc7, by simp [tmPut, *], by simp [tmPut, *], by simp [tmPut, *], Nat.le_refl _⟩, by omega⟩
  ·have h1 : p = 1 := by omega
   subst h1
   have q5' : tm 5 = .slice (some ⟨n2, 0, none⟩) 0 1 := q5
   clear q5
   repeat (first | (refine OpsL.q (by first | exact omv | exact olen) ?_) | refine Trip.seq ?_ | refine Trip.ops ?_)
   refine OpsL.gtrF ?_
   repeat (refine OpsL.nil ?_; (change Trip _ _ _ _ _))
   refine Trip.ifF ?_
   repeat (first | (refine OpsL.q (by first | exact omv | exact oasg) ?_) | refine Trip.seq ?_ | refine Trip.ops ?_ | (refine Trip.exit ?_; ((repeat (refine blockExit_eq ?_)); change Trip _ _ _ _ _)) | (refine Trip.ret ?_; (dsimp only)) | (refine OpsL.nil ?_; (change Trip _ _ _ _ _)))
   refine ⟨.inr rfl, _, res_tmp, nx + 1, [(1, 0)], by simp [tmPut, *], hcell, by simp, reach_empty hi0 hm0, by omega, by omega, by have := hxH.1; omega, fun j hj => ?_⟩
   rw [hFr j (by omega) (by omega), x3.2 j (by omega), hxH.2 j hj]
def FindOk (a : Aut) : Prop := (a.init ≠ [] ∧ muF a [] (startT a) ≤ 100000) ∨ ((∀ s, ¬ s ∈ a.init) ∧ ∀ m, ¬ m ∈ movesA a)
theorem findAC (W0 : World) {nx : Nat} {H : Heap} {a : Aut} {vi vf vo vc vn : Value} (ha : AutIn H a vi vf vo vc vn) (hn : AutLen a) (hf : FindOk a) :
  ACalls Tryz.prog W0 26 [.agg (autV a vi vf vo vc vn).toArray] nx H fun v nx' H' => ∃ (m : Nat) (F : List Thg), v = .map (some m) ∧ H' m = some (.map (F.map fun t => (thV t, .agg #[])) (List.range F.length) F.length) ∧ F.Nodup ∧ (∀ t, t ∈ F ↔ ReachT a t) ∧ nx ≤ m ∧ m < nx' ∧ Ext nx H nx' H' := by
 rcases hf with ⟨h0, h1⟩ | ⟨h0, h1⟩
 ·exact findC W0 ha hn h0 h1
 ·exact findEC W0 ha hn h0 h1
end Go.Proofs.YtjohiaoepbnicaaGreat
namespace Go.Am
set_option linter.unusedSimpArgs false
set_option linter.unusedVariables false
open Go.Shelf Go.RowKit Go.Lib
open Go.Sort hiding Below
variable {P : Program} {W0 : World}
theorem int_list (l : List Int) : ∀ v ∈ l.map (Value.int .i64), IntV v := fun v hv => by
 obtain ⟨x, _, rfl⟩ := List.mem_map.1 hv
 exact ⟨_, _, rfl⟩
theorem sorts_of {f : FuncId} {el : TypeId}
  (hs : ∀ (blk off cap : Nat) (zs : List Int) (w : World), Holds (Value.int .i64) w blk off zs.toArray → blk < w.heap.size → zs.length < 4611686018427387904 → Calls P f #[.slice (some ⟨blk, off, none⟩) zs.length cap] w fun e w' => e = .returned (.tuple #[]) ∧ ∃ n os, w' = grow (putRow (Value.int .i64) (Sort.ahead w n) blk off (zs.mergeSort fun x y => decide (x ≤ y)).toArray) os)
  (h0 : ∀ (cap : Nat) (w : World), Calls P f #[.slice none 0 cap] w fun e w' => e = .returned (.tuple #[]) ∧ w' = w) : SortsI P W0 f el := by
 intro nx H ob v l hown hl C w args' hR ha
 obtain ⟨h1, h2⟩ := ha
 obtain ⟨v1, rfl⟩ : ∃ v1, args' = [v1] := by
  match args', h1 with
  | [v1], _ => exact ⟨v1, rfl⟩
 have hv1 := h2 0 (by simp) (by simp)
 simp only [List.getElem_cons_zero] at hv1
 cases ob with
 | none =>
  obtain ⟨rfl, hnil, _⟩ := hown
  have hl0 : l = [] := by simpa using hnil
  subst hl0
  obtain ⟨cap', rfl⟩ : ∃ cap', v1 = .slice none 0 cap' := by
   cases hv1
   all_goals exact ⟨_, rfl⟩
  refine (h0 cap' w).mono ?_
  rintro e' w' ⟨rfl, rfl⟩
  exact ⟨_, _, C, nx, H, rfl, ⟨rfl, rfl, ⟨rfl, by simp [sortI], by simp [sortI]⟩, fun _ _ => rfl⟩, hR, .tuple _ _ rfl (fun i h => absurd h (by simp)), Stp.refl _ _ _⟩
 | some bt =>
  obtain ⟨b, t⟩ := bt
  obtain ⟨rfl, hlen, rest, ho⟩ := hown
  obtain ⟨cap', rfl⟩ : ∃ cap', v1 = .slice (some ⟨(C.loc b).1, (C.loc b).2, none⟩) l.length cap' := by
   cases hv1 with
   | slc _ _ _ b' cap' k1 k2 =>
    obtain ⟨e1, _⟩ := k2 _ ho rfl
    exact ⟨cap', by rw [e1]; simp [Corr.at]⟩
  have hH : Holds (Value.int .i64) w (C.loc b).1 (C.loc b).2 l.toArray := holds_map (row_holds hR ho (int_list l))
  refine (hs (C.loc b).1 (C.loc b).2 cap' l w hH (hR.obj _ _ ho).blk (by omega)).mono ?_
  rintro e' w' ⟨rfl, n, os, rfl⟩
  have hsize : (sortI l).length = l.length := (sortI_perm l).length_eq
  have hput := row_put hR ho (cs' := (sortI l).map (Value.int .i64)) (by simp [hsize]) (int_list _) n os
  rw [show (l.mergeSort fun x y => decide (x ≤ y)) = sortI l from rfl, putRow_map]
  refine ⟨_, _, C, nx, _, rfl, ⟨rfl, rfl, ⟨by rw [hsize], by simp [hsize], rest, Heap.put_eq⟩, fun k hk => Heap.put_ne (hk b t rfl)⟩, hput.1, .tuple _ _ rfl (fun i h => absurd h (by simp)), hput.2⟩
end Go.Am
namespace Go.Proofs.YtjohiaoepbnicaaGreat
set_option linter.unusedSimpArgs false
set_option linter.unusedVariables false
open Go.Shelf Go.RowKit Go.Lib Go.Am
open Go.Sort hiding Below
shelf_lay Lays.n189 Nm 189 at Tryz as sortI189
theorem sortsInts (W0 : World) : SortsI Tryz.prog W0 63 3 :=
 sorts_of (fun blk off cap zs w hH hb hl => Any.slices_Sort_int sortI189 blk off cap zs w hH hb hl) (fun cap w => Any.slices_Sort_int_none sortI189 none cap w)
end Go.Proofs.YtjohiaoepbnicaaGreat
namespace Go.Proofs.YtjohiaoepbnicaaGreat
set_option linter.unusedSimpArgs false
set_option linter.unusedVariables false
open Go.RowKit Go.Am
attribute [local irreducible] aop OpsL Trip blockExit OpsD OpsK OpsR
theorem entersTrim : Am.Enters Tryz.prog 10 := ⟨Tryz.f10, Tryz.func10, by kernel_rfl, by kernel_rfl⟩
section
variable {P : Program} {H : Heap} {nx : Nat} {ev : Operand → Option Value} {dst : Option Tmp} {type : TypeId} {pos : String} {after : Array Edge} {guard : Option (Nat × Bool)}
theorem aop_lenN {t k e : TypeId} {x : Operand} {m : Nat} {L : List Int} {bs : List Nat} {clk : Nat} (hx : ev x = some (.map (some m))) (hu : P.underlying t = some (.map k e)) (hm : H m = some (.map (numM L L.length) bs clk)) :
  aop P H nx ev ⟨dst, .call ⟨.builtin .len, #[x], #[t]⟩, type, pos, after, guard⟩ = some (.int .i64 L.length, .none) := by
 have := aop_lenM (nx := nx) (dst := dst) (type := type) (pos := pos) (after := after) (guard := guard) hx hu hm
 rwa [numM_len] at this
end
theorem OwnAut.putLow {H : Heap} {base base' nx k : Nat} {a : Aut} {l : List (Option (Nat × Nat))} {vi vf vo vc vn : Value} {o : AObj} (h : OwnAut H base nx a l vi vf vo vc vn) (hk : k < base) (hb' : base' ≤ base) : OwnAut (H.put k o) base' nx a l vi vf vo vc vn := by
 have hs := h.sep.1
 have hb := h.hb
 refine ⟨h.len, ?_, ?_, ?_, ?_, ?_, ⟨fun j b t hj => by have := hs j b t hj; exact ⟨by omega, this.2.1, this.2.2⟩, h.sep.2⟩, by omega⟩
 ·obtain ⟨b, e, w⟩ := h.init; exact ⟨b, e, OwnRow.same (fun b' t' q => Heap.put_ne (by have := hs 0 b' t' (by rw [e, q]); omega)) w⟩
 ·obtain ⟨b, e, w⟩ := h.final; exact ⟨b, e, OwnRow.same (fun b' t' q => Heap.put_ne (by have := hs 1 b' t' (by rw [e, q]); omega)) w⟩
 ·obtain ⟨b, e, w⟩ := h.opens; exact ⟨b, e, OwnRow.same (fun b' t' q => Heap.put_ne (by have := hs 2 b' t' (by rw [e, q]); omega)) w⟩
 ·obtain ⟨b, e, w⟩ := h.closes; exact ⟨b, e, OwnRow.same (fun b' t' q => Heap.put_ne (by have := hs 3 b' t' (by rw [e, q]); omega)) w⟩
 ·obtain ⟨b, e, w⟩ := h.inners; exact ⟨b, e, OwnRow.same (fun b' t' q => Heap.put_ne (by have := hs 4 b' t' (by rw [e, q]); omega)) w⟩
set_option maxRecDepth 20000 in
set_option maxHeartbeats 16000000 in
theorem trimCall (W0 : World) {nx : Nat} {H : Heap} {a : Aut} {vs vi vf vo vc vn : Value} (ha : AutIn H a vi vf vo vc vn) (hn : AutLen a) (hf : FindOk a) :
  ACalls Tryz.prog W0 10 [vs, .agg (autV a vi vf vo vc vn).toArray] nx H fun v nx' H' => ∃ L0 L1 l vi' vf' vo' vc' vn', NumsOf a 0 L0 ∧ NumsOf a 1 L1 ∧ v = .agg (autV (normA (trimB a L0 L1)) vi' vf' vo' vc' vn').toArray ∧ OwnAut H' nx nx' (normA (trimB a L0 L1)) l vi' vf' vo' vc' vn' ∧ Ext nx H nx' H' := by
 obtain ⟨ai, ci, rfl⟩ := ha.init.slice
 obtain ⟨af, cf, rfl⟩ := ha.final.slice
 obtain ⟨ao, co, rfl⟩ := ha.opens.slice
 obtain ⟨ac, cc, rfl⟩ := ha.closes.slice
 obtain ⟨an, cn, rfl⟩ := ha.inners.slice
 refine ACalls.by_trip (fn := Tryz.f10) (c := _) Tryz.func10 rfl (fun tm n hn0 htm => ?_)
 have e0 : tm 1 = .agg (autV a (.slice ai a.init.length ci) (.slice af a.final.length cf) (.slice ao a.opens.length co) (.slice ac a.closes.length cc) (.slice an a.inners.length cn)).toArray := htm 1
 clear htm
 replace hn0 : n = 147 := hn0
 refine Trip.ok fun hok => ?_
 replace hok : ∀ id o, H id = some o → id < nx := hok
 refine Trip.seq ?_
 refine Trip.ops ?_
 refine OpsL.new (by subst_vars; decide) (aop_box (by simp only [ASt.ev, tmPut, ↓reduceIte, Nat.reduceEqDiff, *]; rfl)) ?_
 refine OpsL.new (by subst_vars; decide) (aop_alloc (l := zeroN) (by kernel_rfl)) ?_
 obtain ⟨G, hG⟩ : ∃ G, G = (H.put nx (.cells (Value.agg (autV a (.slice ai a.init.length ci) (.slice af a.final.length cf) (.slice ao a.opens.length co) (.slice ac a.closes.length cc) (.slice an a.inners.length cn)).toArray).cells.toList 0 none false (some 30))).put (nx + 1) (.cells zeroN 0 none false (some 30)) := ⟨_, rfl⟩
 have hx0 : Ext nx H (nx + 1 + 1) G := by rw [hG]; exact Ext.newPut.trans Ext.newPut
 have ok0 : ∀ id o, G id = some o → id < nx + 1 + 1 := by rw [hG]; exact ok_new (ok_new hok)
 have gx : G nx = some (.cells (autV a (.slice ai a.init.length ci) (.slice af a.final.length cf) (.slice ao a.opens.length co) (.slice ac a.closes.length cc) (.slice an a.inners.length cn)) 0 none false (some 30)) := by rw [hG, Heap.put_ne (by omega), Heap.put_eq]; rfl
 have gy : G (nx + 1) = some (.cells zeroN 0 none false (some 30)) := by rw [hG, Heap.put_eq]
 replace ha := ha.ext hx0 hok
 rw [← hG]
 clear hG e0
 repeat (first | refine Trip.seq ?_ | refine Trip.ops ?_ | (refine OpsL.nil ?_; (change Trip _ _ _ _ _)))
 refine OpsL.q (aop_loadAgg (k := 7) (vs := (autV a (.slice ai a.init.length ci) (.slice af a.final.length cf) (.slice ao a.opens.length co) (.slice ac a.closes.length cc) (.slice an a.inners.length cn))) (by simp only [ASt.ev, tmPut, ↓reduceIte, Nat.reduceEqDiff, *]; done) (by exact rfl) rfl (by exact rfl) (getc_all gx rfl)) ?_
 refine OpsL.c1 (hf := entersFind) (hc := (findAC W0 ha hn hf).ok) (h := ?_)
 rintro v1 n1 H1 ⟨⟨mf, F, rfl, hF1, hnd, hre, hmf1, hmf2, x1⟩, ok1⟩
 have hFl := found_len hn hnd hre
 repeat (first | (refine OpsL.q (by first | exact omv | exact oasg) ?_) | refine Trip.seq ?_ | refine Trip.ops ?_ | (refine OpsL.nil ?_; (change Trip _ _ _ _ _)))
 refine OpsL.c2 (hf := entersNumbers) (hc := (numbersC W0 (sortsInts W0) hnd (by omega) hF1).ok) (h := ?_)
 rintro v2 n2 H2 ⟨⟨m0, L0, rfl, h20, p0, q0, r0, s0, x2⟩, ok2⟩
 repeat (refine OpsL.q (by exact omv) ?_)
 refine OpsL.c2 (hf := entersNumbers) (hc := (numbersC W0 (sortsInts W0) hnd (by omega) ((x2.2 mf hmf2).trans hF1)).ok) (h := ?_)
 rintro v3 n3 H3 ⟨⟨m1, L1, rfl, h31, p1, q1, r1, s1, x3⟩, ok3⟩
 have N0 : NumsOf a 0 L0 := ⟨p0, fun x => (q0 x).trans (hre _)⟩
 have N1 : NumsOf a 1 L1 := ⟨p1, fun x => (q1 x).trans (hre _)⟩
 have l0 := nums_len hn N0
 have l1 := nums_len hn N1
 have hle1 := x1.1
 have hle2 := x2.1
 have hle3 := x3.1
 have h30 := (x3.2 m0 s0).trans h20
 have hx3 : Ext (nx + 1 + 1) G n3 H3 := (x1.trans x2).trans x3
 have ha3 := ha.ext hx3 ok0
 have gx3 := (hx3.2 nx (by omega)).trans gx
 have gy3 := (hx3.2 (nx + 1) (by omega)).trans gy
 have hxH : Ext nx H n3 H3 := hx0.trans hx3
 clear gx gy ha hF1 h20 x1 x2 x3 ok1 ok2 hx0 hx3 ok0 hre hnd hFl q0 q1
 repeat (first | refine OpsL.q (by exact oasg) ?_ | refine Trip.seq ?_ | (refine OpsL.nil ?_; (change Trip _ _ _ _ _)))
 have NA0 : NumAt H3 (.map (some m0)) L0 := ⟨m0, rfl, h30⟩
 have NA1 : NumAt H3 (.map (some m1)) L1 := ⟨m1, rfl, h31⟩
 refine Trip.mono (Q := fun e st => e = .normal ∧ ∃ (tm' : Nat → Value) (nb nx7 : Nat) (G7 : Heap) (a4 a5 : Option Addr) (c4 c5 : Nat) (o4 o5 : Option (Nat × Nat)), st = ⟨tm', n, G7, nx7⟩ ∧ Ext n3 H3 nx7 G7 ∧ n3 ≤ nb ∧ nb < nx7 ∧ G7 nb = some (.cells (autV (trimB a L0 L1) (.slice a4 (keptF L0 a.init).length c4) (.slice a5 (keptF L0 a.final).length c5) (.slice none 0 0) (.slice none 0 0) (.slice none 0 0)) 0 none false (some 30)) ∧ OwnInts G7 o4 3 (.slice a4 (keptF L0 a.init).length c4) (keptF L0 a.init) ∧ OwnInts G7 o5 3 (.slice a5 (keptF L0 a.final).length c5) (keptF L0 a.final) ∧ (∀ b t, o4 = some (b, t) → n3 ≤ b ∧ b < nx7 ∧ b ≠ nb) ∧ (∀ b t, o5 = some (b, t) → n3 ≤ b ∧ b < nx7 ∧ b ≠ nb ∧ ∀ b' t', o4 = some (b', t') → b ≠ b') ∧ tm' 3 = .pointer (some ⟨nx, 0, none⟩) ∧ tm' 4 = .pointer (some ⟨nx + 1, 0, none⟩) ∧ tm' 6 = .map (some m0) ∧ tm' 7 = .map (some m1) ∧ tm' 8 = .pointer (some ⟨nb, 0, none⟩)) ?_ ?_
 ·refine OpsR.drawn [8, 12, 13, 14, 15] (K := fun nx1 H1 => Ext n3 H3 nx1 H1) mixedO (by kernel_rfl) (by kernel_rfl) [0, 1, 2, 3, 4, 5, 6, 7, 9, 10, 11, 8, 14, 12, 13, 15] (by kernel_rfl) Ext.refl ?_
  refine OpsR.one rfl rfl rfl (by kernel_rfl) ?_
  repeat (first | refine OpsL.q (by exact omv) ?_ | (refine OpsL.nil ?_; (skip)))
  refine OpsR.sp (v := .int .i64 (L0.length : Int)) rfl (by kernel_rfl) (by subst_vars; decide) Ext.refl (fun HH nn hK => aop_lenN (by simp only [ASt.ev, tmPut, ↓reduceIte, Nat.reduceEqDiff, *]; done) (by exact rfl) ((hK.2 m0 (by omega)).trans h30)) ?_
  refine OpsR.one rfl rfl rfl (by kernel_rfl) ?_
  repeat (first | refine OpsL.q (by exact omv) ?_ | (refine OpsL.nil ?_; (skip)))
  refine OpsR.sp (v := .int .i64 (L1.length : Int)) rfl (by kernel_rfl) (by subst_vars; decide) Ext.refl (fun HH nn hK => aop_lenN (by simp only [ASt.ev, tmPut, ↓reduceIte, Nat.reduceEqDiff, *]; done) (by exact rfl) ((hK.2 m1 (by omega)).trans h31)) ?_
  refine OpsR.one rfl rfl rfl (by kernel_rfl) ?_
  repeat (first | refine OpsL.q (by exact osub) ?_ | (refine OpsL.nil ?_; (skip)))
  refine OpsR.one rfl rfl rfl (by kernel_rfl) ?_
  repeat (first | refine OpsL.q (by exact ofa) ?_ | (refine OpsL.nil ?_; (dsimp only)))
  refine OpsR.sp (v := .slice ai a.init.length ci) rfl (by kernel_rfl) (by subst_vars; decide) Ext.refl (fun HH nn hK => aop_load (by simp only [ASt.ev, tmPut, ↓reduceIte, Nat.reduceEqDiff, *]; rfl) (by exact rfl) rfl (by rw [Nat.zero_add]; exact cell_of ((hK.2 nx (by omega)).trans gx3) rfl)) ?_
  refine OpsR.one rfl rfl rfl (by kernel_rfl) ?_
  repeat (first | refine OpsL.q (by exact omv) ?_ | (refine OpsL.nil ?_; (skip)))
  refine OpsR.one rfl rfl rfl (by kernel_rfl) ?_
  repeat (first | refine OpsL.q (by exact ofa) ?_ | (refine OpsL.nil ?_; (dsimp only)))
  refine OpsR.sp (v := .slice af a.final.length cf) rfl (by kernel_rfl) (by subst_vars; decide) Ext.refl (fun HH nn hK => aop_load (by simp only [ASt.ev, tmPut, ↓reduceIte, Nat.reduceEqDiff, *]; rfl) (by exact rfl) rfl (by rw [Nat.zero_add]; exact cell_of ((hK.2 nx (by omega)).trans gx3) rfl)) ?_
  refine OpsR.one rfl rfl rfl (by kernel_rfl) ?_
  repeat (first | refine OpsL.q (by exact omv) ?_ | (refine OpsL.nil ?_; (skip)))
  refine OpsR.act2 (by kernel_rfl) ?_ ?_
  ·refine ActStep.call2 rfl rfl (by subst_vars; decide) (by exact rfl) (by simp only [ASt.ev, tmPut, ↓reduceIte, Nat.reduceEqDiff, *]; done) (by simp only [ASt.ev, tmPut, ↓reduceIte, Nat.reduceEqDiff, *]; done) entersKept (keptC W0 (ha3.ext (Ext.refl : Ext n3 H3 n3 H3) ok3).init (by have := hn.init; omega) (NA0.ext (Ext.refl : Ext n3 H3 n3 H3) ok3)).ok ?_
   rintro v4 nY1 HY1 ⟨⟨o4, w4Y1, b4, xY1⟩, kY1⟩
   obtain ⟨a4, c4, hv4⟩ := w4Y1.at.slice
   subst hv4
   have eY1 : Ext n3 H3 nY1 HY1 := (Ext.refl : Ext n3 H3 n3 H3).trans xY1
   have lY1 := xY1.1
   have leY1 := eY1.1
   refine ⟨eY1, ?_⟩
   refine OpsR.act2 (by kernel_rfl) ?_ ?_
   ·refine ActStep.walk rfl rfl ?_
    refine OpsL.new (by subst_vars; decide) (aop_alloc (l := zeroN) (by kernel_rfl)) ?_
    obtain ⟨nb, hnb⟩ : ∃ nb, nb = nY1 := ⟨_, rfl⟩
    obtain ⟨nY2, hnY2⟩ : ∃ q, q = nY1 + 1 := ⟨_, rfl⟩
    obtain ⟨HY2, hHY2⟩ : ∃ Q, Q = HY1.put nY1 (.cells zeroN 0 none false (some 30)) := ⟨_, rfl⟩
    have xY2 : Ext nY1 HY1 nY2 HY2 := by rw [hnY2, hHY2]; exact Ext.newPut
    have gY2 : HY2 nb = some (.cells zeroN 0 none false (some 30)) := by rw [hHY2, hnb]; exact Heap.put_eq
    have kY2 : ∀ id o, HY2 id = some o → id < nY2 := by rw [hHY2, hnY2]; exact ok_new kY1
    have eY2 : Ext n3 H3 nY2 HY2 := eY1.trans xY2
    have lY2 := xY2.1
    have leY2 := eY2.1
    have w4Y2 := OwnRow.ext xY2 (fun b t h => by have := b4 b t h; omega) w4Y1
    rw [← hHY2, ← hnY2, ← hnb]
    clear hHY2
    refine OpsL.nil ⟨eY2, ?_⟩
    refine OpsR.act (by kernel_rfl) (ActStep.call2 rfl rfl (by subst_vars; decide) (by exact rfl) (by simp only [ASt.ev, tmPut, ↓reduceIte, Nat.reduceEqDiff, *]; done) (by simp only [ASt.ev, tmPut, ↓reduceIte, Nat.reduceEqDiff, *]; done) entersKept (keptC W0 (ha3.ext eY2 ok3).final (by have := hn.final; omega) (NA0.ext eY2 ok3)).ok ?_)
    rintro v5 nY3 HY3 ⟨⟨o5, w5Y3, b5, xY3⟩, kY3⟩
    obtain ⟨a5, c5, hv5⟩ := w5Y3.at.slice
    subst hv5
    have eY3 : Ext n3 H3 nY3 HY3 := eY2.trans xY3
    have lY3 := xY3.1
    have leY3 := eY3.1
    have w4Y3 := OwnRow.ext xY3 (fun b t h => by have := b4 b t h; omega) w4Y2
    have gY3 := (xY3.2 nb (by omega)).trans gY2
    refine ⟨eY3, ?_⟩
    refine OpsR.act (by kernel_rfl) (ActStep.walk rfl rfl ?_)
    refine OpsL.q (aop_build (v := .agg (autV (trimB a L0 L1) (.slice a4 (keptF L0 a.init).length c4) (.slice a5 (keptF L0 a.final).length c5) (.slice none 0 0) (.slice none 0 0) (.slice none 0 0)).toArray) (l := [(0, .int .i64 (L0.length : Int)), (1, .int .i64 ((L1.length : Int) - 1)), (2, .slice a4 (keptF L0 a.init).length c4), (3, .slice a5 (keptF L0 a.final).length c5)]) (by simp only [evParts, ASt.ev, tmPut, ↓reduceIte, reduceIte, Option.some.injEq, Nat.reduceEqDiff, plainC, plain1, *]) (by kernel_rfl)) ?_
    refine OpsL.nil ⟨eY3, ?_⟩
    refine OpsR.act (by kernel_rfl) (ActStep.walk rfl rfl ?_)
    refine OpsL.upd (aop_store (k := 7) (u := .agg (autV (trimB a L0 L1) (.slice a4 (keptF L0 a.init).length c4) (.slice a5 (keptF L0 a.final).length c5) (.slice none 0 0) (.slice none 0 0) (.slice none 0 0)).toArray) (by simp only [ASt.ev, tmPut, ↓reduceIte, Nat.reduceEqDiff, *]; done) (by simp only [ASt.ev, tmPut, ↓reduceIte, Nat.reduceEqDiff, *]; done) (by exact rfl) rfl (o := .cells (autV (trimB a L0 L1) (.slice a4 (keptF L0 a.init).length c4) (.slice a5 (keptF L0 a.final).length c5) (.slice none 0 0) (.slice none 0 0) (.slice none 0 0)) 0 none false (some 30)) (setc_allN (vs := (autV (trimB a L0 L1) (.slice a4 (keptF L0 a.init).length c4) (.slice a5 (keptF L0 a.final).length c5) (.slice none 0 0) (.slice none 0 0) (.slice none 0 0))) gY3 rfl rfl)) ?_
    have eS : Ext n3 H3 nY3 (HY3.put nb (.cells (autV (trimB a L0 L1) (.slice a4 (keptF L0 a.init).length c4) (.slice a5 (keptF L0 a.final).length c5) (.slice none 0 0) (.slice none 0 0) (.slice none 0 0)) 0 none false (some 30))) := ⟨by omega, fun j hj => by rw [Heap.put_ne (by omega)]; exact eY3.2 j hj⟩
    have gS : (HY3.put nb (.cells (autV (trimB a L0 L1) (.slice a4 (keptF L0 a.init).length c4) (.slice a5 (keptF L0 a.final).length c5) (.slice none 0 0) (.slice none 0 0) (.slice none 0 0)) 0 none false (some 30))) nb = some (.cells (autV (trimB a L0 L1) (.slice a4 (keptF L0 a.init).length c4) (.slice a5 (keptF L0 a.final).length c5) (.slice none 0 0) (.slice none 0 0) (.slice none 0 0)) 0 none false (some 30)) := Heap.put_eq
    have w4S := OwnRow.same (H' := HY3.put nb (.cells (autV (trimB a L0 L1) (.slice a4 (keptF L0 a.init).length c4) (.slice a5 (keptF L0 a.final).length c5) (.slice none 0 0) (.slice none 0 0) (.slice none 0 0)) 0 none false (some 30))) (fun b t h => Heap.put_ne (by have := b4 b t h; omega)) w4Y3
    have w5S := OwnRow.same (H' := HY3.put nb (.cells (autV (trimB a L0 L1) (.slice a4 (keptF L0 a.init).length c4) (.slice a5 (keptF L0 a.final).length c5) (.slice none 0 0) (.slice none 0 0) (.slice none 0 0)) 0 none false (some 30))) (fun b t h => Heap.put_ne (by have := b5 b t h; omega)) w5Y3
    refine OpsL.nil ⟨eS, ?_⟩
    refine OpsR.nil ?_
    exact ⟨rfl, _, nb, _, _, a4, a5, c4, c5, o4, o5, rfl, eS, by omega, by omega, gS, w4S, w5S, fun b t h => by have := b4 b t h; omega, fun b t h => ⟨by have := b5 b t h; omega, by have := b5 b t h; omega, by have := b5 b t h; omega, fun b' t' h' => by have := b5 b t h; have := b4 b' t' h'; omega⟩, by simp [tmPut, *], by simp [tmPut, *], by simp [tmPut, *], by simp [tmPut, *], by simp [tmPut, *]⟩
   ·refine ActStep.call2 rfl rfl (by subst_vars; decide) (by exact rfl) (by simp only [ASt.ev, tmPut, ↓reduceIte, Nat.reduceEqDiff, *]; done) (by simp only [ASt.ev, tmPut, ↓reduceIte, Nat.reduceEqDiff, *]; done) entersKept (keptC W0 (ha3.ext eY1 ok3).final (by have := hn.final; omega) (NA0.ext eY1 ok3)).ok ?_
    rintro v5 nY4 HY4 ⟨⟨o5, w5Y4, b5, xY4⟩, kY4⟩
    obtain ⟨a5, c5, hv5⟩ := w5Y4.at.slice
    subst hv5
    have eY4 : Ext n3 H3 nY4 HY4 := eY1.trans xY4
    have lY4 := xY4.1
    have leY4 := eY4.1
    have w4Y4 := OwnRow.ext xY4 (fun b t h => by have := b4 b t h; omega) w4Y1
    refine ⟨eY4, ?_⟩
    refine OpsR.act2 (by kernel_rfl) ?_ ?_
    ·refine ActStep.walk rfl rfl ?_
     refine OpsL.new (by subst_vars; decide) (aop_alloc (l := zeroN) (by kernel_rfl)) ?_
     obtain ⟨nb, hnb⟩ : ∃ nb, nb = nY4 := ⟨_, rfl⟩
     obtain ⟨nY5, hnY5⟩ : ∃ q, q = nY4 + 1 := ⟨_, rfl⟩
     obtain ⟨HY5, hHY5⟩ : ∃ Q, Q = HY4.put nY4 (.cells zeroN 0 none false (some 30)) := ⟨_, rfl⟩
     have xY5 : Ext nY4 HY4 nY5 HY5 := by rw [hnY5, hHY5]; exact Ext.newPut
     have gY5 : HY5 nb = some (.cells zeroN 0 none false (some 30)) := by rw [hHY5, hnb]; exact Heap.put_eq
     have kY5 : ∀ id o, HY5 id = some o → id < nY5 := by rw [hHY5, hnY5]; exact ok_new kY4
     have eY5 : Ext n3 H3 nY5 HY5 := eY4.trans xY5
     have lY5 := xY5.1
     have leY5 := eY5.1
     have w4Y5 := OwnRow.ext xY5 (fun b t h => by have := b4 b t h; omega) w4Y4
     have w5Y5 := OwnRow.ext xY5 (fun b t h => by have := b5 b t h; omega) w5Y4
     rw [← hHY5, ← hnY5, ← hnb]
     clear hHY5
     refine OpsL.nil ⟨eY5, ?_⟩
     refine OpsR.act (by kernel_rfl) (ActStep.walk rfl rfl ?_)
     refine OpsL.q (aop_build (v := .agg (autV (trimB a L0 L1) (.slice a4 (keptF L0 a.init).length c4) (.slice a5 (keptF L0 a.final).length c5) (.slice none 0 0) (.slice none 0 0) (.slice none 0 0)).toArray) (l := [(0, .int .i64 (L0.length : Int)), (1, .int .i64 ((L1.length : Int) - 1)), (2, .slice a4 (keptF L0 a.init).length c4), (3, .slice a5 (keptF L0 a.final).length c5)]) (by simp only [evParts, ASt.ev, tmPut, ↓reduceIte, reduceIte, Option.some.injEq, Nat.reduceEqDiff, plainC, plain1, *]) (by kernel_rfl)) ?_
     refine OpsL.nil ⟨eY5, ?_⟩
     refine OpsR.act (by kernel_rfl) (ActStep.walk rfl rfl ?_)
     refine OpsL.upd (aop_store (k := 7) (u := .agg (autV (trimB a L0 L1) (.slice a4 (keptF L0 a.init).length c4) (.slice a5 (keptF L0 a.final).length c5) (.slice none 0 0) (.slice none 0 0) (.slice none 0 0)).toArray) (by simp only [ASt.ev, tmPut, ↓reduceIte, Nat.reduceEqDiff, *]; done) (by simp only [ASt.ev, tmPut, ↓reduceIte, Nat.reduceEqDiff, *]; done) (by exact rfl) rfl (o := .cells (autV (trimB a L0 L1) (.slice a4 (keptF L0 a.init).length c4) (.slice a5 (keptF L0 a.final).length c5) (.slice none 0 0) (.slice none 0 0) (.slice none 0 0)) 0 none false (some 30)) (setc_allN (vs := (autV (trimB a L0 L1) (.slice a4 (keptF L0 a.init).length c4) (.slice a5 (keptF L0 a.final).length c5) (.slice none 0 0) (.slice none 0 0) (.slice none 0 0))) gY5 rfl rfl)) ?_
     have eS : Ext n3 H3 nY5 (HY5.put nb (.cells (autV (trimB a L0 L1) (.slice a4 (keptF L0 a.init).length c4) (.slice a5 (keptF L0 a.final).length c5) (.slice none 0 0) (.slice none 0 0) (.slice none 0 0)) 0 none false (some 30))) := ⟨by omega, fun j hj => by rw [Heap.put_ne (by omega)]; exact eY5.2 j hj⟩
     have gS : (HY5.put nb (.cells (autV (trimB a L0 L1) (.slice a4 (keptF L0 a.init).length c4) (.slice a5 (keptF L0 a.final).length c5) (.slice none 0 0) (.slice none 0 0) (.slice none 0 0)) 0 none false (some 30))) nb = some (.cells (autV (trimB a L0 L1) (.slice a4 (keptF L0 a.init).length c4) (.slice a5 (keptF L0 a.final).length c5) (.slice none 0 0) (.slice none 0 0) (.slice none 0 0)) 0 none false (some 30)) := Heap.put_eq
     have w4S := OwnRow.same (H' := HY5.put nb (.cells (autV (trimB a L0 L1) (.slice a4 (keptF L0 a.init).length c4) (.slice a5 (keptF L0 a.final).length c5) (.slice none 0 0) (.slice none 0 0) (.slice none 0 0)) 0 none false (some 30))) (fun b t h => Heap.put_ne (by have := b4 b t h; omega)) w4Y5
     have w5S := OwnRow.same (H' := HY5.put nb (.cells (autV (trimB a L0 L1) (.slice a4 (keptF L0 a.init).length c4) (.slice a5 (keptF L0 a.final).length c5) (.slice none 0 0) (.slice none 0 0) (.slice none 0 0)) 0 none false (some 30))) (fun b t h => Heap.put_ne (by have := b5 b t h; omega)) w5Y5
     refine OpsL.nil ⟨eS, ?_⟩
     refine OpsR.nil ?_
     exact ⟨rfl, _, nb, _, _, a4, a5, c4, c5, o4, o5, rfl, eS, by omega, by omega, gS, w4S, w5S, fun b t h => by have := b4 b t h; omega, fun b t h => ⟨by have := b5 b t h; omega, by have := b5 b t h; omega, by have := b5 b t h; omega, fun b' t' h' => by have := b5 b t h; have := b4 b' t' h'; omega⟩, by simp [tmPut, *], by simp [tmPut, *], by simp [tmPut, *], by simp [tmPut, *], by simp [tmPut, *]⟩
    ·refine ActStep.walk rfl rfl ?_
     refine OpsL.q (aop_build (v := .agg (autV (trimB a L0 L1) (.slice a4 (keptF L0 a.init).length c4) (.slice a5 (keptF L0 a.final).length c5) (.slice none 0 0) (.slice none 0 0) (.slice none 0 0)).toArray) (l := [(0, .int .i64 (L0.length : Int)), (1, .int .i64 ((L1.length : Int) - 1)), (2, .slice a4 (keptF L0 a.init).length c4), (3, .slice a5 (keptF L0 a.final).length c5)]) (by simp only [evParts, ASt.ev, tmPut, ↓reduceIte, reduceIte, Option.some.injEq, Nat.reduceEqDiff, plainC, plain1, *]) (by kernel_rfl)) ?_
     refine OpsL.nil ⟨eY4, ?_⟩
     refine OpsR.act (by kernel_rfl) (ActStep.walk rfl rfl ?_)
     refine OpsL.new (by subst_vars; decide) (aop_alloc (l := zeroN) (by kernel_rfl)) ?_
     obtain ⟨nb, hnb⟩ : ∃ nb, nb = nY4 := ⟨_, rfl⟩
     obtain ⟨nY6, hnY6⟩ : ∃ q, q = nY4 + 1 := ⟨_, rfl⟩
     obtain ⟨HY6, hHY6⟩ : ∃ Q, Q = HY4.put nY4 (.cells zeroN 0 none false (some 30)) := ⟨_, rfl⟩
     have xY6 : Ext nY4 HY4 nY6 HY6 := by rw [hnY6, hHY6]; exact Ext.newPut
     have gY6 : HY6 nb = some (.cells zeroN 0 none false (some 30)) := by rw [hHY6, hnb]; exact Heap.put_eq
     have kY6 : ∀ id o, HY6 id = some o → id < nY6 := by rw [hHY6, hnY6]; exact ok_new kY4
     have eY6 : Ext n3 H3 nY6 HY6 := eY4.trans xY6
     have lY6 := xY6.1
     have leY6 := eY6.1
     have w4Y6 := OwnRow.ext xY6 (fun b t h => by have := b4 b t h; omega) w4Y4
     have w5Y6 := OwnRow.ext xY6 (fun b t h => by have := b5 b t h; omega) w5Y4
     rw [← hHY6, ← hnY6, ← hnb]
     clear hHY6
     refine OpsL.nil ⟨eY6, ?_⟩
     refine OpsR.act (by kernel_rfl) (ActStep.walk rfl rfl ?_)
     refine OpsL.upd (aop_store (k := 7) (u := .agg (autV (trimB a L0 L1) (.slice a4 (keptF L0 a.init).length c4) (.slice a5 (keptF L0 a.final).length c5) (.slice none 0 0) (.slice none 0 0) (.slice none 0 0)).toArray) (by simp only [ASt.ev, tmPut, ↓reduceIte, Nat.reduceEqDiff, *]; done) (by simp only [ASt.ev, tmPut, ↓reduceIte, Nat.reduceEqDiff, *]; done) (by exact rfl) rfl (o := .cells (autV (trimB a L0 L1) (.slice a4 (keptF L0 a.init).length c4) (.slice a5 (keptF L0 a.final).length c5) (.slice none 0 0) (.slice none 0 0) (.slice none 0 0)) 0 none false (some 30)) (setc_allN (vs := (autV (trimB a L0 L1) (.slice a4 (keptF L0 a.init).length c4) (.slice a5 (keptF L0 a.final).length c5) (.slice none 0 0) (.slice none 0 0) (.slice none 0 0))) gY6 rfl rfl)) ?_
     have eS : Ext n3 H3 nY6 (HY6.put nb (.cells (autV (trimB a L0 L1) (.slice a4 (keptF L0 a.init).length c4) (.slice a5 (keptF L0 a.final).length c5) (.slice none 0 0) (.slice none 0 0) (.slice none 0 0)) 0 none false (some 30))) := ⟨by omega, fun j hj => by rw [Heap.put_ne (by omega)]; exact eY6.2 j hj⟩
     have gS : (HY6.put nb (.cells (autV (trimB a L0 L1) (.slice a4 (keptF L0 a.init).length c4) (.slice a5 (keptF L0 a.final).length c5) (.slice none 0 0) (.slice none 0 0) (.slice none 0 0)) 0 none false (some 30))) nb = some (.cells (autV (trimB a L0 L1) (.slice a4 (keptF L0 a.init).length c4) (.slice a5 (keptF L0 a.final).length c5) (.slice none 0 0) (.slice none 0 0) (.slice none 0 0)) 0 none false (some 30)) := Heap.put_eq
     have w4S := OwnRow.same (H' := HY6.put nb (.cells (autV (trimB a L0 L1) (.slice a4 (keptF L0 a.init).length c4) (.slice a5 (keptF L0 a.final).length c5) (.slice none 0 0) (.slice none 0 0) (.slice none 0 0)) 0 none false (some 30))) (fun b t h => Heap.put_ne (by have := b4 b t h; omega)) w4Y6
     have w5S := OwnRow.same (H' := HY6.put nb (.cells (autV (trimB a L0 L1) (.slice a4 (keptF L0 a.init).length c4) (.slice a5 (keptF L0 a.final).length c5) (.slice none 0 0) (.slice none 0 0) (.slice none 0 0)) 0 none false (some 30))) (fun b t h => Heap.put_ne (by have := b5 b t h; omega)) w5Y6
     refine OpsL.nil ⟨eS, ?_⟩
     refine OpsR.nil ?_
     exact ⟨rfl, _, nb, _, _, a4, a5, c4, c5, o4, o5, rfl, eS, by omega, by omega, gS, w4S, w5S, fun b t h => by have := b4 b t h; omega, fun b t h => ⟨by have := b5 b t h; omega, by have := b5 b t h; omega, by have := b5 b t h; omega, fun b' t' h' => by have := b5 b t h; have := b4 b' t' h'; omega⟩, by simp [tmPut, *], by simp [tmPut, *], by simp [tmPut, *], by simp [tmPut, *], by simp [tmPut, *]⟩
  ·refine ActStep.walk rfl rfl ?_
   refine OpsL.new (by subst_vars; decide) (aop_alloc (l := zeroN) (by kernel_rfl)) ?_
   obtain ⟨nY7, hnY7⟩ : ∃ q, q = n3 + 1 := ⟨_, rfl⟩
   obtain ⟨HY7, hHY7⟩ : ∃ Q, Q = H3.put n3 (.cells zeroN 0 none false (some 30)) := ⟨_, rfl⟩
   have xY7 : Ext n3 H3 nY7 HY7 := by rw [hnY7, hHY7]; exact Ext.newPut
   have gY7 : HY7 n3 = some (.cells zeroN 0 none false (some 30)) := by rw [hHY7]; exact Heap.put_eq
   have kY7 : ∀ id o, HY7 id = some o → id < nY7 := by rw [hHY7, hnY7]; exact ok_new ok3
   have eY7 : Ext n3 H3 nY7 HY7 := (Ext.refl : Ext n3 H3 n3 H3).trans xY7
   have lY7 := xY7.1
   have leY7 := eY7.1
   rw [← hHY7, ← hnY7]
   clear hHY7
   refine OpsL.nil ⟨eY7, ?_⟩
   refine OpsR.act (by kernel_rfl) (ActStep.call2 rfl rfl (by subst_vars; decide) (by exact rfl) (by simp only [ASt.ev, tmPut, ↓reduceIte, Nat.reduceEqDiff, *]; done) (by simp only [ASt.ev, tmPut, ↓reduceIte, Nat.reduceEqDiff, *]; done) entersKept (keptC W0 (ha3.ext eY7 ok3).init (by have := hn.init; omega) (NA0.ext eY7 ok3)).ok ?_)
   rintro v4 nY8 HY8 ⟨⟨o4, w4Y8, b4, xY8⟩, kY8⟩
   obtain ⟨a4, c4, hv4⟩ := w4Y8.at.slice
   subst hv4
   have eY8 : Ext n3 H3 nY8 HY8 := eY7.trans xY8
   have lY8 := xY8.1
   have leY8 := eY8.1
   have gY8 := (xY8.2 n3 (by omega)).trans gY7
   refine ⟨eY8, ?_⟩
   refine OpsR.act (by kernel_rfl) (ActStep.call2 rfl rfl (by subst_vars; decide) (by exact rfl) (by simp only [ASt.ev, tmPut, ↓reduceIte, Nat.reduceEqDiff, *]; done) (by simp only [ASt.ev, tmPut, ↓reduceIte, Nat.reduceEqDiff, *]; done) entersKept (keptC W0 (ha3.ext eY8 ok3).final (by have := hn.final; omega) (NA0.ext eY8 ok3)).ok ?_)
   rintro v5 nY9 HY9 ⟨⟨o5, w5Y9, b5, xY9⟩, kY9⟩
   obtain ⟨a5, c5, hv5⟩ := w5Y9.at.slice
   subst hv5
   have eY9 : Ext n3 H3 nY9 HY9 := eY8.trans xY9
   have lY9 := xY9.1
   have leY9 := eY9.1
   have w4Y9 := OwnRow.ext xY9 (fun b t h => by have := b4 b t h; omega) w4Y8
   have gY9 := (xY9.2 n3 (by omega)).trans gY8
   refine ⟨eY9, ?_⟩
   refine OpsR.act (by kernel_rfl) (ActStep.walk rfl rfl ?_)
   refine OpsL.q (aop_build (v := .agg (autV (trimB a L0 L1) (.slice a4 (keptF L0 a.init).length c4) (.slice a5 (keptF L0 a.final).length c5) (.slice none 0 0) (.slice none 0 0) (.slice none 0 0)).toArray) (l := [(0, .int .i64 (L0.length : Int)), (1, .int .i64 ((L1.length : Int) - 1)), (2, .slice a4 (keptF L0 a.init).length c4), (3, .slice a5 (keptF L0 a.final).length c5)]) (by simp only [evParts, ASt.ev, tmPut, ↓reduceIte, reduceIte, Option.some.injEq, Nat.reduceEqDiff, plainC, plain1, *]) (by kernel_rfl)) ?_
   refine OpsL.nil ⟨eY9, ?_⟩
   refine OpsR.act (by kernel_rfl) (ActStep.walk rfl rfl ?_)
   refine OpsL.upd (aop_store (k := 7) (u := .agg (autV (trimB a L0 L1) (.slice a4 (keptF L0 a.init).length c4) (.slice a5 (keptF L0 a.final).length c5) (.slice none 0 0) (.slice none 0 0) (.slice none 0 0)).toArray) (by simp only [ASt.ev, tmPut, ↓reduceIte, Nat.reduceEqDiff, *]; done) (by simp only [ASt.ev, tmPut, ↓reduceIte, Nat.reduceEqDiff, *]; done) (by exact rfl) rfl (o := .cells (autV (trimB a L0 L1) (.slice a4 (keptF L0 a.init).length c4) (.slice a5 (keptF L0 a.final).length c5) (.slice none 0 0) (.slice none 0 0) (.slice none 0 0)) 0 none false (some 30)) (setc_allN (vs := (autV (trimB a L0 L1) (.slice a4 (keptF L0 a.init).length c4) (.slice a5 (keptF L0 a.final).length c5) (.slice none 0 0) (.slice none 0 0) (.slice none 0 0))) gY9 rfl rfl)) ?_
   have eS : Ext n3 H3 nY9 (HY9.put n3 (.cells (autV (trimB a L0 L1) (.slice a4 (keptF L0 a.init).length c4) (.slice a5 (keptF L0 a.final).length c5) (.slice none 0 0) (.slice none 0 0) (.slice none 0 0)) 0 none false (some 30))) := ⟨by omega, fun j hj => by rw [Heap.put_ne (by omega)]; exact eY9.2 j hj⟩
   have gS : (HY9.put n3 (.cells (autV (trimB a L0 L1) (.slice a4 (keptF L0 a.init).length c4) (.slice a5 (keptF L0 a.final).length c5) (.slice none 0 0) (.slice none 0 0) (.slice none 0 0)) 0 none false (some 30))) n3 = some (.cells (autV (trimB a L0 L1) (.slice a4 (keptF L0 a.init).length c4) (.slice a5 (keptF L0 a.final).length c5) (.slice none 0 0) (.slice none 0 0) (.slice none 0 0)) 0 none false (some 30)) := Heap.put_eq
   have w4S := OwnRow.same (H' := HY9.put n3 (.cells (autV (trimB a L0 L1) (.slice a4 (keptF L0 a.init).length c4) (.slice a5 (keptF L0 a.final).length c5) (.slice none 0 0) (.slice none 0 0) (.slice none 0 0)) 0 none false (some 30))) (fun b t h => Heap.put_ne (by have := b4 b t h; omega)) w4Y9
   have w5S := OwnRow.same (H' := HY9.put n3 (.cells (autV (trimB a L0 L1) (.slice a4 (keptF L0 a.init).length c4) (.slice a5 (keptF L0 a.final).length c5) (.slice none 0 0) (.slice none 0 0) (.slice none 0 0)) 0 none false (some 30))) (fun b t h => Heap.put_ne (by have := b5 b t h; omega)) w5Y9
   refine OpsL.nil ⟨eS, ?_⟩
   refine OpsR.nil ?_
   exact ⟨rfl, _, n3, _, _, a4, a5, c4, c5, o4, o5, rfl, eS, by omega, by omega, gS, w4S, w5S, fun b t h => by have := b4 b t h; omega, fun b t h => ⟨by have := b5 b t h; omega, by have := b5 b t h; omega, by have := b5 b t h; omega, fun b' t' h' => by have := b5 b t h; have := b4 b' t' h'; omega⟩, by simp [tmPut, *], by simp [tmPut, *], by simp [tmPut, *], by simp [tmPut, *], by simp [tmPut, *]⟩
 ·rintro e st ⟨rfl, tm', nb, nx7, G7, a4, a5, c4, c5, o4, o5, rfl, x37, hnb1, hnb2, gb, wi, wf, b4, b5, q3, q4, q6, q7, q8⟩
  (change Trip _ _ _ _ _)
  generalize hTB : trimB a L0 L1 = TB at *
  have fr7 : ∀ j, j < nx7 → j ≠ nb → G7 j = G7 j := fun _ _ _ => rfl
  have h37 := x37.1
  have ha4 := ha3.ext x37 ok3
  have gx4 := (x37.2 nx (by omega)).trans gx3
  have hln4 := hn.opens
  have ca4 : cellAt G7 ⟨nx, 0 + 4, none⟩ (.slice ao a.opens.length co) := by rw [Nat.zero_add]; exact cell_of gx4 rfl
  repeat (first | (refine OpsL.q (by first | exact omv | exact olen | exact ofa | exact old) ?_) | refine Trip.seq ?_ | refine Trip.ops ?_ | refine Trip.block ?_ | (refine OpsL.nil ?_; (change Trip _ _ _ _ _)))
  refine Trip.mono (Q := fun e st => e = .exit 0 ∧ ∃ (tm' : Nat → Value) (nx' : Nat) (H' : Heap) (ob : Option (Nat × Nat)) (v : Value), st = ⟨tm', n, H', nx'⟩ ∧ nx7 ≤ nx' ∧ (∀ j, j < nx7 → j ≠ nb → H' j = G7 j) ∧ H' nb = some (.cells (autV TB (.slice a4 (keptF L0 a.init).length c4) (.slice a5 (keptF L0 a.final).length c5) v (.slice none 0 0) (.slice none 0 0)) 0 none false (some 30)) ∧ OwnO H' ob v (a.opens.filterMap (trimO L0 L1)) ∧ (∀ b t, ob = some (b, t) → nx7 ≤ b ∧ b < nx') ∧ tm' 3 = .pointer (some ⟨nx, 0, none⟩) ∧ tm' 4 = .pointer (some ⟨nx + 1, 0, none⟩) ∧ tm' 6 = .map (some m0) ∧ tm' 7 = .map (some m1) ∧ tm' 8 = .pointer (some ⟨nb, 0, none⟩)) ?_ ?_
  ·refine Trip.inv (fun (i : Nat) st => ∃ (tm' : Nat → Value) (nx' : Nat) (H' : Heap) (ob : Option (Nat × Nat)) (v : Value), st = ⟨tm', n, H', nx'⟩ ∧ nx7 ≤ nx' ∧ (∀ j, j < nx7 → j ≠ nb → H' j = G7 j) ∧ H' nb = some (.cells (autV TB (.slice a4 (keptF L0 a.init).length c4) (.slice a5 (keptF L0 a.final).length c5) v (.slice none 0 0) (.slice none 0 0)) 0 none false (some 30)) ∧ OwnO H' ob v ((a.opens.take i).filterMap (trimO L0 L1)) ∧ (∀ b t, ob = some (b, t) → nx7 ≤ b ∧ b < nx') ∧ tm' 3 = .pointer (some ⟨nx, 0, none⟩) ∧ tm' 4 = .pointer (some ⟨nx + 1, 0, none⟩) ∧ tm' 6 = .map (some m0) ∧ tm' 7 = .map (some m1) ∧ tm' 8 = .pointer (some ⟨nb, 0, none⟩) ∧ tm' 44 = .slice ao a.opens.length co ∧ tm' 45 = .int .i64 a.opens.length ∧ tm' 46 = .int .i64 i ∧ i ≤ a.opens.length) (fun i => a.opens.length - i) 0 ?_ ?_
   ·exact ⟨_, _, _, none, .slice none 0 0, rfl, Nat.le_refl _, fun _ _ _ => rfl, gb, ⟨rfl, by simp, by simp⟩, fun _ _ h => (by cases h), by simp [tmPut, *], by simp [tmPut, *], by simp [tmPut, *], by simp [tmPut, *], by simp [tmPut, *], by simp [tmPut, *], by simp [tmPut, *], by simp [tmPut, *], Nat.zero_le _⟩
   ·clear q3 q4 q6 q7 q8 gb ca4
    rintro i st ⟨tm, nx', H', ob, v, rfl, hle, hfr, gb, hown, hob, q3, q4, q6, q7, q8, dsl, dln, dix, hi⟩
    refine Trip.ok fun hok' => ?_
    replace hok' : ∀ id o, H' id = some o → id < nx' := hok'
    have eI : Ext n3 H3 nx' H' := ⟨by omega, fun j hj => by rw [hfr j (by omega) (by omega)]; exact x37.2 j hj⟩
    by_cases hlt : i < a.opens.length
    ·obtain ⟨p, hp0, g⟩ := rows_at (ha3.ext eI ok3).opens hlt
     subst hp0
     have hst := filterMap_snoc (trimO L0 L1) hlt
     have hzl : ((a.opens.take i).filterMap (trimO L0 L1)).length ≤ 1000 := by
      have h1 : ((a.opens.take i).filterMap (trimO L0 L1)).length ≤ (a.opens.take i).length := List.length_filterMap_le _ _
      rw [List.length_take] at h1
      have := hn.opens
      omega
     generalize (a.opens.take i).filterMap (trimO L0 L1) = zs at *
     generalize a.opens[i] = r at *
     repeat (first | refine Trip.seq ?_ | refine Trip.ops ?_)
     refine OpsL.lssT ?_
     repeat (first | refine Trip.seq ?_ | (refine OpsL.nil ?_; (change Trip _ _ _ _ _)))
     refine Trip.ifT ?_
     repeat (first | refine OpsL.q (by exact oixa) ?_ | refine Trip.seq ?_ | refine Trip.ops ?_ | refine Trip.block ?_ | (refine Trip.skip ?_; (change Trip _ _ _ _ _)))
     refine OpsL.q (aop_loadAgg (k := 4) (vs := enc4 r) (by simp only [ASt.ev, tmPut, ↓reduceIte, Nat.reduceEqDiff, *]; rfl) (by exact rfl) rfl (by exact rfl) g) ?_
     refine OpsL.new (by subst_vars; decide) (aop_alloc (l := (rep 4 [.int .i64 0])) (by kernel_rfl)) ?_
     refine OpsL.upd (aop_store (k := 4) (u := .agg (enc4 r).toArray) (by simp only [ASt.ev, tmPut, ↓reduceIte, Nat.reduceEqDiff, *]; done) (by simp only [ASt.ev, tmPut, ↓reduceIte, Nat.reduceEqDiff, *]; done) (by exact rfl) rfl (o := .cells (enc4 r) 0 none false (some 44)) (setc_allN (vs := (enc4 r)) Heap.put_eq rfl rfl)) ?_
     obtain ⟨G4, hG4⟩ : ∃ G0, G0 = (H'.put nx' (.cells (rep 4 [.int .i64 0]) 0 none false (some 44))).put nx' (.cells (enc4 r) 0 none false (some 44)) := ⟨_, rfl⟩
     have xG4 : Ext nx' H' (nx' + 1) G4 := ⟨Nat.le_succ _, fun j hj => by rw [hG4, Heap.put_ne (by omega), Heap.put_ne (by omega)]⟩
     have kG4 : ∀ id o, G4 id = some o → id < nx' + 1 := by rw [hG4]; exact ok_put3 (ok_new hok') Heap.put_eq
     have bG4 : G4 nx' = some (.cells (enc4 r) 0 none false (some 44)) := by rw [hG4, Heap.put_eq]
     first | rw [← hG4] | skip
     clear hG4
     have eG : Ext n3 H3 (nx' + 1) G4 := eI.trans xG4
     have M0 := NA0.ext eG ok3
     have M1 := NA1.ext eG ok3
     have gb4 := (xG4.2 nb (by omega)).trans gb
     have cB : cellAt G4 ⟨nb, 0 + 4, none⟩ v := by rw [Nat.zero_add]; exact cell_of gb4 rfl
     have own4 := OwnOf.ext xG4 (fun b t h => (hob b t h).2) hown
     have c0 : cellAt G4 ⟨nx', 0, none⟩ (.int .i64 r.1) := by exact cell_of bG4 rfl
     have c1 : cellAt G4 ⟨nx', 0 + 1, none⟩ (.int .i64 r.2.1) := by rw [Nat.zero_add]; exact cell_of bG4 rfl
     have c2 : cellAt G4 ⟨nx', 0 + 2, none⟩ (.int .i64 r.2.2.1) := by rw [Nat.zero_add]; exact cell_of bG4 rfl
     have c3 : cellAt G4 ⟨nx', 0 + 3, none⟩ (.int .i64 r.2.2.2) := by rw [Nat.zero_add]; exact cell_of bG4 rfl
     repeat (first | (refine OpsL.q (by first | exact omv | exact ofa | exact old) ?_) | refine Trip.seq ?_ | refine Trip.ops ?_ | (refine OpsL.nil ?_; (change Trip _ _ _ _ _)))
     refine OpsL.q (aop_lookup3 (by simp only [ASt.ev, tmPut, ↓reduceIte, Nat.reduceEqDiff, *]; done) (by simp only [ASt.ev, tmPut, ↓reduceIte, Nat.reduceEqDiff, *]; done) (M0.told r.1)) ?_
     cases hy : numO L0 r.1 with
     | none =>
      rw [show (trimO L0 L1) r = none by simp only [trimO, hy]; rfl, Option.toList_none, List.append_nil] at hst
      simp only [Option.getD_none, Option.isSome_none]
      repeat (refine OpsL.q (by exact omv) ?_)
      refine OpsL.q (v := .int .i64 0) (aop_extract (by simp only [ASt.ev, tmPut, ↓reduceIte, Nat.reduceEqDiff, *]; rfl) (by exact rfl)) ?_
      refine OpsL.q (v := .bool false) (aop_extract (by simp only [ASt.ev, tmPut, ↓reduceIte, Nat.reduceEqDiff, *]; rfl) (by exact rfl)) ?_
      repeat (first | (refine OpsL.q (by first | exact omv | exact oasg) ?_) | refine Trip.seq ?_ | refine Trip.ops ?_ | (refine OpsL.nil ?_; (change Trip _ _ _ _ _)))
      refine Trip.ifF ?_
      repeat (first | (refine OpsL.q (by first | exact omv | exact oadd) ?_) | refine Trip.ops ?_ | (refine Trip.skip ?_; ((repeat (refine blockExit_normal ?_)); change Trip _ _ _ _ _)) | (refine OpsL.nil ?_; (dsimp only)))
      exact ⟨i + 1, ⟨_, _, _, ob, v, rfl, by omega, fun j h1 h2 => by rw [xG4.2 j (by omega)]; exact hfr j h1 h2, gb4, by rw [hst]; exact own4, fun b t h => by have := hob b t h; omega, by simp [tmPut, *], by simp [tmPut, *], by simp [tmPut, *], by simp [tmPut, *], by simp [tmPut, *], by simp [tmPut, *], by simp [tmPut, *], by simp [tmPut, *], by omega⟩, by omega⟩
     | some z =>
      rw [show (trimO L0 L1) r = some (z, r.2.1, (numO L0 r.2.2.1).getD 0, (numO L1 r.2.2.2).getD 0) by simp only [trimO, hy]; rfl, Option.toList_some] at hst
      simp only [Option.getD_some, Option.isSome_some]
      repeat (refine OpsL.q (by exact omv) ?_)
      refine OpsL.q (v := .int .i64 z) (aop_extract (by simp only [ASt.ev, tmPut, ↓reduceIte, Nat.reduceEqDiff, *]; rfl) (by exact rfl)) ?_
      refine OpsL.q (v := .bool true) (aop_extract (by simp only [ASt.ev, tmPut, ↓reduceIte, Nat.reduceEqDiff, *]; rfl) (by exact rfl)) ?_
      repeat (first | (refine OpsL.q (by first | exact omv | exact oasg) ?_) | refine Trip.seq ?_ | refine Trip.ops ?_ | (refine OpsL.nil ?_; (change Trip _ _ _ _ _)))
      refine Trip.ifT ?_
      repeat (first | (refine OpsL.q (by first | exact omv | exact ofa | exact old) ?_) | refine Trip.ops ?_)
      refine OpsL.q (aop_lookup3 (by simp only [ASt.ev, tmPut, ↓reduceIte, Nat.reduceEqDiff, *]; done) (by simp only [ASt.ev, tmPut, ↓reduceIte, Nat.reduceEqDiff, *]; done) (M0.told1 r.2.2.1)) ?_
      repeat (refine OpsL.q (by first | exact omv | exact ofa | exact old) ?_)
      refine OpsL.q (aop_lookup3 (by simp only [ASt.ev, tmPut, ↓reduceIte, Nat.reduceEqDiff, *]; done) (by simp only [ASt.ev, tmPut, ↓reduceIte, Nat.reduceEqDiff, *]; done) (M1.told1 r.2.2.2)) ?_
      repeat fail
      obtain ⟨w, hw⟩ : ∃ w, w = (z, r.2.1, (numO L0 r.2.2.1).getD 0, (numO L1 r.2.2.2).getD 0) := ⟨_, rfl⟩
      refine OpsL.q (aop_build (v := .agg (enc4 w).toArray) (l := [(0, .int .i64 z), (1, .int .i64 r.2.1), (2, .int .i64 ((numO L0 r.2.2.1).getD 0)), (3, .int .i64 ((numO L1 r.2.2.2).getD 0))]) (by simp only [evParts, ASt.ev, tmPut, ↓reduceIte, reduceIte, Option.some.injEq, Nat.reduceEqDiff, plainC, plain1, *]) (by rw [hw]; kernel_rfl)) ?_
      rw [← hw] at hst
      clear hw
      refine OpsL.new (by subst_vars; decide) (aop_buildSlice (l := [(0, .agg (enc4 w).toArray)]) (r := (.slice (some ⟨nx' + 1, 0, none⟩) 1 1, .new (.cells (enc4 w) 4 none false (some 44)))) (by simp only [evParts, ASt.ev, tmPut, ↓reduceIte, reduceIte, Option.some.injEq, Nat.reduceEqDiff, plainC, plain1, *]) (by kernel_rfl)) ?_
      have hx5 : Ext (nx' + 1) G4 (nx' + 1 + 1) (G4.put (nx' + 1) (.cells (enc4 w) 4 none false (some 44))) := Ext.newPut
      have hok5 := ok_new (o := .cells (enc4 w) 4 none false (some 44)) kG4
      have hone : RowsAt enc4 4 (G4.put (nx' + 1) (.cells (enc4 w) 4 none false (some 44))) (.slice (some ⟨nx' + 1, 0, none⟩) 1 1) [w] := by
       refine .inr ⟨⟨nx' + 1, 0, none⟩, 1, rfl, fun j hj => ?_⟩
       have : j = 0 := by simpa using hj
       subst this
       exact getc_own (by show 0 + 4 ≤ 4; decide)
      generalize G4.put (nx' + 1) (.cells (enc4 w) 4 none false (some 44)) = G5 at *
      refine OpsL.appendO (bytes := 32) (z := rep 4 [.int .i64 0]) e4_len e4_one (by omega) (by subst_vars; decide) (OwnOf.ext hx5 (fun b t h => by have := (hob b t h).2; omega) own4) hone (by simp only [ASt.ev, tmPut, ↓reduceIte, Nat.reduceEqDiff, *]; done) (by simp only [ASt.ev, tmPut, ↓reduceIte, Nat.reduceEqDiff, *]; done) (fun b t h => by have := (hob b t h).2; omega) (by exact rfl) (by exact rfl) (by exact rfl) (by exact rfl) (by exact rfl) rfl (by simp; omega) (by omega) ?_
      intro v8 nx8 H8 ob8 hA8
      have hle8 := hA8.le
      have gb8 := (hA8.same nb (by omega) (fun b t h => by have := (hob b t h).1; omega)).trans ((hx5.2 nb (by omega)).trans gb4)
      obtain ⟨ar, cr, hvr⟩ := (hA8.own.at e4_len).slice
      subst hvr
      repeat (refine OpsL.q (by exact ofa) ?_)
      refine OpsL.storeAt 4 (cs' := (autV TB (.slice a4 (keptF L0 a.init).length c4) (.slice a5 (keptF L0 a.final).length c5) (.slice ar (zs ++ [w]).length cr) (.slice none 0 0) (.slice none 0 0))) (by simp only [ASt.ev, tmPut, ↓reduceIte, Nat.reduceEqDiff, *]; rfl) (by simp only [ASt.ev, tmPut, ↓reduceIte, Nat.reduceEqDiff, *]; rfl) (by exact rfl) rfl rfl gb8 rfl (by simp [autV]) rfl ?_
      have hb8 : ∀ b t, ob8 = some (b, t) → nx7 ≤ b ∧ b < nx8 := fun b t h => by
       obtain ⟨q1, q2⟩ := hA8.blk b t h
       refine ⟨?_, q1⟩
       rcases q2 with rfl | ⟨t', h'⟩
       ·omega
       ·exact (hob _ _ h').1
      repeat (first | (refine OpsL.q (by first | exact omv | exact oadd) ?_) | refine Trip.ops ?_ | (refine OpsL.nil ?_; ((repeat (refine blockExit_normal ?_)); first | (change Trip _ _ _ _ _) | (dsimp only))))
      exact ⟨i + 1, ⟨_, nx8, _, ob8, _, rfl, by omega, fun j h1 h2 => by rw [Heap.put_ne (by exact h2), hA8.same j (by omega) (fun b t h => by have := (hob b t h).1; omega), hx5.2 j (by omega), xG4.2 j (by omega)]; exact hfr j h1 h2, Heap.put_eq, by rw [hst]; exact OwnRow.same (fun b t h => Heap.put_ne (by have := hb8 b t h; omega)) hA8.own, hb8, by simp [tmPut, *], by simp [tmPut, *], by simp [tmPut, *], by simp [tmPut, *], by simp [tmPut, *], by simp [tmPut, *], by simp [tmPut, *], by simp [tmPut, *], by omega⟩, by omega⟩
    ·have hin : i = a.opens.length := by omega
     subst hin
     rw [List.take_length] at hown
     repeat (first | refine Trip.seq ?_ | refine Trip.ops ?_)
     refine OpsL.lssF ?_
     repeat (first | refine Trip.seq ?_ | (refine OpsL.nil ?_; (change Trip _ _ _ _ _)))
     refine Trip.ifF ?_
     repeat (refine Trip.exit ?_; (dsimp only))
     exact ⟨rfl, _, _, _, ob, v, rfl, hle, hfr, gb, hown, hob, by simp [tmPut, *], by simp [tmPut, *], by simp [tmPut, *], by simp [tmPut, *], by simp [tmPut, *]⟩
  rintro e st ⟨rfl, tm', m8, J8, o6, v6, rfl, hl6, fr6, gb, w6, b6, q3, q4, q6, q7, q8⟩
  ((repeat (refine blockExit_eq ?_)); change Trip _ _ _ _ _)
  have x38 : Ext n3 H3 m8 J8 := ⟨by omega, fun j hj => by rw [fr6 j (by omega) (by omega)]; exact x37.2 j hj⟩
  have wi6 := OwnRow.same (H' := J8) (fun b t h => fr6 b (by have := b4 b t h; omega) (by have := b4 b t h; omega)) wi
  have wf6 := OwnRow.same (H' := J8) (fun b t h => fr6 b (by have := b5 b t h; omega) (by have := b5 b t h; omega)) wf
  obtain ⟨a6, c6, hv6⟩ := (w6.at e4_len).slice
  subst hv6
  have ha5 := ha3.ext x38 ok3
  have gx5 := (x38.2 nx (by omega)).trans gx3
  have hln5 := hn.closes
  have ca5 : cellAt J8 ⟨nx, 0 + 5, none⟩ (.slice ac a.closes.length cc) := by rw [Nat.zero_add]; exact cell_of gx5 rfl
  repeat (first | (refine OpsL.q (by first | exact omv | exact olen | exact ofa | exact old) ?_) | refine Trip.seq ?_ | refine Trip.ops ?_ | refine Trip.block ?_ | (refine OpsL.nil ?_; (change Trip _ _ _ _ _)))
  refine Trip.mono (Q := fun e st => e = .exit 2 ∧ ∃ (tm' : Nat → Value) (nx' : Nat) (H' : Heap) (ob : Option (Nat × Nat)) (v : Value), st = ⟨tm', n, H', nx'⟩ ∧ m8 ≤ nx' ∧ (∀ j, j < m8 → j ≠ nb → H' j = J8 j) ∧ H' nb = some (.cells (autV TB (.slice a4 (keptF L0 a.init).length c4) (.slice a5 (keptF L0 a.final).length c5) (.slice a6 (a.opens.filterMap (trimO L0 L1)).length c6) v (.slice none 0 0)) 0 none false (some 30)) ∧ OwnC H' ob v (a.closes.filterMap (trimC L0 L1)) ∧ (∀ b t, ob = some (b, t) → m8 ≤ b ∧ b < nx') ∧ tm' 3 = .pointer (some ⟨nx, 0, none⟩) ∧ tm' 4 = .pointer (some ⟨nx + 1, 0, none⟩) ∧ tm' 6 = .map (some m0) ∧ tm' 7 = .map (some m1) ∧ tm' 8 = .pointer (some ⟨nb, 0, none⟩)) ?_ ?_
  ·refine Trip.inv (fun (i : Nat) st => ∃ (tm' : Nat → Value) (nx' : Nat) (H' : Heap) (ob : Option (Nat × Nat)) (v : Value), st = ⟨tm', n, H', nx'⟩ ∧ m8 ≤ nx' ∧ (∀ j, j < m8 → j ≠ nb → H' j = J8 j) ∧ H' nb = some (.cells (autV TB (.slice a4 (keptF L0 a.init).length c4) (.slice a5 (keptF L0 a.final).length c5) (.slice a6 (a.opens.filterMap (trimO L0 L1)).length c6) v (.slice none 0 0)) 0 none false (some 30)) ∧ OwnC H' ob v ((a.closes.take i).filterMap (trimC L0 L1)) ∧ (∀ b t, ob = some (b, t) → m8 ≤ b ∧ b < nx') ∧ tm' 3 = .pointer (some ⟨nx, 0, none⟩) ∧ tm' 4 = .pointer (some ⟨nx + 1, 0, none⟩) ∧ tm' 6 = .map (some m0) ∧ tm' 7 = .map (some m1) ∧ tm' 8 = .pointer (some ⟨nb, 0, none⟩) ∧ tm' 77 = .slice ac a.closes.length cc ∧ tm' 78 = .int .i64 a.closes.length ∧ tm' 79 = .int .i64 i ∧ i ≤ a.closes.length) (fun i => a.closes.length - i) 0 ?_ ?_
   ·exact ⟨_, _, _, none, .slice none 0 0, rfl, Nat.le_refl _, fun _ _ _ => rfl, gb, ⟨rfl, by simp, by simp⟩, fun _ _ h => (by cases h), by simp [tmPut, *], by simp [tmPut, *], by simp [tmPut, *], by simp [tmPut, *], by simp [tmPut, *], by simp [tmPut, *], by simp [tmPut, *], by simp [tmPut, *], Nat.zero_le _⟩
   ·clear q3 q4 q6 q7 q8 gb ca5
    rintro i st ⟨tm, nx', H', ob, v, rfl, hle, hfr, gb, hown, hob, q3, q4, q6, q7, q8, dsl, dln, dix, hi⟩
    refine Trip.ok fun hok' => ?_
    replace hok' : ∀ id o, H' id = some o → id < nx' := hok'
    have eI : Ext n3 H3 nx' H' := ⟨by omega, fun j hj => by rw [hfr j (by omega) (by omega)]; exact x38.2 j hj⟩
    by_cases hlt : i < a.closes.length
    ·obtain ⟨p, hp0, g⟩ := rows_at (ha3.ext eI ok3).closes hlt
     subst hp0
     have hst := filterMap_snoc (trimC L0 L1) hlt
     have hzl : ((a.closes.take i).filterMap (trimC L0 L1)).length ≤ 1000 := by
      have h1 : ((a.closes.take i).filterMap (trimC L0 L1)).length ≤ (a.closes.take i).length := List.length_filterMap_le _ _
      rw [List.length_take] at h1
      have := hn.closes
      omega
     generalize (a.closes.take i).filterMap (trimC L0 L1) = zs at *
     generalize a.closes[i] = r at *
     repeat (first | refine Trip.seq ?_ | refine Trip.ops ?_)
     refine OpsL.lssT ?_
     repeat (first | refine Trip.seq ?_ | (refine OpsL.nil ?_; (change Trip _ _ _ _ _)))
     refine Trip.ifT ?_
     repeat (first | refine OpsL.q (by exact oixa) ?_ | refine Trip.seq ?_ | refine Trip.ops ?_ | refine Trip.block ?_ | (refine Trip.skip ?_; (change Trip _ _ _ _ _)))
     refine OpsL.q (aop_loadAgg (k := 4) (vs := enc4 r) (by simp only [ASt.ev, tmPut, ↓reduceIte, Nat.reduceEqDiff, *]; rfl) (by exact rfl) rfl (by exact rfl) g) ?_
     refine OpsL.new (by subst_vars; decide) (aop_alloc (l := (rep 4 [.int .i64 0])) (by kernel_rfl)) ?_
     refine OpsL.upd (aop_store (k := 4) (u := .agg (enc4 r).toArray) (by simp only [ASt.ev, tmPut, ↓reduceIte, Nat.reduceEqDiff, *]; done) (by simp only [ASt.ev, tmPut, ↓reduceIte, Nat.reduceEqDiff, *]; done) (by exact rfl) rfl (o := .cells (enc4 r) 0 none false (some 46)) (setc_allN (vs := (enc4 r)) Heap.put_eq rfl rfl)) ?_
     obtain ⟨G4, hG4⟩ : ∃ G0, G0 = (H'.put nx' (.cells (rep 4 [.int .i64 0]) 0 none false (some 46))).put nx' (.cells (enc4 r) 0 none false (some 46)) := ⟨_, rfl⟩
     have xG4 : Ext nx' H' (nx' + 1) G4 := ⟨Nat.le_succ _, fun j hj => by rw [hG4, Heap.put_ne (by omega), Heap.put_ne (by omega)]⟩
     have kG4 : ∀ id o, G4 id = some o → id < nx' + 1 := by rw [hG4]; exact ok_put3 (ok_new hok') Heap.put_eq
     have bG4 : G4 nx' = some (.cells (enc4 r) 0 none false (some 46)) := by rw [hG4, Heap.put_eq]
     first | rw [← hG4] | skip
     clear hG4
     have eG : Ext n3 H3 (nx' + 1) G4 := eI.trans xG4
     have M0 := NA0.ext eG ok3
     have M1 := NA1.ext eG ok3
     have gb4 := (xG4.2 nb (by omega)).trans gb
     have cB : cellAt G4 ⟨nb, 0 + 5, none⟩ v := by rw [Nat.zero_add]; exact cell_of gb4 rfl
     have own4 := OwnOf.ext xG4 (fun b t h => (hob b t h).2) hown
     have c0 : cellAt G4 ⟨nx', 0, none⟩ (.int .i64 r.1) := by exact cell_of bG4 rfl
     have c1 : cellAt G4 ⟨nx', 0 + 1, none⟩ (.int .i64 r.2.1) := by rw [Nat.zero_add]; exact cell_of bG4 rfl
     have c2 : cellAt G4 ⟨nx', 0 + 2, none⟩ (.int .i64 r.2.2.1) := by rw [Nat.zero_add]; exact cell_of bG4 rfl
     have c3 : cellAt G4 ⟨nx', 0 + 3, none⟩ (.int .i64 r.2.2.2) := by rw [Nat.zero_add]; exact cell_of bG4 rfl
     repeat (first | (refine OpsL.q (by first | exact omv | exact ofa | exact old) ?_) | refine Trip.seq ?_ | refine Trip.ops ?_ | (refine OpsL.nil ?_; (change Trip _ _ _ _ _)))
     refine OpsL.q (aop_lookup3 (by simp only [ASt.ev, tmPut, ↓reduceIte, Nat.reduceEqDiff, *]; done) (by simp only [ASt.ev, tmPut, ↓reduceIte, Nat.reduceEqDiff, *]; done) (M0.told r.1)) ?_
     repeat (refine OpsL.q (by exact omv) ?_)
     refine OpsL.p (v := .int .i64 ((numO L0 r.1).getD 0)) (by subst_vars; decide) (aop_extract (by simp only [ASt.ev, tmPut, ↓reduceIte, Nat.reduceEqDiff, *]; rfl) (by exact rfl)) ?_
     refine OpsL.q (v := .bool (numO L0 r.1).isSome) (aop_extract (by simp only [ASt.ev, tmPut, ↓reduceIte, Nat.reduceEqDiff, *]; rfl) (by exact rfl)) ?_
     repeat (first | (refine OpsL.q (by first | exact omv | exact oasg | exact ofa | exact old) ?_) | refine Trip.seq ?_ | refine Trip.ops ?_ | (refine OpsL.nil ?_; (change Trip _ _ _ _ _)))
     refine OpsL.q (aop_lookup3 (by simp only [ASt.ev, tmPut, ↓reduceIte, Nat.reduceEqDiff, *]; done) (by simp only [ASt.ev, tmPut, ↓reduceIte, Nat.reduceEqDiff, *]; done) (M1.told r.2.2.1)) ?_
     repeat (refine OpsL.q (by exact omv) ?_)
     refine OpsL.p (v := .int .i64 ((numO L1 r.2.2.1).getD 0)) (by subst_vars; decide) (aop_extract (by simp only [ASt.ev, tmPut, ↓reduceIte, Nat.reduceEqDiff, *]; rfl) (by exact rfl)) ?_
     refine OpsL.q (v := .bool (numO L1 r.2.2.1).isSome) (aop_extract (by simp only [ASt.ev, tmPut, ↓reduceIte, Nat.reduceEqDiff, *]; rfl) (by exact rfl)) ?_
     cases hy : numO L0 r.1 with
     | none =>
      rw [show (trimC L0 L1) r = none by simp only [trimC, hy]; rfl, Option.toList_none, List.append_nil] at hst
      simp only [Option.getD_none, Option.isSome_none]
      repeat (first | (refine OpsL.q (by first | exact omv | exact oasg | exact opkF) ?_) | refine Trip.seq ?_ | refine Trip.ops ?_ | (refine OpsL.nil ?_; (change Trip _ _ _ _ _)) | refine OpsL.skp ?_)
      refine Trip.ifF ?_
      repeat (first | (refine OpsL.q (by first | exact omv | exact oadd) ?_) | refine Trip.ops ?_ | (refine Trip.skip ?_; ((repeat (refine blockExit_normal ?_)); change Trip _ _ _ _ _)) | (refine OpsL.nil ?_; (dsimp only)))
      exact ⟨i + 1, ⟨_, _, _, ob, v, rfl, by omega, fun j h1 h2 => by rw [xG4.2 j (by omega)]; exact hfr j h1 h2, gb4, by rw [hst]; exact own4, fun b t h => by have := hob b t h; omega, by simp [tmPut, *], by simp [tmPut, *], by simp [tmPut, *], by simp [tmPut, *], by simp [tmPut, *], by simp [tmPut, *], by simp [tmPut, *], by simp [tmPut, *], by omega⟩, by omega⟩
     | some z =>
      cases hz : numO L1 r.2.2.1 with
      | none =>
       rw [show (trimC L0 L1) r = none by simp only [trimC, hy, hz]; rfl, Option.toList_none, List.append_nil] at hst
       simp only [Option.getD_none, Option.isSome_none, Option.getD_some, Option.isSome_some]
       repeat (first | (refine OpsL.q (by first | exact omv | exact oasg | exact opkT) ?_) | refine Trip.seq ?_ | refine Trip.ops ?_ | (refine OpsL.nil ?_; (change Trip _ _ _ _ _)) | refine OpsL.ung ?_)
       refine Trip.ifF ?_
       repeat (first | (refine OpsL.q (by first | exact omv | exact oadd) ?_) | refine Trip.ops ?_ | (refine Trip.skip ?_; ((repeat (refine blockExit_normal ?_)); change Trip _ _ _ _ _)) | (refine OpsL.nil ?_; (dsimp only)))
       exact ⟨i + 1, ⟨_, _, _, ob, v, rfl, by omega, fun j h1 h2 => by rw [xG4.2 j (by omega)]; exact hfr j h1 h2, gb4, by rw [hst]; exact own4, fun b t h => by have := hob b t h; omega, by simp [tmPut, *], by simp [tmPut, *], by simp [tmPut, *], by simp [tmPut, *], by simp [tmPut, *], by simp [tmPut, *], by simp [tmPut, *], by simp [tmPut, *], by omega⟩, by omega⟩
      | some t =>
       rw [show (trimC L0 L1) r = some (z, r.2.1, t, (numO L0 r.2.2.2).getD 0) by simp only [trimC, hy, hz]; rfl, Option.toList_some] at hst
       simp only [Option.getD_some, Option.isSome_some]
       repeat (first | (refine OpsL.q (by first | exact omv | exact oasg | exact opkT) ?_) | refine Trip.seq ?_ | refine Trip.ops ?_ | (refine OpsL.nil ?_; (change Trip _ _ _ _ _)) | refine OpsL.ung ?_)
       refine Trip.ifT ?_
       repeat (first | (refine OpsL.q (by first | exact omv | exact ofa | exact old) ?_) | refine Trip.ops ?_)
       refine OpsL.q (aop_lookup3 (by simp only [ASt.ev, tmPut, ↓reduceIte, Nat.reduceEqDiff, *]; done) (by simp only [ASt.ev, tmPut, ↓reduceIte, Nat.reduceEqDiff, *]; done) (M0.told1 r.2.2.2)) ?_
       repeat fail
       obtain ⟨w, hw⟩ : ∃ w, w = (z, r.2.1, t, (numO L0 r.2.2.2).getD 0) := ⟨_, rfl⟩
       refine OpsL.q (aop_build (v := .agg (enc4 w).toArray) (l := [(0, .int .i64 z), (1, .int .i64 r.2.1), (2, .int .i64 t), (3, .int .i64 ((numO L0 r.2.2.2).getD 0))]) (by simp only [evParts, ASt.ev, tmPut, ↓reduceIte, reduceIte, Option.some.injEq, Nat.reduceEqDiff, plainC, plain1, *]) (by rw [hw]; kernel_rfl)) ?_
       rw [← hw] at hst
       clear hw
       refine OpsL.new (by subst_vars; decide) (aop_buildSlice (l := [(0, .agg (enc4 w).toArray)]) (r := (.slice (some ⟨nx' + 1, 0, none⟩) 1 1, .new (.cells (enc4 w) 4 none false (some 46)))) (by simp only [evParts, ASt.ev, tmPut, ↓reduceIte, reduceIte, Option.some.injEq, Nat.reduceEqDiff, plainC, plain1, *]) (by kernel_rfl)) ?_
       have hx5 : Ext (nx' + 1) G4 (nx' + 1 + 1) (G4.put (nx' + 1) (.cells (enc4 w) 4 none false (some 46))) := Ext.newPut
       have hok5 := ok_new (o := .cells (enc4 w) 4 none false (some 46)) kG4
       have hone : RowsAt enc4 4 (G4.put (nx' + 1) (.cells (enc4 w) 4 none false (some 46))) (.slice (some ⟨nx' + 1, 0, none⟩) 1 1) [w] := by
        refine .inr ⟨⟨nx' + 1, 0, none⟩, 1, rfl, fun j hj => ?_⟩
        have : j = 0 := by simpa using hj
        subst this
        exact getc_own (by show 0 + 4 ≤ 4; decide)
       generalize G4.put (nx' + 1) (.cells (enc4 w) 4 none false (some 46)) = G5 at *
       refine OpsL.appendO (bytes := 32) (z := rep 4 [.int .i64 0]) e4_len e4_one (by omega) (by subst_vars; decide) (OwnOf.ext hx5 (fun b t h => by have := (hob b t h).2; omega) own4) hone (by simp only [ASt.ev, tmPut, ↓reduceIte, Nat.reduceEqDiff, *]; done) (by simp only [ASt.ev, tmPut, ↓reduceIte, Nat.reduceEqDiff, *]; done) (fun b t h => by have := (hob b t h).2; omega) (by exact rfl) (by exact rfl) (by exact rfl) (by exact rfl) (by exact rfl) rfl (by simp; omega) (by omega) ?_
       intro v8 nx8 H8 ob8 hA8
       have hle8 := hA8.le
       have gb8 := (hA8.same nb (by omega) (fun b t h => by have := (hob b t h).1; omega)).trans ((hx5.2 nb (by omega)).trans gb4)
       obtain ⟨ar, cr, hvr⟩ := (hA8.own.at e4_len).slice
       subst hvr
       repeat (refine OpsL.q (by exact ofa) ?_)
       refine OpsL.storeAt 5 (cs' := (autV TB (.slice a4 (keptF L0 a.init).length c4) (.slice a5 (keptF L0 a.final).length c5) (.slice a6 (a.opens.filterMap (trimO L0 L1)).length c6) (.slice ar (zs ++ [w]).length cr) (.slice none 0 0))) (by simp only [ASt.ev, tmPut, ↓reduceIte, Nat.reduceEqDiff, *]; rfl) (by simp only [ASt.ev, tmPut, ↓reduceIte, Nat.reduceEqDiff, *]; rfl) (by exact rfl) rfl rfl gb8 rfl (by simp [autV]) rfl ?_
       have hb8 : ∀ b t, ob8 = some (b, t) → m8 ≤ b ∧ b < nx8 := fun b t h => by
        obtain ⟨q1, q2⟩ := hA8.blk b t h
        refine ⟨?_, q1⟩
        rcases q2 with rfl | ⟨t', h'⟩
        ·omega
        ·exact (hob _ _ h').1
       repeat (first | (refine OpsL.q (by first | exact omv | exact oadd) ?_) | refine Trip.ops ?_ | (refine OpsL.nil ?_; ((repeat (refine blockExit_normal ?_)); first | (change Trip _ _ _ _ _) | (dsimp only))))
       exact ⟨i + 1, ⟨_, nx8, _, ob8, _, rfl, by omega, fun j h1 h2 => by rw [Heap.put_ne (by exact h2), hA8.same j (by omega) (fun b t h => by have := (hob b t h).1; omega), hx5.2 j (by omega), xG4.2 j (by omega)]; exact hfr j h1 h2, Heap.put_eq, by rw [hst]; exact OwnRow.same (fun b t h => Heap.put_ne (by have := hb8 b t h; omega)) hA8.own, hb8, by simp [tmPut, *], by simp [tmPut, *], by simp [tmPut, *], by simp [tmPut, *], by simp [tmPut, *], by simp [tmPut, *], by simp [tmPut, *], by simp [tmPut, *], by omega⟩, by omega⟩
    ·have hin : i = a.closes.length := by omega
     subst hin
     rw [List.take_length] at hown
     repeat (first | refine Trip.seq ?_ | refine Trip.ops ?_)
     refine OpsL.lssF ?_
     repeat (first | refine Trip.seq ?_ | (refine OpsL.nil ?_; (change Trip _ _ _ _ _)))
     refine Trip.ifF ?_
     repeat (refine Trip.exit ?_; (dsimp only))
     exact ⟨rfl, _, _, _, ob, v, rfl, hle, hfr, gb, hown, hob, by simp [tmPut, *], by simp [tmPut, *], by simp [tmPut, *], by simp [tmPut, *], by simp [tmPut, *]⟩
  rintro e st ⟨rfl, tm', m9, J9, o8, v8, rfl, hl8, fr8, gb, w8, b8, q3, q4, q6, q7, q8⟩
  ((repeat (refine blockExit_eq ?_)); change Trip _ _ _ _ _)
  have x39 : Ext n3 H3 m9 J9 := ⟨by omega, fun j hj => by rw [fr8 j (by omega) (by omega)]; exact x38.2 j hj⟩
  have wi8 := OwnRow.same (H' := J9) (fun b t h => fr8 b (by have := b4 b t h; omega) (by have := b4 b t h; omega)) wi6
  have wf8 := OwnRow.same (H' := J9) (fun b t h => fr8 b (by have := b5 b t h; omega) (by have := b5 b t h; omega)) wf6
  have w68 := OwnRow.same (H' := J9) (fun b t h => fr8 b (by have := b6 b t h; omega) (by have := b6 b t h; omega)) w6
  obtain ⟨a8, c8, hv8⟩ := (w8.at e4_len).slice
  subst hv8
  have ha6 := ha3.ext x39 ok3
  have gx6 := (x39.2 nx (by omega)).trans gx3
  have hln6 := hn.inners
  have ca6 : cellAt J9 ⟨nx, 0 + 6, none⟩ (.slice an a.inners.length cn) := by rw [Nat.zero_add]; exact cell_of gx6 rfl
  repeat (first | (refine OpsL.q (by first | exact omv | exact olen | exact ofa | exact old) ?_) | refine Trip.seq ?_ | refine Trip.ops ?_ | refine Trip.block ?_ | (refine OpsL.nil ?_; (change Trip _ _ _ _ _)))
  refine Trip.mono (Q := fun e st => e = .exit 4 ∧ ∃ (tm' : Nat → Value) (nx' : Nat) (H' : Heap) (ob : Option (Nat × Nat)) (v : Value), st = ⟨tm', n, H', nx'⟩ ∧ m9 ≤ nx' ∧ (∀ j, j < m9 → j ≠ nb → H' j = J9 j) ∧ H' nb = some (.cells (autV TB (.slice a4 (keptF L0 a.init).length c4) (.slice a5 (keptF L0 a.final).length c5) (.slice a6 (a.opens.filterMap (trimO L0 L1)).length c6) (.slice a8 (a.closes.filterMap (trimC L0 L1)).length c8) v) 0 none false (some 30)) ∧ OwnN H' ob v (a.inners.filterMap (trimN L0)) ∧ (∀ b t, ob = some (b, t) → m9 ≤ b ∧ b < nx') ∧ tm' 3 = .pointer (some ⟨nx, 0, none⟩) ∧ tm' 4 = .pointer (some ⟨nx + 1, 0, none⟩) ∧ tm' 6 = .map (some m0) ∧ tm' 7 = .map (some m1) ∧ tm' 8 = .pointer (some ⟨nb, 0, none⟩)) ?_ ?_
  ·refine Trip.inv (fun (i : Nat) st => ∃ (tm' : Nat → Value) (nx' : Nat) (H' : Heap) (ob : Option (Nat × Nat)) (v : Value), st = ⟨tm', n, H', nx'⟩ ∧ m9 ≤ nx' ∧ (∀ j, j < m9 → j ≠ nb → H' j = J9 j) ∧ H' nb = some (.cells (autV TB (.slice a4 (keptF L0 a.init).length c4) (.slice a5 (keptF L0 a.final).length c5) (.slice a6 (a.opens.filterMap (trimO L0 L1)).length c6) (.slice a8 (a.closes.filterMap (trimC L0 L1)).length c8) v) 0 none false (some 30)) ∧ OwnN H' ob v ((a.inners.take i).filterMap (trimN L0)) ∧ (∀ b t, ob = some (b, t) → m9 ≤ b ∧ b < nx') ∧ tm' 3 = .pointer (some ⟨nx, 0, none⟩) ∧ tm' 4 = .pointer (some ⟨nx + 1, 0, none⟩) ∧ tm' 6 = .map (some m0) ∧ tm' 7 = .map (some m1) ∧ tm' 8 = .pointer (some ⟨nb, 0, none⟩) ∧ tm' 117 = .slice an a.inners.length cn ∧ tm' 118 = .int .i64 a.inners.length ∧ tm' 119 = .int .i64 i ∧ i ≤ a.inners.length) (fun i => a.inners.length - i) 0 ?_ ?_
   ·exact ⟨_, _, _, none, .slice none 0 0, rfl, Nat.le_refl _, fun _ _ _ => rfl, gb, ⟨rfl, by simp, by simp⟩, fun _ _ h => (by cases h), by simp [tmPut, *], by simp [tmPut, *], by simp [tmPut, *], by simp [tmPut, *], by simp [tmPut, *], by simp [tmPut, *], by simp [tmPut, *], by simp [tmPut, *], Nat.zero_le _⟩
   ·clear q3 q4 q6 q7 q8 gb ca6
    rintro i st ⟨tm, nx', H', ob, v, rfl, hle, hfr, gb, hown, hob, q3, q4, q6, q7, q8, dsl, dln, dix, hi⟩
    refine Trip.ok fun hok' => ?_
    replace hok' : ∀ id o, H' id = some o → id < nx' := hok'
    have eI : Ext n3 H3 nx' H' := ⟨by omega, fun j hj => by rw [hfr j (by omega) (by omega)]; exact x39.2 j hj⟩
    by_cases hlt : i < a.inners.length
    ·obtain ⟨p, hp0, g⟩ := rows_at (ha3.ext eI ok3).inners hlt
     subst hp0
     have hst := filterMap_snoc (trimN L0) hlt
     have hzl : ((a.inners.take i).filterMap (trimN L0)).length ≤ 1000 := by
      have h1 : ((a.inners.take i).filterMap (trimN L0)).length ≤ (a.inners.take i).length := List.length_filterMap_le _ _
      rw [List.length_take] at h1
      have := hn.inners
      omega
     generalize (a.inners.take i).filterMap (trimN L0) = zs at *
     generalize a.inners[i] = r at *
     repeat (first | refine Trip.seq ?_ | refine Trip.ops ?_)
     refine OpsL.lssT ?_
     repeat (first | refine Trip.seq ?_ | (refine OpsL.nil ?_; (change Trip _ _ _ _ _)))
     refine Trip.ifT ?_
     repeat (first | refine OpsL.q (by exact oixa) ?_ | refine Trip.seq ?_ | refine Trip.ops ?_ | refine Trip.block ?_ | (refine Trip.skip ?_; (change Trip _ _ _ _ _)))
     refine OpsL.q (aop_loadAgg (k := 3) (vs := enc3 r) (by simp only [ASt.ev, tmPut, ↓reduceIte, Nat.reduceEqDiff, *]; rfl) (by exact rfl) rfl (by exact rfl) g) ?_
     refine OpsL.new (by subst_vars; decide) (aop_alloc (l := (rep 3 [.int .i64 0])) (by kernel_rfl)) ?_
     refine OpsL.upd (aop_store (k := 3) (u := .agg (enc3 r).toArray) (by simp only [ASt.ev, tmPut, ↓reduceIte, Nat.reduceEqDiff, *]; done) (by simp only [ASt.ev, tmPut, ↓reduceIte, Nat.reduceEqDiff, *]; done) (by exact rfl) rfl (o := .cells (enc3 r) 0 none false (some 48)) (setc_allN (vs := (enc3 r)) Heap.put_eq rfl rfl)) ?_
     obtain ⟨G4, hG4⟩ : ∃ G0, G0 = (H'.put nx' (.cells (rep 3 [.int .i64 0]) 0 none false (some 48))).put nx' (.cells (enc3 r) 0 none false (some 48)) := ⟨_, rfl⟩
     have xG4 : Ext nx' H' (nx' + 1) G4 := ⟨Nat.le_succ _, fun j hj => by rw [hG4, Heap.put_ne (by omega), Heap.put_ne (by omega)]⟩
     have kG4 : ∀ id o, G4 id = some o → id < nx' + 1 := by rw [hG4]; exact ok_put3 (ok_new hok') Heap.put_eq
     have bG4 : G4 nx' = some (.cells (enc3 r) 0 none false (some 48)) := by rw [hG4, Heap.put_eq]
     first | rw [← hG4] | skip
     clear hG4
     have eG : Ext n3 H3 (nx' + 1) G4 := eI.trans xG4
     have M0 := NA0.ext eG ok3
     have M1 := NA1.ext eG ok3
     have gb4 := (xG4.2 nb (by omega)).trans gb
     have cB : cellAt G4 ⟨nb, 0 + 6, none⟩ v := by rw [Nat.zero_add]; exact cell_of gb4 rfl
     have own4 := OwnOf.ext xG4 (fun b t h => (hob b t h).2) hown
     have c0 : cellAt G4 ⟨nx', 0, none⟩ (.int .i64 r.1) := by exact cell_of bG4 rfl
     have c1 : cellAt G4 ⟨nx', 0 + 1, none⟩ (.int .i64 r.2.1) := by rw [Nat.zero_add]; exact cell_of bG4 rfl
     have c2 : cellAt G4 ⟨nx', 0 + 2, none⟩ (.int .i64 r.2.2) := by rw [Nat.zero_add]; exact cell_of bG4 rfl
     repeat (first | (refine OpsL.q (by first | exact omv | exact ofa | exact old) ?_) | refine Trip.seq ?_ | refine Trip.ops ?_ | (refine OpsL.nil ?_; (change Trip _ _ _ _ _)))
     refine OpsL.q (aop_lookup3 (by simp only [ASt.ev, tmPut, ↓reduceIte, Nat.reduceEqDiff, *]; done) (by simp only [ASt.ev, tmPut, ↓reduceIte, Nat.reduceEqDiff, *]; done) (M0.told r.1)) ?_
     cases hy : numO L0 r.1 with
     | none =>
      rw [show (trimN L0) r = none by simp only [trimN, hy]; rfl, Option.toList_none, List.append_nil] at hst
      simp only [Option.getD_none, Option.isSome_none]
      repeat (refine OpsL.q (by exact omv) ?_)
      refine OpsL.q (v := .int .i64 0) (aop_extract (by simp only [ASt.ev, tmPut, ↓reduceIte, Nat.reduceEqDiff, *]; rfl) (by exact rfl)) ?_
      refine OpsL.q (v := .bool false) (aop_extract (by simp only [ASt.ev, tmPut, ↓reduceIte, Nat.reduceEqDiff, *]; rfl) (by exact rfl)) ?_
      repeat (first | (refine OpsL.q (by first | exact omv | exact oasg) ?_) | refine Trip.seq ?_ | refine Trip.ops ?_ | (refine OpsL.nil ?_; (change Trip _ _ _ _ _)))
      refine Trip.ifF ?_
      repeat (first | (refine OpsL.q (by first | exact omv | exact oadd) ?_) | refine Trip.ops ?_ | (refine Trip.skip ?_; ((repeat (refine blockExit_normal ?_)); change Trip _ _ _ _ _)) | (refine OpsL.nil ?_; (dsimp only)))
      exact ⟨i + 1, ⟨_, _, _, ob, v, rfl, by omega, fun j h1 h2 => by rw [xG4.2 j (by omega)]; exact hfr j h1 h2, gb4, by rw [hst]; exact own4, fun b t h => by have := hob b t h; omega, by simp [tmPut, *], by simp [tmPut, *], by simp [tmPut, *], by simp [tmPut, *], by simp [tmPut, *], by simp [tmPut, *], by simp [tmPut, *], by simp [tmPut, *], by omega⟩, by omega⟩
     | some z =>
      rw [show (trimN L0) r = some (z, r.2.1, (numO L0 r.2.2).getD 0) by simp only [trimN, hy]; rfl, Option.toList_some] at hst
      simp only [Option.getD_some, Option.isSome_some]
      repeat (refine OpsL.q (by exact omv) ?_)
      refine OpsL.q (v := .int .i64 z) (aop_extract (by simp only [ASt.ev, tmPut, ↓reduceIte, Nat.reduceEqDiff, *]; rfl) (by exact rfl)) ?_
      refine OpsL.q (v := .bool true) (aop_extract (by simp only [ASt.ev, tmPut, ↓reduceIte, Nat.reduceEqDiff, *]; rfl) (by exact rfl)) ?_
      repeat (first | (refine OpsL.q (by first | exact omv | exact oasg) ?_) | refine Trip.seq ?_ | refine Trip.ops ?_ | (refine OpsL.nil ?_; (change Trip _ _ _ _ _)))
      refine Trip.ifT ?_
      repeat (first | (refine OpsL.q (by first | exact omv | exact ofa | exact old) ?_) | refine Trip.ops ?_)
      refine OpsL.q (aop_lookup3 (by simp only [ASt.ev, tmPut, ↓reduceIte, Nat.reduceEqDiff, *]; done) (by simp only [ASt.ev, tmPut, ↓reduceIte, Nat.reduceEqDiff, *]; done) (M0.told1 r.2.2)) ?_
      repeat fail
      obtain ⟨w, hw⟩ : ∃ w, w = (z, r.2.1, (numO L0 r.2.2).getD 0) := ⟨_, rfl⟩
      refine OpsL.q (aop_build (v := .agg (enc3 w).toArray) (l := [(0, .int .i64 z), (1, .int .i64 r.2.1), (2, .int .i64 ((numO L0 r.2.2).getD 0))]) (by simp only [evParts, ASt.ev, tmPut, ↓reduceIte, reduceIte, Option.some.injEq, Nat.reduceEqDiff, plainC, plain1, *]) (by rw [hw]; kernel_rfl)) ?_
      rw [← hw] at hst
      clear hw
      refine OpsL.new (by subst_vars; decide) (aop_buildSlice (l := [(0, .agg (enc3 w).toArray)]) (r := (.slice (some ⟨nx' + 1, 0, none⟩) 1 1, .new (.cells (enc3 w) 3 none false (some 48)))) (by simp only [evParts, ASt.ev, tmPut, ↓reduceIte, reduceIte, Option.some.injEq, Nat.reduceEqDiff, plainC, plain1, *]) (by kernel_rfl)) ?_
      have hx5 : Ext (nx' + 1) G4 (nx' + 1 + 1) (G4.put (nx' + 1) (.cells (enc3 w) 3 none false (some 48))) := Ext.newPut
      have hok5 := ok_new (o := .cells (enc3 w) 3 none false (some 48)) kG4
      have hone : RowsAt enc3 3 (G4.put (nx' + 1) (.cells (enc3 w) 3 none false (some 48))) (.slice (some ⟨nx' + 1, 0, none⟩) 1 1) [w] := by
       refine .inr ⟨⟨nx' + 1, 0, none⟩, 1, rfl, fun j hj => ?_⟩
       have : j = 0 := by simpa using hj
       subst this
       exact getc_own (by show 0 + 3 ≤ 3; decide)
      generalize G4.put (nx' + 1) (.cells (enc3 w) 3 none false (some 48)) = G5 at *
      refine OpsL.appendO (bytes := 24) (z := rep 3 [.int .i64 0]) e3_len e3_one (by omega) (by subst_vars; decide) (OwnOf.ext hx5 (fun b t h => by have := (hob b t h).2; omega) own4) hone (by simp only [ASt.ev, tmPut, ↓reduceIte, Nat.reduceEqDiff, *]; done) (by simp only [ASt.ev, tmPut, ↓reduceIte, Nat.reduceEqDiff, *]; done) (fun b t h => by have := (hob b t h).2; omega) (by exact rfl) (by exact rfl) (by exact rfl) (by exact rfl) (by exact rfl) rfl (by simp; omega) (by omega) ?_
      intro v8 nx8 H8 ob8 hA8
      have hle8 := hA8.le
      have gb8 := (hA8.same nb (by omega) (fun b t h => by have := (hob b t h).1; omega)).trans ((hx5.2 nb (by omega)).trans gb4)
      obtain ⟨ar, cr, hvr⟩ := (hA8.own.at e3_len).slice
      subst hvr
      repeat (refine OpsL.q (by exact ofa) ?_)
      refine OpsL.storeAt 6 (cs' := (autV TB (.slice a4 (keptF L0 a.init).length c4) (.slice a5 (keptF L0 a.final).length c5) (.slice a6 (a.opens.filterMap (trimO L0 L1)).length c6) (.slice a8 (a.closes.filterMap (trimC L0 L1)).length c8) (.slice ar (zs ++ [w]).length cr))) (by simp only [ASt.ev, tmPut, ↓reduceIte, Nat.reduceEqDiff, *]; rfl) (by simp only [ASt.ev, tmPut, ↓reduceIte, Nat.reduceEqDiff, *]; rfl) (by exact rfl) rfl rfl gb8 rfl (by simp [autV]) rfl ?_
      have hb8 : ∀ b t, ob8 = some (b, t) → m9 ≤ b ∧ b < nx8 := fun b t h => by
       obtain ⟨q1, q2⟩ := hA8.blk b t h
       refine ⟨?_, q1⟩
       rcases q2 with rfl | ⟨t', h'⟩
       ·omega
       ·exact (hob _ _ h').1
      repeat (first | (refine OpsL.q (by first | exact omv | exact oadd) ?_) | refine Trip.ops ?_ | (refine OpsL.nil ?_; ((repeat (refine blockExit_normal ?_)); first | (change Trip _ _ _ _ _) | (dsimp only))))
      exact ⟨i + 1, ⟨_, nx8, _, ob8, _, rfl, by omega, fun j h1 h2 => by rw [Heap.put_ne (by exact h2), hA8.same j (by omega) (fun b t h => by have := (hob b t h).1; omega), hx5.2 j (by omega), xG4.2 j (by omega)]; exact hfr j h1 h2, Heap.put_eq, by rw [hst]; exact OwnRow.same (fun b t h => Heap.put_ne (by have := hb8 b t h; omega)) hA8.own, hb8, by simp [tmPut, *], by simp [tmPut, *], by simp [tmPut, *], by simp [tmPut, *], by simp [tmPut, *], by simp [tmPut, *], by simp [tmPut, *], by simp [tmPut, *], by omega⟩, by omega⟩
    ·have hin : i = a.inners.length := by omega
     subst hin
     rw [List.take_length] at hown
     repeat (first | refine Trip.seq ?_ | refine Trip.ops ?_)
     refine OpsL.lssF ?_
     repeat (first | refine Trip.seq ?_ | (refine OpsL.nil ?_; (change Trip _ _ _ _ _)))
     refine Trip.ifF ?_
     repeat (refine Trip.exit ?_; (dsimp only))
     exact ⟨rfl, _, _, _, ob, v, rfl, hle, hfr, gb, hown, hob, by simp [tmPut, *], by simp [tmPut, *], by simp [tmPut, *], by simp [tmPut, *], by simp [tmPut, *]⟩
  rintro e st ⟨rfl, tm', mA, JA, o9, v9, rfl, hl9, fr9, gb, w9, b9, q3, q4, q6, q7, q8⟩
  ((repeat (refine blockExit_eq ?_)); change Trip _ _ _ _ _)
  have x3A : Ext n3 H3 mA JA := ⟨by omega, fun j hj => by rw [fr9 j (by omega) (by omega)]; exact x39.2 j hj⟩
  have wi9 := OwnRow.same (H' := JA) (fun b t h => fr9 b (by have := b4 b t h; omega) (by have := b4 b t h; omega)) wi8
  have wf9 := OwnRow.same (H' := JA) (fun b t h => fr9 b (by have := b5 b t h; omega) (by have := b5 b t h; omega)) wf8
  have w69 := OwnRow.same (H' := JA) (fun b t h => fr9 b (by have := b6 b t h; omega) (by have := b6 b t h; omega)) w68
  have w89 := OwnRow.same (H' := JA) (fun b t h => fr9 b (by have := b8 b t h; omega) (by have := b8 b t h; omega)) w8
  obtain ⟨a9, c9, hv9⟩ := (w9.at e3_len).slice
  subst hv9
  have hIn : AutIn JA TB (.slice a4 (keptF L0 a.init).length c4) (.slice a5 (keptF L0 a.final).length c5) (.slice a6 (a.opens.filterMap (trimO L0 L1)).length c6) (.slice a8 (a.closes.filterMap (trimC L0 L1)).length c8) (.slice a9 (a.inners.filterMap (trimN L0)).length c9) := by
   subst hTB
   exact ⟨OwnInts.at (el := 3) wi9, OwnInts.at (el := 3) wf9, OwnOf.at e4_len w69, OwnOf.at e4_len w89, OwnOf.at e3_len w9⟩
  have hLen : AutLen TB := by
   subst hTB
   exact ⟨Nat.le_trans (List.length_filterMap_le _ _) hn.init, Nat.le_trans (List.length_filterMap_le _ _) hn.final, Nat.le_trans (List.length_filterMap_le _ _) hn.opens, Nat.le_trans (List.length_filterMap_le _ _) hn.closes, Nat.le_trans (List.length_filterMap_le _ _) hn.inners⟩
  have gyA := (x3A.2 (nx + 1) (by omega)).trans gy3
  have hxA : Ext nx H mA JA := hxH.trans x3A
  have hleA := x3A.1
  clear wi wf w6 w8 w9 wi6 wf6 wi8 wf8 w68 wi9 wf9 w69 w89 x37 x38 x39 x3A ha3 NA0 NA1 gx3 gy3 ok3 hxH fr6 fr8 fr9 fr7 h30 h31
  repeat (first | refine Trip.seq ?_ | refine Trip.ops ?_)
  refine OpsL.q (aop_loadAgg (k := 7) (vs := autV TB (.slice a4 (keptF L0 a.init).length c4) (.slice a5 (keptF L0 a.final).length c5) (.slice a6 (a.opens.filterMap (trimO L0 L1)).length c6) (.slice a8 (a.closes.filterMap (trimC L0 L1)).length c8) (.slice a9 (a.inners.filterMap (trimN L0)).length c9)) (by simp only [ASt.ev, tmPut, ↓reduceIte, Nat.reduceEqDiff, *]; done) (by exact rfl) rfl (by exact rfl) (getc_all gb rfl)) ?_
  refine OpsL.c1 (hf := entersNorm) (hc := (normC W0 hIn hLen).ok) (h := ?_)
  rintro vN nN HN ⟨⟨l, vi', vf', vo', vc', vn', rfl, hOA, xN⟩, okN⟩
  have hleN := xN.1
  have gyN := (xN.2 (nx + 1) (by omega)).trans gyA
  obtain ⟨y0, z0, rfl⟩ := hOA.in.init.slice
  obtain ⟨y1, z1, rfl⟩ := hOA.in.final.slice
  obtain ⟨y2, z2, rfl⟩ := hOA.in.opens.slice
  obtain ⟨y3, z3, rfl⟩ := hOA.in.closes.slice
  obtain ⟨y4, z4, rfl⟩ := hOA.in.inners.slice
  refine OpsL.upd (aop_store (k := 7) (by simp only [ASt.ev, tmPut, ↓reduceIte, Nat.reduceEqDiff, *]; rfl) (by simp only [ASt.ev, tmPut, ↓reduceIte, Nat.reduceEqDiff, *]; rfl) (by exact rfl) rfl (o := .cells (autV (normA TB) (.slice y0 (normA TB).init.length z0) (.slice y1 (normA TB).final.length z1) (.slice y2 (normA TB).opens.length z2) (.slice y3 (normA TB).closes.length z3) (.slice y4 (normA TB).inners.length z4)) 0 none false (some 30)) (setc_allN (vs := (autV (normA TB) (.slice y0 (normA TB).init.length z0) (.slice y1 (normA TB).final.length z1) (.slice y2 (normA TB).opens.length z2) (.slice y3 (normA TB).closes.length z3) (.slice y4 (normA TB).inners.length z4))) gyN rfl rfl)) ?_
  have hrd : readAt Tryz.prog (HN.put (nx + 1) (.cells (autV (normA TB) (.slice y0 (normA TB).init.length z0) (.slice y1 (normA TB).final.length z1) (.slice y2 (normA TB).opens.length z2) (.slice y3 (normA TB).closes.length z3) (.slice y4 (normA TB).inners.length z4)) 0 none false (some 30))) 30 ⟨nx + 1, 0, none⟩ = some (.agg (autV (normA TB) (.slice y0 (normA TB).init.length z0) (.slice y1 (normA TB).final.length z1) (.slice y2 (normA TB).opens.length z2) (.slice y3 (normA TB).closes.length z3) (.slice y4 (normA TB).inners.length z4)).toArray) := readAt_agg (k := 7) (by exact rfl) (by exact rfl) (by exact rfl) (getc_all Heap.put_eq rfl)
  repeat (first | (refine Trip.ret ?_; (dsimp only)) | (refine OpsL.nil ?_; (change Trip _ _ _ _ _)))
  subst hTB
  exact ⟨.inr rfl, _, res_cell (a := ⟨nx + 1, 0, none⟩) (by simp [tmPut, *]) hrd, L0, L1, l, _, _, _, _, _, N0, N1, rfl, hOA.putLow (by omega) (by omega), ⟨by omega, fun j hj => by rw [Heap.put_ne (by omega), xN.2 j (by omega)]; exact hxA.2 j hj⟩⟩
end Go.Proofs.YtjohiaoepbnicaaGreat
