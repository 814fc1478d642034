import Derived.Test.YtjohiaoepbnicaaGreatQRM10
namespace Go.Am
set_option linter.unusedSimpArgs false
set_option linter.unusedVariables false
inductive ReachT (a : Aut) : Thg → Prop
 | bot : ReachT a (1, 0)
 | init {s : Int} : s ∈ a.init → ReachT a (0, s)
 | step {m : R4} {t : Thg} : m ∈ movesA a → (∀ u ∈ needsT m, ReachT a u) → t ∈ givesT m → ReachT a t
def univ (a : Aut) : List Thg := (1, 0) :: a.init.map (fun s => ((0, s) : Thg)) ++ (movesA a).flatMap givesT
structure FindI (a : Aut) (F todo : List Thg) : Prop where
 sound : ∀ t, t ∈ F ∨ t ∈ todo → ReachT a t
 bot : (1, 0) ∈ F ∨ (1, 0) ∈ todo
 init : ∀ s ∈ a.init, (0, s) ∈ F ∨ (0, s) ∈ todo
 closed : ∀ m ∈ movesA a, (∀ u ∈ needsT m, u ∈ F) → ∀ t ∈ givesT m, t ∈ F ∨ t ∈ todo
 nodup : F.Nodup
 uni : ∀ t ∈ todo, t ∈ univ a
structure FindJ (a : Aut) (F todo : List Thg) (rest : List R4) : Prop where
 sound : ∀ t, t ∈ F ∨ t ∈ todo → ReachT a t
 bot : (1, 0) ∈ F ∨ (1, 0) ∈ todo
 init : ∀ s ∈ a.init, (0, s) ∈ F ∨ (0, s) ∈ todo
 closed : ∀ m ∈ movesA a, (∀ u ∈ needsT m, u ∈ F) → m ∉ rest → ∀ t ∈ givesT m, t ∈ F ∨ t ∈ todo
 nodup : F.Nodup
 uni : ∀ t ∈ todo, t ∈ univ a
 sub : ∀ m ∈ rest, m ∈ movesA a
theorem FindI.start (a : Aut) : FindI a [] ((1, 0) :: a.init.map (fun s => ((0, s) : Thg))) where
 sound t h := by
  rcases h with h | h
  ·cases h
  ·rcases List.mem_cons.1 h with rfl | h
   ·exact .bot
   ·obtain ⟨s, hs, rfl⟩ := List.mem_map.1 h
    exact .init hs
 bot := .inr List.mem_cons_self
 init s hs := .inr (List.mem_cons_of_mem _ (List.mem_map.2 ⟨s, hs, rfl⟩))
 closed m _ h := absurd (h (0, m.1) List.mem_cons_self) (by simp)
 nodup := List.nodup_nil
 uni t h := List.mem_append.2 (.inl h)
theorem FindI.old {a : Aut} {F todo : List Thg} {t : Thg} (h : FindI a F (todo ++ [t])) (ht : t ∈ F) : FindI a F todo := by
 have key : ∀ x, x ∈ F ∨ x ∈ todo ++ [t] → x ∈ F ∨ x ∈ todo := fun x hx => by
  rcases hx with hx | hx
  ·exact .inl hx
  ·rcases List.mem_append.1 hx with hx | hx
   ·exact .inr hx
   ·rw [List.mem_singleton] at hx; subst hx; exact .inl ht
 exact ⟨fun x hx => h.sound x (hx.imp id fun q => List.mem_append.2 (.inl q)), key _ h.bot, fun s hs => key _ (h.init s hs), fun m hm hu x hx => key _ (h.closed m hm hu x hx), h.nodup, fun x hx => h.uni x (List.mem_append.2 (.inl hx))⟩
theorem FindI.fresh {a : Aut} {F todo : List Thg} {t : Thg} (h : FindI a F (todo ++ [t])) (ht : t ∉ F) : FindJ a (F ++ [t]) todo (waitW (movesA a) t) := by
 have key : ∀ x, x ∈ F ∨ x ∈ todo ++ [t] → x ∈ F ++ [t] ∨ x ∈ todo := fun x hx => by
  rcases hx with hx | hx
  ·exact .inl (List.mem_append.2 (.inl hx))
  ·rcases List.mem_append.1 hx with hx | hx
   ·exact .inr hx
   ·exact .inl (List.mem_append.2 (.inr hx))
 refine ⟨fun x hx => h.sound x ?_, key _ h.bot, fun s hs => key _ (h.init s hs), fun m hm hu hr x hx => ?_, ?_, fun x hx => h.uni x (List.mem_append.2 (.inl hx)), fun m hm => (List.mem_filter.1 hm).1⟩
 ·rcases hx with hx | hx
  ·rcases List.mem_append.1 hx with hx | hx
   ·exact .inl hx
   ·exact .inr (List.mem_append.2 (.inr hx))
  ·exact .inr (List.mem_append.2 (.inl hx))
 ·have htm : t ∉ needsT m := fun hh => hr (List.mem_filter.2 ⟨hm, by simpa using hh⟩)
  refine key _ (h.closed m hm (fun u hum => ?_) x hx)
  rcases List.mem_append.1 (hu u hum) with q | q
  ·exact q
  ·rw [List.mem_singleton] at q; subst q; exact absurd hum htm
 ·rw [List.nodup_append]
  refine ⟨h.nodup, by simp, fun x hx y hy => ?_⟩
  rw [List.mem_singleton] at hy
  subst hy
  exact fun e => ht (e ▸ hx)
theorem FindJ.yes {a : Aut} {F todo : List Thg} {m : R4} {rest : List R4} (h : FindJ a F todo (m :: rest)) (hu : ∀ u ∈ needsT m, u ∈ F) : FindJ a F (todo ++ givesT m) rest := by
 have hm := h.sub m List.mem_cons_self
 have key : ∀ x, x ∈ F ∨ x ∈ todo → x ∈ F ∨ x ∈ todo ++ givesT m := fun x hx => hx.imp id fun q => List.mem_append.2 (.inl q)
 refine ⟨fun x hx => ?_, key _ h.bot, fun s hs => key _ (h.init s hs), fun m' hm' hu' hr x hx => ?_, h.nodup, fun x hx => ?_, fun m' hm' => h.sub m' (List.mem_cons_of_mem _ hm')⟩
 ·rcases hx with hx | hx
  ·exact h.sound x (.inl hx)
  ·rcases List.mem_append.1 hx with hx | hx
   ·exact h.sound x (.inr hx)
   ·exact .step hm (fun u hum => h.sound u (.inl (hu u hum))) hx
 ·by_cases e : m' = m
  ·subst e; exact .inr (List.mem_append.2 (.inr hx))
  ·exact key _ (h.closed m' hm' hu' (fun q => (List.mem_cons.1 q).elim e hr) x hx)
 ·rcases List.mem_append.1 hx with hx | hx
  ·exact h.uni x hx
  ·exact List.mem_append.2 (.inr (List.mem_flatMap.2 ⟨m, hm, hx⟩))
theorem FindJ.no {a : Aut} {F todo : List Thg} {m : R4} {rest : List R4} (h : FindJ a F todo (m :: rest)) (hu : ¬ ∀ u ∈ needsT m, u ∈ F) : FindJ a F todo rest :=
 ⟨h.sound, h.bot, h.init, fun m' hm' hu' hr x hx => h.closed m' hm' hu' (fun q => (List.mem_cons.1 q).elim (fun e => hu (e ▸ hu')) hr) x hx, h.nodup, h.uni, fun m' hm' => h.sub m' (List.mem_cons_of_mem _ hm')⟩
theorem FindJ.end {a : Aut} {F todo : List Thg} (h : FindJ a F todo []) : FindI a F todo := ⟨h.sound, h.bot, h.init, fun m hm hu x hx => h.closed m hm hu (by simp) x hx, h.nodup, h.uni⟩
theorem FindI.all {a : Aut} {F : List Thg} (h : FindI a F []) (t : Thg) : t ∈ F ↔ ReachT a t := by
 have key : ∀ x, x ∈ F ∨ x ∈ ([] : List Thg) → x ∈ F := fun x hx => hx.resolve_right (by simp)
 refine ⟨fun q => h.sound t (.inl q), fun q => ?_⟩
 induction q with
 | bot => exact key _ h.bot
 | init hs => exact key _ (h.init _ hs)
 | step hm _ hx ih => exact key _ (h.closed _ hm ih _ hx)
def muF (a : Aut) (F todo : List Thg) : Nat := ((univ a).filter fun t => decide (t ∉ F)).length * (2 * (movesA a).length + 1) + todo.length
theorem filter_less {l : List Thg} {F : List Thg} {t : Thg} (ht : t ∈ l) (hF : t ∉ F) : (l.filter fun x => decide (x ∉ F ++ [t])).length + 1 ≤ (l.filter fun x => decide (x ∉ F)).length := by
 induction l with
 | nil => cases ht
 | cons y l ih =>
  have hle : ∀ l : List Thg, (l.filter fun x => decide (x ∉ F ++ [t])).length ≤ (l.filter fun x => decide (x ∉ F)).length := fun l => by
   induction l with
   | nil => simp
   | cons z l ih =>
    rw [List.filter_cons, List.filter_cons]
    by_cases h1 : z ∈ F
    ·rw [if_neg (by simp [h1]), if_neg (by simp [h1])]; exact ih
    ·by_cases h2 : z = t
     ·rw [if_neg (by simp [h2]), if_pos (by simp [h1])]; rw [List.length_cons]; omega
     ·rw [if_pos (by simp [h1, h2]), if_pos (by simp [h1])]; rw [List.length_cons, List.length_cons]; omega
  rw [List.filter_cons, List.filter_cons]
  rcases List.mem_cons.1 ht with rfl | hm
  ·rw [if_neg (by simp), if_pos (by simpa using hF), List.length_cons]
   have := hle l
   omega
  ·have := ih hm
   by_cases h1 : y ∈ F
   ·rw [if_neg (by simp [h1]), if_neg (by simp [h1])]; exact this
   ·by_cases h2 : y = t
    ·rw [if_neg (by simp [h2]), if_pos (by simp [h1]), List.length_cons]; omega
    ·rw [if_pos (by simp [h1, h2]), if_pos (by simp [h1]), List.length_cons, List.length_cons]; omega
theorem muF_old (a : Aut) (F todo : List Thg) (t : Thg) : muF a F todo + 1 = muF a F (todo ++ [t]) := by unfold muF; rw [List.length_append, List.length_singleton]; omega
theorem muF_new {a : Aut} {F todo todo' : List Thg} {t : Thg} (ht : t ∈ univ a) (hF : t ∉ F) (hl : todo'.length ≤ todo.length + 2 * (movesA a).length) : muF a (F ++ [t]) todo' + 1 ≤ muF a F (todo ++ [t]) := by
 have h1 := filter_less ht hF
 unfold muF
 have h2 : ((univ a).filter fun x => decide (x ∉ F ++ [t])).length * (2 * (movesA a).length + 1) + (2 * (movesA a).length + 1) ≤ ((univ a).filter fun x => decide (x ∉ F)).length * (2 * (movesA a).length + 1) := by
  have := Nat.mul_le_mul_right (2 * (movesA a).length + 1) h1
  rw [Nat.add_mul, Nat.one_mul] at this
  exact this
 rw [List.length_append, List.length_singleton]
 omega
end Go.Am
namespace Go.Proofs.YtjohiaoepbnicaaGreat
set_option linter.unusedSimpArgs false
set_option linter.unusedVariables false
open Go.RowKit Go.Am
theorem WaitIn.framed {H H' : Heap} {base mr nx nx' : Nat} {f : Thg → List R4} {W : List WE} (h : WaitIn H base mr nx f W) (hF : ∀ j, base ≤ j → j < nx → H' j = H j) (hle : nx ≤ nx') : WaitIn H' base mr nx' f W :=
 ⟨by rw [hF mr h.hmr.1 h.hmr.2]; exact h.cell, h.nodup, fun x hm => OwnRow.same (fun b t e => by have := h.blk x hm b t e; exact hF b this.1 this.2.1) (h.own x hm), h.val, h.out, fun x hm b t e => by have := h.blk x hm b t e; omega, h.sep, by have := h.hmr; omega⟩
set_option maxRecDepth 20000 in
theorem WaitIn.tells {H : Heap} {base mr nx : Nat} {f : Thg → List R4} {W : List WE} (h : WaitIn H base mr nx f W) (t : Thg) : ∃ r, ∀ (H' : Heap) (nx' : Nat), WaitIn H' base mr nx' f W → aLookup Tryz.prog H' 97 (.map (some mr)) (thV t) false = some r ∧ RowsAt Go.Am.e4 4 H' r (f t) := by
 by_cases hin : t ∈ W.map (·.k)
 ·obtain ⟨x, hx, hxk⟩ := List.mem_map.1 hin
  obtain ⟨j, hj, hje⟩ := List.getElem_of_mem hx
  have hk : W[j].k = t := by rw [hje]; exact hxk
  refine ⟨W[j].v, fun H' nx' h' => ?_⟩
  obtain ⟨c1, c2, c3⟩ := th_key t H'
  have hmo : mapOf H' (.map (some mr)) = some (W.map weV) := by simp only [mapOf, h'.cell]
  have hf := find_ws H' W 0 j hj h'.nodup
  rw [hk] at hf
  refine ⟨?_, ?_⟩
  ·unfold aLookup
   simp only [Tryz.underlying97, hmo, show zeroV Tryz.prog 99 = some (.slice none 0 0) from rfl, c1, show (Tryz.prog.underlying 102).isSome = true from rfl, and_self, if_true, hf]
   rfl
  ·rw [← hk, ← h'.val _ (List.getElem_mem hj)]
   exact (h'.own _ (List.getElem_mem hj)).at e4_len
 ·refine ⟨.slice none 0 0, fun H' nx' h' => ?_⟩
  obtain ⟨c1, c2, c3⟩ := th_key t H'
  have hmo : mapOf H' (.map (some mr)) = some (W.map weV) := by simp only [mapOf, h'.cell]
  refine ⟨?_, ?_⟩
  ·unfold aLookup
   simp only [Tryz.underlying97, hmo, show zeroV Tryz.prog 99 = some (.slice none 0 0) from rfl, c1, show (Tryz.prog.underlying 102).isSome = true from rfl, and_self, if_true, find_wn H' t W 0 hin]
   rfl
  ·rw [h'.out t hin]; exact .inl ⟨0, rfl, rfl⟩
end Go.Proofs.YtjohiaoepbnicaaGreat
namespace Go.Proofs.YtjohiaoepbnicaaGreat
set_option linter.unusedSimpArgs false
set_option linter.unusedVariables false
open Go.RowKit Go.Am
attribute [local irreducible] aop OpsL Trip blockExit OpsD OpsK OpsR
abbrev OwnTh (H : Heap) (ob : Option (Nat × Nat)) (v : Value) (l : List Thg) : Prop := OwnOf encT 2 102 H ob v l
theorem entersFind : Am.Enters Tryz.prog 26 := ⟨Tryz.f26, Tryz.func26, by kernel_rfl, by kernel_rfl⟩
def startT (a : Aut) : List Thg := (1, 0) :: a.init.map (fun s => ((0, s) : Thg))
theorem movesA_len {a : Aut} (hn : AutLen a) : (movesA a).length ≤ 3000 := by
 have h1 := hn.opens
 have h2 := hn.closes
 have h3 := hn.inners
 simp only [movesA, List.length_append, List.length_map]
 omega
set_option maxRecDepth 20000 in
theorem slice_two {H : Heap} {b : Nat} : aSlice Tryz.prog H 109 (.pointer (some ⟨b, 0, none⟩)) none none none = some (.slice (some ⟨b, 0, none⟩) 2 2) := by
 unfold aSlice
 simp only [Tryz.underlying109, show szOf Tryz.prog 102 = some 2 from rfl, if_true]
 rfl
theorem two_rows {H : Heap} {b : Nat} {p : List Thg} {q : Option TypeId} (hp : p.length = 2) (h : H b = some (.cells (twoV p) 0 none false q)) : RowsAt encT 2 H (.slice (some ⟨b, 0, none⟩) p.length 2) p := by
 refine .inr ⟨⟨b, 0, none⟩, 2, rfl, fun j hj => ?_⟩
 have hf := flat_at encT_len p j hj
 have hl := flat_len encT_len p
 unfold getc
 simp only [h]
 rw [if_pos ⟨trivial, by unfold twoV; rw [hl]; omega⟩]
 unfold twoV
 rw [Nat.zero_add, hf]
theorem getc_flat3 {α : Type} {enc : α → List Value} {sz : Nat} (hk : ∀ x, (enc x).length = sz) {H : Heap} {b t : Nat} {el : TypeId} {l : List α} {rest : List Value} {i : Nat} (hH : H b = some (.cells (l.flatMap enc ++ rest) sz (some t) false (some el))) (hi : i < l.length) : getc H ⟨b, 0 + i * sz, some t⟩ sz = some (enc l[i]) := by
 have hfl := flat_len hk l
 have hle : (i + 1) * sz ≤ l.length * sz := Nat.mul_le_mul_right sz hi
 rw [Nat.add_mul, Nat.one_mul] at hle
 unfold getc
 simp only [hH]
 rw [if_pos ⟨trivial, by rw [List.length_append, hfl]; omega⟩, Nat.zero_add, List.drop_append_of_le_length (by rw [hfl]; omega), List.take_append_of_le_length (by rw [List.length_drop, hfl]; omega), flat_at hk l i hi]
theorem own_pop {H : Heap} {b t : Nat} {l : List Thg} {x : Thg} {v : Value} (h : OwnTh H (some (b, t)) v (l ++ [x])) : OwnTh H (some (b, t)) (.slice (some ⟨b, 0 + 0 * 2, some t⟩) (l.length - 0) (l.length - 0)) l := by
 obtain ⟨_, _, rest, ho⟩ := h
 refine ⟨by simp, by rw [flat_len encT_len], encT x ++ rest, ?_⟩
 rw [ho, List.flatMap_append, List.append_assoc]
 simp
set_option maxRecDepth 20000 in
set_option maxHeartbeats 16000000 in
theorem findC (W0 : World) {nx : Nat} {H : Heap} {a : Aut} {vi vf vo vc vn : Value} (ha : AutIn H a vi vf vo vc vn) (hn : AutLen a) (hi0 : a.init ≠ []) (hmu : muF a [] (startT a) ≤ 100000) :
  ACalls Tryz.prog W0 26 [.agg (autV a vi vf vo vc vn).toArray] nx H fun v nx' H' => ∃ (m : Nat) (F : List Thg), v = .map (some m) ∧ H' m = some (.map (F.map fun t => (thV t, .agg #[])) (List.range F.length) F.length) ∧ F.Nodup ∧ (∀ t, t ∈ F ↔ ReachT a t) ∧ nx ≤ m ∧ m < nx' ∧ Ext nx H nx' H' := by
 obtain ⟨ai, ci, rfl⟩ := ha.init.slice
 obtain ⟨af, cf, rfl⟩ := ha.final.slice
 obtain ⟨ao, co, rfl⟩ := ha.opens.slice
 obtain ⟨ac, cc, rfl⟩ := ha.closes.slice
 obtain ⟨an, cn, rfl⟩ := ha.inners.slice
 refine ACalls.by_trip (fn := Tryz.f26) (c := _) Tryz.func26 rfl (fun tm n hn0 htm => ?_)
 have q0 : tm 0 = .agg (autV a (.slice ai a.init.length ci) (.slice af a.final.length cf) (.slice ao a.opens.length co) (.slice ac a.closes.length cc) (.slice an a.inners.length cn)).toArray := htm 0
 clear htm
 replace hn0 : n = 75 := hn0
 refine Trip.ok fun hok => ?_
 replace hok : ∀ id o, H id = some o → id < nx := hok
 refine Trip.seq ?_
 refine Trip.ops ?_
 refine OpsL.new (by subst_vars; decide) (aop_box (by simp only [ASt.ev, tmPut, ↓reduceIte, Nat.reduceEqDiff, *]; rfl)) ?_
 have hx0 : Ext nx H (nx + 1) (H.put nx (.cells (Value.agg (autV a (.slice ai a.init.length ci) (.slice af a.final.length cf) (.slice ao a.opens.length co) (.slice ac a.closes.length cc) (.slice an a.inners.length cn)).toArray).cells.toList 0 none false (some 30))) := Ext.newPut
 have gx : (H.put nx (.cells (Value.agg (autV a (.slice ai a.init.length ci) (.slice af a.final.length cf) (.slice ao a.opens.length co) (.slice ac a.closes.length cc) (.slice an a.inners.length cn)).toArray).cells.toList 0 none false (some 30))) nx = some (.cells (autV a (.slice ai a.init.length ci) (.slice af a.final.length cf) (.slice ao a.opens.length co) (.slice ac a.closes.length cc) (.slice an a.inners.length cn)) 0 none false (some 30)) := Heap.put_eq
 have ok0 := ok_new (o := .cells (Value.agg (autV a (.slice ai a.init.length ci) (.slice af a.final.length cf) (.slice ao a.opens.length co) (.slice ac a.closes.length cc) (.slice an a.inners.length cn)).toArray).cells.toList 0 none false (some 30)) hok
 generalize H.put nx (.cells (Value.agg (autV a (.slice ai a.init.length ci) (.slice af a.final.length cf) (.slice ao a.opens.length co) (.slice ac a.closes.length cc) (.slice an a.inners.length cn)).toArray).cells.toList 0 none false (some 30)) = G at *
 repeat (first | refine OpsL.q (by exact oasg) ?_ | refine Trip.seq ?_ | refine Trip.ops ?_ | (refine OpsL.nil ?_; (change Trip _ _ _ _ _)))
 refine OpsL.new (by subst_vars; decide) aop_makeMap3 ?_
 have hx1 : Ext (nx + 1) G (nx + 1 + 1) (G.put (nx + 1) (.map [] [] 0)) := Ext.newPut
 have gm : (G.put (nx + 1) (.map [] [] 0)) (nx + 1) = some (.map [] [] 0) := Heap.put_eq
 have ok1 := ok_new (o := .map [] [] 0) ok0
 generalize G.put (nx + 1) (.map [] [] 0) = G1 at *
 have gx1 := (hx1.2 nx (by omega)).trans gx
 have ha1 := ha.ext (hx0.trans hx1) hok
 repeat fail
 refine OpsL.q (aop_loadAgg (k := 7) (vs := autV a (.slice ai a.init.length ci) (.slice af a.final.length cf) (.slice ao a.opens.length co) (.slice ac a.closes.length cc) (.slice an a.inners.length cn)) (by simp only [ASt.ev, tmPut, ↓reduceIte, Nat.reduceEqDiff, *]; done) (by exact rfl) rfl (by exact rfl) (getc_all gx1 rfl)) ?_
 refine OpsL.c1 (hf := entersMoves) (hc := (movesC W0 ha1 hn).ok) (h := ?_)
 rintro v1 n1 H1 ⟨⟨ob1, w1, x1, b1⟩, ok1'⟩
 refine OpsL.c1 (hf := entersWaiting) (hc := (waitingC W0 (w1.at e4_len) (movesA_len hn)).ok) (h := ?_)
 rintro v2 n2 H2 ⟨⟨W, rfl, hw, x2⟩, ok2⟩
 have hle1 := x1.1
 have hle2 := x2.1
 have gm2 : H2 (nx + 1) = some (.map [] [] 0) := by rw [x2.2 _ (by omega), x1.2 _ (by omega)]; exact gm
 have gx2 : H2 nx = some (.cells (autV a (.slice ai a.init.length ci) (.slice af a.final.length cf) (.slice ao a.opens.length co) (.slice ac a.closes.length cc) (.slice an a.inners.length cn)) 0 none false (some 30)) := by rw [x2.2 _ (by omega), x1.2 _ (by omega)]; exact gx1
 have ha2 := ha1.ext (x1.trans x2) ok1
 have hxH : Ext nx H n2 H2 := ((hx0.trans hx1).trans x1).trans x2
 clear gx gx1 gm w1 b1 ha ha1 x1 x2 hx0 hx1 ok0 ok1 ok1'
 repeat (first | refine OpsL.q (by exact oasg) ?_ | refine Trip.seq ?_ | refine Trip.ops ?_ | (refine OpsL.nil ?_; (change Trip _ _ _ _ _)))
 refine OpsL.q (aop_build (v := thV (1, 0)) (l := [(0, .int .i64 1), (1, .int .i64 0)]) (by simp only [evParts, ASt.ev, tmPut, ↓reduceIte, reduceIte, Option.some.injEq, Nat.reduceEqDiff, plainC, plain1, *]) (by kernel_rfl)) ?_
 refine OpsL.new (by subst_vars; decide) (aop_buildSlice (l := [(0, thV (1, 0))]) (r := (.slice (some ⟨n2, 0, none⟩) 1 1, .new (.cells (encT (1, 0)) 2 none false (some 102)))) (by simp only [evParts, ASt.ev, tmPut, ↓reduceIte, reduceIte, Option.some.injEq, Nat.reduceEqDiff, *]) (by kernel_rfl)) ?_
 have x3 : Ext n2 H2 (n2 + 1) (H2.put n2 (.cells (encT (1, 0)) 2 none false (some 102))) := Ext.newPut
 have gt : (H2.put n2 (.cells (encT (1, 0)) 2 none false (some 102))) n2 = some (.cells (encT (1, 0)) 2 none false (some 102)) := Heap.put_eq
 have ok3 := ok_new (o := .cells (encT (1, 0)) 2 none false (some 102)) ok2
 generalize H2.put n2 (.cells (encT (1, 0)) 2 none false (some 102)) = G3 at *
 have gx3 := (x3.2 nx (by omega)).trans gx2
 have gm3 := (x3.2 (nx + 1) (by omega)).trans gm2
 have ha3 := ha2.ext x3 ok2
 have hw3 := hw.ext x3
 have ci0 : cellAt G3 ⟨nx, 0 + 2, none⟩ (.slice ai a.init.length ci) := by rw [Nat.zero_add]; exact cell_of gx3 rfl
 have hli := hn.init
 clear gx2 gm2 hw ha2 ok2
 repeat (first | (refine OpsL.q (by first | exact omv | exact oasg | exact olen | exact ofa | exact old) ?_) | refine Trip.seq ?_ | refine Trip.ops ?_ | refine Trip.block ?_ | (refine OpsL.nil ?_; (change Trip _ _ _ _ _)))
 refine Trip.mono (Q := fun e st => e = .exit 0 ∧ ∃ (tm' : Nat → Value) (nx' : Nat) (H' : Heap) (ob : Option (Nat × Nat)) (v : Value), st = ⟨tm', n, H', nx'⟩ ∧ Ext (n2 + 1) G3 nx' H' ∧ (∀ id o, H' id = some o → id < nx') ∧ OwnTh H' ob v (startT a) ∧ (∀ b t, ob = some (b, t) → n2 + 1 ≤ b ∧ b < nx') ∧ tm' 3 = .map (some (nx + 1)) ∧ tm' 4 = .map (some n1) ∧ tm' 5 = v) ?_ ?_
 ·refine Trip.inv (fun (i : Nat) st => ∃ (tm' : Nat → Value) (nx' : Nat) (H' : Heap) (ob : Option (Nat × Nat)) (v : Value), st = ⟨tm', n, H', nx'⟩ ∧ Ext (n2 + 1) G3 nx' H' ∧ (∀ id o, H' id = some o → id < nx') ∧ (i = 0 → v = .slice (some ⟨n2, 0, none⟩) 1 1 ∧ ob = none) ∧ (0 < i → OwnTh H' ob v ((1, 0) :: (a.init.take i).map (fun s => ((0, s) : Thg)))) ∧ (∀ b t, ob = some (b, t) → n2 + 1 ≤ b ∧ b < nx') ∧ tm' 3 = .map (some (nx + 1)) ∧ tm' 4 = .map (some n1) ∧ tm' 5 = v ∧ tm' 21 = .slice ai a.init.length ci ∧ tm' 22 = .int .i64 a.init.length ∧ tm' 23 = .int .i64 i ∧ i ≤ a.init.length) (fun i => a.init.length - i) 0 ?_ ?_
  ·exact ⟨_, _, _, none, _, rfl, Ext.refl, ok3, fun _ => ⟨rfl, rfl⟩, fun h => absurd h (by omega), fun _ _ h => (by cases h), by simp [tmPut, *], by simp [tmPut, *], by simp [tmPut, *], by simp [tmPut, *], by simp [tmPut, *], by simp [tmPut, *], Nat.zero_le _⟩
  ·rintro i st ⟨tm, nx', H', ob, v, rfl, hx, hok', hz, hp, hob, q3, q4, q5, q21, q22, q23, hi⟩
   by_cases hlt : i < a.init.length
   ·obtain ⟨p, hp0, g⟩ := intsAt_at (ha3.init.ext hx ok3) hlt
    subst hp0
    have hst : (a.init.take (i + 1)).map (fun s => ((0, s) : Thg)) = (a.init.take i).map (fun s => ((0, s) : Thg)) ++ [(0, a.init[i])] := by rw [List.take_succ_eq_append_getElem hlt, List.map_append]; rfl
    generalize a.init[i] = s at *
    have hle := hx.1
    repeat (first | refine Trip.seq ?_ | refine Trip.ops ?_)
    refine OpsL.lssT ?_
    repeat (first | refine Trip.seq ?_ | (refine OpsL.nil ?_; (change Trip _ _ _ _ _)))
    refine Trip.ifT ?_
    repeat (first | (refine OpsL.q (by first | exact omv | exact oasg | exact oixa | exact old) ?_) | refine Trip.seq ?_ | refine Trip.ops ?_ | refine Trip.block ?_ | (refine Trip.skip ?_; (change Trip _ _ _ _ _)) | (refine OpsL.nil ?_; (change Trip _ _ _ _ _)))
    refine OpsL.q (aop_build (v := thV (0, s)) (l := [(0, .int .i64 0), (1, .int .i64 s)]) (by simp only [evParts, ASt.ev, tmPut, ↓reduceIte, reduceIte, Option.some.injEq, Nat.reduceEqDiff, plainC, plain1, *]) (by kernel_rfl)) ?_
    refine OpsL.new (by subst_vars; decide) (aop_buildSlice (l := [(0, thV (0, s))]) (r := (.slice (some ⟨nx', 0, none⟩) 1 1, .new (.cells (encT (0, s)) 2 none false (some 102)))) (by simp only [evParts, ASt.ev, tmPut, ↓reduceIte, reduceIte, Option.some.injEq, Nat.reduceEqDiff, *]) (by kernel_rfl)) ?_
    have x5 : Ext nx' H' (nx' + 1) (H'.put nx' (.cells (encT (0, s)) 2 none false (some 102))) := Ext.newPut
    have ok5 := ok_new (o := .cells (encT (0, s)) 2 none false (some 102)) hok'
    have hone : RowsAt encT 2 (H'.put nx' (.cells (encT (0, s)) 2 none false (some 102))) (.slice (some ⟨nx', 0, none⟩) 1 1) [((0, s) : Thg)] := by
     refine .inr ⟨⟨nx', 0, none⟩, 1, rfl, fun j hj => ?_⟩
     have : j = 0 := by simpa using hj
     subst this
     exact getc_own (by show 0 + 2 ≤ 2; decide)
    generalize H'.put nx' (.cells (encT (0, s)) 2 none false (some 102)) = G5 at *
    by_cases hi1 : i = 0
    ·obtain ⟨rfl, rfl⟩ := hz hi1
     subst hi1
     have hg : G5 n2 = some (.cells (encT (1, 0)) 2 none false (some 102)) := by rw [x5.2 n2 (by omega), hx.2 n2 (by omega)]; exact gt
     have hsrc : source G5 2 (.slice (some ⟨nx', 0, none⟩) 1 1) none = some (1, encT (0, s)) := by have := rows_src encT_len (by omega) hone; simpa using this
     refine OpsL.new (by subst_vars; decide) (aop_append_full (b := n2) (k := 1) (m := 1) (sz := 2) (bytes := 16) (z := [.int .i64 0, .int .i64 0]) (by simp only [ASt.ev, tmPut, ↓reduceIte, Nat.reduceEqDiff, *]; done) (by simp only [ASt.ev, tmPut, ↓reduceIte, Nat.reduceEqDiff, *]; done) hg rfl hsrc (encT_one _) (by decide) (by exact rfl) (by exact rfl) (by exact rfl) (by exact rfl) (by exact rfl) (by exact rfl) rfl (by decide) (by decide)) ?_
     repeat (first | (refine OpsL.q (by first | exact omv | exact oasg | exact oadd) ?_) | refine Trip.ops ?_ | (refine OpsL.nil ?_; ((repeat (refine blockExit_normal ?_)); first | (change Trip _ _ _ _ _) | (dsimp only))))
     refine ⟨0 + 1, ⟨_, _, _, some (nx' + 1, nx' + 1), _, rfl, ⟨by omega, fun j hj => ?_⟩, ok_new ok5, fun h => absurd h (by omega), fun _ => ⟨rfl, by simp [hst, encT], [], ?_⟩, fun b t h => by cases h; omega, by simp [tmPut, *], by simp [tmPut, *], by simp [tmPut, *], by simp [tmPut, *], by simp [tmPut, *], by simp [tmPut, *], by omega⟩, by omega⟩
     ·rw [Heap.put_ne (by omega), x5.2 j (by omega), hx.2 j hj]
     ·rw [Heap.put_eq, hst]; simp
    ·have hown := hp (by omega)
     have hzl : ((1, 0) :: (a.init.take i).map (fun s => ((0, s) : Thg))).length ≤ 2000 := by rw [List.length_cons, List.length_map, List.length_take]; omega
     have hst2 : ((1, 0) : Thg) :: (a.init.take (i + 1)).map (fun s => ((0, s) : Thg)) = ((1, 0) :: (a.init.take i).map (fun s => ((0, s) : Thg))) ++ [(0, s)] := by rw [hst]; rfl
     clear hst hp hz
     generalize ((1, 0) :: (a.init.take i).map (fun s => ((0, s) : Thg))) = zs at *
     refine OpsL.appendO (bytes := 16) (z := rep 2 [.int .i64 0]) encT_len encT_one (by omega) (by subst_vars; decide) (OwnOf.ext x5 (fun b t h => (hob b t h).2) hown) hone (by simp only [ASt.ev, tmPut, ↓reduceIte, Nat.reduceEqDiff, *]; done) (by simp only [ASt.ev, tmPut, ↓reduceIte, Nat.reduceEqDiff, *]; done) (fun b t h => by have := (hob b t h).2; omega) (by exact rfl) (by exact rfl) (by exact rfl) (by exact rfl) (by exact rfl) rfl (by simp; omega) (by omega) ?_
     intro v8 nx8 H8 ob8 hA8
     repeat (first | (refine OpsL.q (by first | exact omv | exact oasg | exact oadd) ?_) | refine Trip.ops ?_ | (refine OpsL.nil ?_; ((repeat (refine blockExit_normal ?_)); first | (change Trip _ _ _ _ _) | (dsimp only))))
     refine ⟨i + 1, ⟨_, nx8, H8, ob8, v8, rfl, ⟨by have := hA8.le; omega, fun j hj => ?_⟩, hA8.ok (fun b t h => by have := (hob b t h).2; omega) ok5, fun h => absurd h (by omega), fun _ => ?_, fun b t h => ?_, by simp [tmPut, *], by simp [tmPut, *], by simp [tmPut, *], by simp [tmPut, *], by simp [tmPut, *], by simp [tmPut, *], by omega⟩, by omega⟩
     ·rw [hA8.same j (by omega) (fun b t h => by have := (hob b t h).1; omega), x5.2 j (by omega), hx.2 j hj]
     ·rw [hst2]; exact hA8.own
     ·obtain ⟨q1, q2⟩ := hA8.blk b t h
      refine ⟨?_, q1⟩
      rcases q2 with rfl | ⟨t', h'⟩
      ·omega
      ·exact (hob _ _ h').1
   ·have hin : i = a.init.length := by omega
    subst hin
    have hpos : 0 < a.init.length := List.length_pos_iff.2 hi0
    have hown := hp hpos
    rw [List.take_length] at hown
    repeat (first | refine Trip.seq ?_ | refine Trip.ops ?_)
    refine OpsL.lssF ?_
    repeat (first | refine Trip.seq ?_ | (refine OpsL.nil ?_; (change Trip _ _ _ _ _)))
    refine Trip.ifF ?_
    repeat (refine Trip.exit ?_; (dsimp only))
    exact ⟨rfl, _, _, _, ob, v, rfl, hx, hok', hown, hob, by simp [tmPut, *], by simp [tmPut, *], by simp [tmPut, *]⟩
 ·rintro e st ⟨rfl, tm', n4, H4, ob4, v4, rfl, hx4, ok4, hown4, hob4, q3, q4, q5⟩
  ((repeat (refine blockExit_eq ?_)); change Trip _ _ _ _ _)
  have hle4 := hx4.1
  have hFr : ∀ j, j < n2 + 1 → j ≠ nx + 1 → H4 j = G3 j := fun j hj _ => hx4.2 j hj
  have hc4 : H4 (nx + 1) = some (.map (([] : List Thg).map fun t => (thV t, .agg #[])) (List.range ([] : List Thg).length) ([] : List Thg).length) := (hx4.2 _ (by omega)).trans gm3
  clear gt ci0 hx4
  repeat (first | refine Trip.seq ?_ | refine Trip.block ?_)
  refine Trip.inv (fun (p : List Thg × List Thg) st => ∃ (tm' : Nat → Value) (nx' : Nat) (H' : Heap) (ob : Option (Nat × Nat)) (v : Value), st = ⟨tm', n, H', nx'⟩ ∧ n2 + 1 ≤ nx' ∧ (∀ j, j < n2 + 1 → j ≠ nx + 1 → H' j = G3 j) ∧ (∀ id o, H' id = some o → id < nx') ∧ H' (nx + 1) = some (.map (p.1.map fun t => (thV t, .agg #[])) (List.range p.1.length) p.1.length) ∧ OwnTh H' ob v p.2 ∧ (∀ b t, ob = some (b, t) → n2 + 1 ≤ b ∧ b < nx') ∧ FindI a p.1 p.2 ∧ muF a p.1 p.2 ≤ 100000 ∧ tm' 3 = .map (some (nx + 1)) ∧ tm' 4 = .map (some n1) ∧ tm' 5 = v) (fun p => muF a p.1 p.2) ([], startT a) ?_ ?_
  ·exact ⟨_, _, _, ob4, v4, rfl, hle4, hFr, ok4, hc4, hown4, hob4, FindI.start a, hmu, by simp [tmPut, *], by simp [tmPut, *], by simp [tmPut, *]⟩
  ·clear q3 q4 q5 hFr hc4 hown4 hob4 ok4 hle4
   rintro ⟨F, todo⟩ st ⟨tm, nx', H', ob, v, rfl, hle, hFr, hok', hcell, hown, hob, hI, hM, q3, q4, q5⟩
   dsimp only at hcell hown hI hM
   rcases List.eq_nil_or_concat todo with rfl | ⟨t0, t, htd⟩
   ·have hor := hown.at encT_len
    obtain ⟨va, vc, rfl⟩ := hor.slice
    repeat (first | (refine OpsL.q (by first | exact omv | exact olen) ?_) | refine Trip.seq ?_ | refine Trip.ops ?_)
    refine OpsL.gtrF ?_ (c := by simp)
    repeat (refine OpsL.nil ?_; (change Trip _ _ _ _ _))
    refine Trip.ifF ?_
    repeat (first | (refine OpsL.q (by first | exact omv | exact oasg) ?_) | refine Trip.seq ?_ | refine Trip.ops ?_ | (refine Trip.exit ?_; ((repeat (refine blockExit_eq ?_)); change Trip _ _ _ _ _)) | (refine Trip.ret ?_; (dsimp only)) | (refine OpsL.nil ?_; (change Trip _ _ _ _ _)))
    refine ⟨.inr rfl, _, res_tmp, nx + 1, F, by simp [tmPut, *], hcell, hI.nodup, hI.all, by omega, by omega, by have := hxH.1; omega, fun j hj => ?_⟩
    rw [hFr j (by omega) (by omega), x3.2 j (by omega), hxH.2 j hj]
   ·rw [List.concat_eq_append] at htd
    subst htd
    have hml : t0.length + 1 ≤ 100000 := by unfold muF at hM; rw [List.length_append, List.length_singleton] at hM; omega
    cases ob with
    | none => obtain ⟨_, _, h2⟩ := hown; simp at h2
    | some bt =>
     obtain ⟨b, tg⟩ := bt
     have hor := hown.at encT_len
     have hpop := own_pop hown
     obtain ⟨hv, _, rest, hH⟩ := hown
     have hl1 : (t0 ++ [t]).length = t0.length + 1 := by simp
     rw [hl1] at hv
     subst hv
     have hbb := hob b tg rfl
     have hg : getc H' ⟨b, 0 + (((t0.length + 1 : Nat) : Int) - 1).toNat * 2, some tg⟩ 2 = some (encT t) := by
      rw [show (((t0.length + 1 : Nat) : Int) - 1).toNat = t0.length by omega]
      have := getc_flat3 encT_len hH (i := t0.length) (by simp)
      simpa using this
     have hsl : ∀ GG : Heap, GG b = H' b → aSlice Tryz.prog GG 103 (.slice (some ⟨b, 0, some tg⟩) (t0.length + 1) (t0.length + 1)) none (some (.int .i64 (((t0.length + 1 : Nat) : Int) - 1))) none = some (.slice (some ⟨b, 0 + 0 * 2, some tg⟩) (t0.length - 0) (t0.length - 0)) := fun GG hGG => by
      have := aSlice_tagged (P := Tryz.prog) (H := GG) (t := 103) (el := 102) (sz := 2) (a := ⟨b, 0, some tg⟩) (len := t0.length + 1) (cap := t0.length + 1) (l := 0) (h := t0.length) (tg := tg) (lo := none) (hi := some (.int .i64 (((t0.length + 1 : Nat) : Int) - 1))) (by exact rfl) (by exact rfl) (hGG.trans hH) rfl rfl rfl (.inl ⟨rfl, rfl⟩) (.inr ⟨.i64, by congr 2; omega⟩) (Nat.zero_le _) (Nat.le_succ _)
      rwa [if_neg (by omega)] at this
     have hm1 := muF_old a F t0 t
     have hun : t ∈ univ a := hI.uni t (List.mem_append.2 (.inr (List.mem_singleton.2 rfl)))
     repeat (first | (refine OpsL.q (by first | exact omv | exact olen) ?_) | refine Trip.seq ?_ | refine Trip.ops ?_)
     refine OpsL.gtrT ?_
     repeat (refine OpsL.nil ?_; (change Trip _ _ _ _ _))
     refine Trip.ifT ?_
     repeat (first | (refine OpsL.q (by first | exact omv | exact osub | exact olen | exact oixa | exact aop_loadAgg (k := 2) (by simp only [ASt.ev, tmPut, ↓reduceIte, Nat.reduceEqDiff, *]; rfl) (by exact rfl) rfl (by exact rfl) (by assumption)) ?_) | refine Trip.seq ?_ | refine Trip.ops ?_ | refine Trip.block ?_ | (refine Trip.skip ?_; (change Trip _ _ _ _ _)))
     refine OpsL.new (by subst_vars; decide) (aop_alloc (l := (rep 2 [.int .i64 0])) (by kernel_rfl)) ?_
     refine OpsL.upd (aop_store (k := 2) (u := thV t) (by simp only [ASt.ev, tmPut, ↓reduceIte, Nat.reduceEqDiff, *]; done) (by simp only [ASt.ev, tmPut, ↓reduceIte, Nat.reduceEqDiff, *]; rfl) (by exact rfl) rfl (o := .cells (encT t) 0 none false (some 102)) (setc_allN (vs := (encT t)) Heap.put_eq rfl rfl)) ?_
     obtain ⟨G5, hG5⟩ : ∃ G0, G0 = (H'.put nx' (.cells (rep 2 [.int .i64 0]) 0 none false (some 102))).put nx' (.cells (encT t) 0 none false (some 102)) := ⟨_, rfl⟩
     have xG5 : Ext nx' H' (nx' + 1) G5 := ⟨Nat.le_succ _, fun j hj => by rw [hG5, Heap.put_ne (by omega), Heap.put_ne (by omega)]⟩
     have kG5 : ∀ id o, G5 id = some o → id < nx' + 1 := by rw [hG5]; exact ok_put3 (ok_new hok') Heap.put_eq
     have bG5 : G5 nx' = some (.cells (encT t) 0 none false (some 102)) := by rw [hG5, Heap.put_eq]
     first | rw [← hG5] | skip
     clear hG5
     repeat (first | (refine OpsL.q (by first | exact omv | exact osub | exact olen) ?_) | refine Trip.seq ?_ | refine Trip.ops ?_ | (refine OpsL.nil ?_; (change Trip _ _ _ _ _)))
     refine OpsL.q (aop_slice (r := .slice (some ⟨b, 0 + 0 * 2, some tg⟩) (t0.length - 0) (t0.length - 0)) (a := none) (b := some (.int .i64 (((t0.length + 1 : Nat) : Int) - 1))) (c := none) (by simp only [ASt.ev, tmPut, ↓reduceIte, Nat.reduceEqDiff, *]; done) rfl (by simp only [evOpt, ASt.ev, tmPut, ↓reduceIte, reduceIte, Option.some.injEq, Nat.reduceEqDiff, Option.map_some, *]) rfl (hsl _ (xG5.2 b (by omega)))) ?_
     have hF5 : FoundAt G5 (.map (some (nx + 1))) F := ⟨nx + 1, _, _, rfl, (xG5.2 _ (by omega)).trans hcell⟩
     repeat (first | (refine OpsL.q (by first | exact omv | exact oasg) ?_) | refine Trip.seq ?_ | refine Trip.ops ?_ | (refine OpsL.nil ?_; (change Trip _ _ _ _ _)))
     refine OpsL.q (aop_loadAgg (k := 2) (vs := encT t) (by simp only [ASt.ev, tmPut, ↓reduceIte, Nat.reduceEqDiff, *]; done) (by exact rfl) rfl (by exact rfl) (getc_all bG5 rfl)) ?_
     refine OpsL.q (aop_lookup3 (by simp only [ASt.ev, tmPut, ↓reduceIte, Nat.reduceEqDiff, *]; done) (by simp only [ASt.ev, tmPut, ↓reduceIte, Nat.reduceEqDiff, *]; rfl) (hF5.told t)) ?_
     repeat (first | (refine OpsL.q (by first | exact omv | exact aop_extract (by simp only [ASt.ev, tmPut, ↓reduceIte, Nat.reduceEqDiff, *]; rfl) (by exact rfl)) ?_))
     refine OpsL.new (by subst_vars; decide) (aop_alloc (l := []) (by kernel_rfl)) ?_
     refine OpsL.upd (aop_store (k := 0) (u := .agg #[]) (by simp only [ASt.ev, tmPut, ↓reduceIte, Nat.reduceEqDiff, *]; done) (by simp only [ASt.ev, tmPut, ↓reduceIte, Nat.reduceEqDiff, *]; rfl) (by exact rfl) rfl (o := .cells [] 0 none false (some 104)) (setc_allN (vs := []) Heap.put_eq rfl rfl)) ?_
     obtain ⟨G6, hG6⟩ : ∃ G0, G0 = (G5.put (nx' + 1) (.cells [] 0 none false (some 104))).put (nx' + 1) (.cells [] 0 none false (some 104)) := ⟨_, rfl⟩
     have xG6 : Ext (nx' + 1) G5 ((nx' + 1) + 1) G6 := ⟨Nat.le_succ _, fun j hj => by rw [hG6, Heap.put_ne (by omega), Heap.put_ne (by omega)]⟩
     have kG6 : ∀ id o, G6 id = some o → id < (nx' + 1) + 1 := by rw [hG6]; exact ok_put3 (ok_new kG5) Heap.put_eq
     have bG6 : G6 (nx' + 1) = some (.cells [] 0 none false (some 104)) := by rw [hG6, Heap.put_eq]
     first | rw [← hG6] | skip
     clear hG6
     have hc6 : G6 (nx + 1) = some (.map (F.map fun t => (thV t, .agg #[])) (List.range F.length) F.length) := by rw [xG6.2 _ (by omega), xG5.2 _ (by omega)]; exact hcell
     have hF6 : ∀ j, j < n2 + 1 → j ≠ nx + 1 → G6 j = G3 j := fun j h1 h2 => by rw [xG6.2 _ (by omega), xG5.2 _ (by omega)]; exact hFr j h1 h2
     have hpop6 := OwnOf.ext (xG5.trans xG6) (fun b' t' h => by cases h; exact hbb.2) hpop
     have hb6 : G6 nx' = some (.cells (encT t) 0 none false (some 102)) := (xG6.2 _ (Nat.lt_succ_self _)).trans bG5
     clear hg hsl hF5 bG6 bG5 hor hpop
     by_cases htF : t ∈ F
     ·simp only [htF, decide_true]
      repeat (first | (refine OpsL.q (by first | exact omv | exact oasg) ?_) | refine Trip.seq ?_ | refine Trip.ops ?_ | (refine OpsL.nil ?_; (change Trip _ _ _ _ _)))
      refine Trip.ifT ?_
      repeat (first | (refine Trip.exit ?_; ((repeat (refine blockExit_eq ?_)); dsimp only)))
      exact ⟨(F, t0), ⟨_, _, _, some (b, tg), _, rfl, by omega, hF6, kG6, hc6, hpop6, fun b' t' h => by cases h; omega, hI.old htF, by show muF a F t0 ≤ 100000; omega, by simp [tmPut, *], by simp [tmPut, *], by simp [tmPut, *]⟩, by show muF a F t0 < muF a F (t0 ++ [t]); omega⟩
     ·have hJ0 := hI.fresh htF
      simp only [htF, decide_false]
      repeat (first | (refine OpsL.q (by first | exact omv | exact oasg) ?_) | refine Trip.seq ?_ | refine Trip.ops ?_ | (refine OpsL.nil ?_; (change Trip _ _ _ _ _)))
      refine Trip.ifF ?_
      repeat (first | refine OpsL.q (by exact omv) ?_ | refine Trip.seq ?_ | refine Trip.ops ?_ | (refine Trip.skip ?_; (change Trip _ _ _ _ _)))
      refine OpsL.q (aop_loadAgg (k := 2) (vs := encT t) (by simp only [ASt.ev, tmPut, ↓reduceIte, Nat.reduceEqDiff, *]; done) (by exact rfl) rfl (by exact rfl) (getc_all hb6 rfl)) ?_
      refine OpsL.q (aop_build (v := .agg #[]) (l := []) (by simp only [evParts]) (by kernel_rfl)) ?_
      have hupd : aMapUpdate Tryz.prog G6 55 (.map (some (nx + 1))) (thV t) (.agg #[]) = some (.upd (nx + 1) (.map ((F ++ [t]).map fun t => (thV t, .agg #[])) (List.range (F ++ [t]).length) (F ++ [t]).length)) := by rw [FoundAt.put hc6 htF]; simp [List.range_succ]
      refine OpsL.upd (aop_mapUpdate3 (by simp only [ASt.ev, tmPut, ↓reduceIte, Nat.reduceEqDiff, *]; done) (by simp only [ASt.ev, tmPut, ↓reduceIte, Nat.reduceEqDiff, *]; rfl) (by simp only [ASt.ev, tmPut, ↓reduceIte, Nat.reduceEqDiff, *]; done) hupd) ?_
      have hG7 : ∀ j, j ≠ nx + 1 → (G6.put (nx + 1) (.map ((F ++ [t]).map fun t => (thV t, .agg #[])) (List.range (F ++ [t]).length) (F ++ [t]).length)) j = G6 j := fun j hj => Heap.put_ne hj
      have hc7 : (G6.put (nx + 1) (.map ((F ++ [t]).map fun t => (thV t, .agg #[])) (List.range (F ++ [t]).length) (F ++ [t]).length)) (nx + 1) = some (.map ((F ++ [t]).map fun t => (thV t, .agg #[])) (List.range (F ++ [t]).length) (F ++ [t]).length) := Heap.put_eq
      have ok7 := ok_put3 (o := .map ((F ++ [t]).map fun t => (thV t, .agg #[])) (List.range (F ++ [t]).length) (F ++ [t]).length) kG6 hc6
      generalize G6.put (nx + 1) (.map ((F ++ [t]).map fun t => (thV t, .agg #[])) (List.range (F ++ [t]).length) (F ++ [t]).length) = G7 at *
      have hF7 : ∀ j, j < n2 + 1 → j ≠ nx + 1 → G7 j = G3 j := fun j h1 h2 => by rw [hG7 j h2]; exact hF6 j h1 h2
      have hown7 : OwnTh G7 (some (b, tg)) (.slice (some ⟨b, 0 + 0 * 2, some tg⟩) (t0.length - 0) (t0.length - 0)) t0 := OwnRow.same (fun b' t' h => by cases h; exact hG7 b (by omega)) hpop6
      have hb7 : G7 nx' = some (.cells (encT t) 0 none false (some 102)) := (hG7 nx' (by omega)).trans hb6
      obtain ⟨r, htell⟩ := hw3.tells t
      have hwf : ∀ (H9 : Heap) (nx9 : Nat), n2 + 1 ≤ nx9 → (∀ j, j < n2 + 1 → j ≠ nx + 1 → H9 j = G3 j) → WaitIn H9 n1 n1 nx9 (waitW (movesA a)) W := fun H9 nx9 h1 h2 => hw3.framed (fun j h3 h4 => h2 j h4 (by omega)) h1
      have hrl : (waitW (movesA a) t).length ≤ (movesA a).length := List.length_filter_le _ _
      have hml2 := movesA_len hn
      clear hb6 hpop6 hc6 hF6 hupd hG7 kG6 xG5 xG6 kG5
      repeat (first | refine OpsL.q (by exact omv) ?_ | refine Trip.seq ?_ | refine Trip.ops ?_ | (refine OpsL.nil ?_; (change Trip _ _ _ _ _)))
      refine OpsL.q (aop_loadAgg (k := 2) (vs := encT t) (by simp only [ASt.ev, tmPut, ↓reduceIte, Nat.reduceEqDiff, *]; done) (by exact rfl) rfl (by exact rfl) (getc_all hb7 rfl)) ?_
      refine OpsL.q (aop_lookup3 (by simp only [ASt.ev, tmPut, ↓reduceIte, Nat.reduceEqDiff, *]; done) (by simp only [ASt.ev, tmPut, ↓reduceIte, Nat.reduceEqDiff, *]; rfl) (htell G7 _ (hwf G7 (nx' + 1 + 1) (by omega) hF7)).1) ?_
      obtain ⟨ra, rc, rfl⟩ := (htell G7 _ (hwf G7 (nx' + 1 + 1) (by omega) hF7)).2.slice
      generalize waitW (movesA a) t = rs at *
      repeat (first | (refine OpsL.q (by first | exact omv | exact olen) ?_) | refine Trip.block ?_ | (refine OpsL.nil ?_; (change Trip _ _ _ _ _)))
      refine Trip.mono (Q := fun e st => e = .exit 4 ∧ ∃ (tm' : Nat → Value) (nx3 : Nat) (H3 : Heap) (ob3 : Option (Nat × Nat)) (v3 : Value) (td : List Thg), st = ⟨tm', n, H3, nx3⟩ ∧ n2 + 1 ≤ nx3 ∧ (∀ j, j < n2 + 1 → j ≠ nx + 1 → H3 j = G3 j) ∧ (∀ id o, H3 id = some o → id < nx3) ∧ H3 (nx + 1) = some (.map ((F ++ [t]).map fun t => (thV t, .agg #[])) (List.range (F ++ [t]).length) (F ++ [t]).length) ∧ OwnTh H3 ob3 v3 td ∧ (∀ b t, ob3 = some (b, t) → n2 + 1 ≤ b ∧ b < nx3) ∧ FindJ a (F ++ [t]) td [] ∧ td.length ≤ t0.length + 2 * rs.length ∧ tm' 3 = .map (some (nx + 1)) ∧ tm' 4 = .map (some n1) ∧ tm' 5 = v3) ?_ ?_
      ·refine Trip.inv (fun (i : Nat) st => ∃ (tm' : Nat → Value) (nx3 : Nat) (H3 : Heap) (ob3 : Option (Nat × Nat)) (v3 : Value) (td : List Thg), st = ⟨tm', n, H3, nx3⟩ ∧ n2 + 1 ≤ nx3 ∧ (∀ j, j < n2 + 1 → j ≠ nx + 1 → H3 j = G3 j) ∧ (∀ id o, H3 id = some o → id < nx3) ∧ H3 (nx + 1) = some (.map ((F ++ [t]).map fun t => (thV t, .agg #[])) (List.range (F ++ [t]).length) (F ++ [t]).length) ∧ OwnTh H3 ob3 v3 td ∧ (∀ b t, ob3 = some (b, t) → n2 + 1 ≤ b ∧ b < nx3) ∧ FindJ a (F ++ [t]) td (rs.drop i) ∧ td.length ≤ t0.length + 2 * i ∧ tm' 3 = .map (some (nx + 1)) ∧ tm' 4 = .map (some n1) ∧ tm' 5 = v3 ∧ tm' 59 = .slice ra rs.length rc ∧ tm' 60 = .int .i64 rs.length ∧ tm' 61 = .int .i64 i ∧ i ≤ rs.length) (fun i => rs.length - i) 0 ?_ ?_
       ·exact ⟨_, _, _, some (b, tg), _, t0, rfl, by omega, hF7, ok7, hc7, hown7, fun b' t' h => by cases h; omega, hJ0, by omega, by simp [tmPut, *], by simp [tmPut, *], by simp [tmPut, *], by simp [tmPut, *], by simp [tmPut, *], by simp [tmPut, *], Nat.zero_le _⟩
       ·clear q3 q4 q5 hF7 ok7 hc7 hown7 hb7
        rintro i st ⟨tm, nx3, H3, ob3, v3, td, rfl, hle3, hF3, ok3', hc3, hown3, hob3, hJ, htl, q3, q4, q5, q59, q60, q61, hi⟩
        by_cases hlt : i < rs.length
        ·obtain ⟨p, hp0, g⟩ := rows_at (htell H3 nx3 (hwf H3 nx3 hle3 hF3)).2 hlt
         rw [List.drop_eq_getElem_cons hlt] at hJ
         generalize rs[i] = m at *
         repeat (first | refine Trip.seq ?_ | refine Trip.ops ?_)
         refine OpsL.lssT ?_
         subst hp0
         repeat (first | refine Trip.seq ?_ | (refine OpsL.nil ?_; (change Trip _ _ _ _ _)))
         refine Trip.ifT ?_
         repeat (first | refine OpsL.q (by exact oixa) ?_ | refine Trip.seq ?_ | refine Trip.ops ?_ | refine Trip.block ?_ | (refine Trip.skip ?_; (change Trip _ _ _ _ _)))
         refine OpsL.q (aop_loadAgg (k := 4) (vs := Go.Am.e4 m) (by simp only [ASt.ev, tmPut, ↓reduceIte, Nat.reduceEqDiff, *]; rfl) (by exact rfl) rfl (by exact rfl) g) ?_
         refine OpsL.new (by subst_vars; decide) (aop_alloc (l := (rep 4 [.int .i64 0])) (by kernel_rfl)) ?_
         refine OpsL.upd (aop_store (k := 4) (u := .agg (Go.Am.e4 m).toArray) (by simp only [ASt.ev, tmPut, ↓reduceIte, Nat.reduceEqDiff, *]; done) (by simp only [ASt.ev, tmPut, ↓reduceIte, Nat.reduceEqDiff, *]; done) (by exact rfl) rfl (o := .cells (Go.Am.e4 m) 0 none false (some 107)) (setc_allN (vs := (Go.Am.e4 m)) Heap.put_eq rfl rfl)) ?_
         obtain ⟨G8, hG8⟩ : ∃ G0, G0 = (H3.put nx3 (.cells (rep 4 [.int .i64 0]) 0 none false (some 107))).put nx3 (.cells (Go.Am.e4 m) 0 none false (some 107)) := ⟨_, rfl⟩
         have xG8 : Ext nx3 H3 (nx3 + 1) G8 := ⟨Nat.le_succ _, fun j hj => by rw [hG8, Heap.put_ne (by omega), Heap.put_ne (by omega)]⟩
         have kG8 : ∀ id o, G8 id = some o → id < nx3 + 1 := by rw [hG8]; exact ok_put3 (ok_new ok3') Heap.put_eq
         have bG8 : G8 nx3 = some (.cells (Go.Am.e4 m) 0 none false (some 107)) := by rw [hG8, Heap.put_eq]
         first | rw [← hG8] | skip
         clear hG8
         repeat (first | refine OpsL.q (by exact omv) ?_ | refine Trip.seq ?_ | refine Trip.ops ?_ | (refine OpsL.nil ?_; (change Trip _ _ _ _ _)))
         refine OpsL.q (aop_loadAgg (k := 4) (vs := Go.Am.e4 m) (by simp only [ASt.ev, tmPut, ↓reduceIte, Nat.reduceEqDiff, *]; done) (by exact rfl) rfl (by exact rfl) (getc_all bG8 rfl)) ?_
         have hf8 : FoundAt G8 (.map (some (nx + 1))) (F ++ [t]) := ⟨nx + 1, _, _, rfl, (xG8.2 _ (by omega)).trans hc3⟩
         refine OpsL.c2 (hf := entersAllows) (hc := (allowsC W0 m hf8).ok) (h := ?_)
         rintro vA nA HA ⟨⟨rfl, xA⟩, okA⟩
         have hxA := xG8.trans xA
         have hbA : HA nx3 = some (.cells (Go.Am.e4 m) 0 none false (some 107)) := (xA.2 _ (Nat.lt_succ_self _)).trans bG8
         have hlA := hxA.1
         have hcA : HA (nx + 1) = some (.map ((F ++ [t]).map fun t => (thV t, .agg #[])) (List.range (F ++ [t]).length) (F ++ [t]).length) := (hxA.2 _ (by omega)).trans hc3
         have hFA : ∀ j, j < n2 + 1 → j ≠ nx + 1 → HA j = G3 j := fun j h1 h2 => by rw [hxA.2 j (by omega)]; exact hF3 j h1 h2
         have hownA := OwnOf.ext hxA (fun b t h => (hob3 b t h).2) hown3
         clear bG8 xG8 kG8 xA hf8 g hown3
         by_cases hall : ∀ u ∈ needsT m, u ∈ F ++ [t]
         ·rw [decide_eq_true hall]
          repeat (refine OpsL.nil ?_; (change Trip _ _ _ _ _))
          refine Trip.ifT ?_
          repeat (first | refine Trip.seq ?_ | refine Trip.ops ?_)
          refine OpsL.q (aop_loadAgg (k := 4) (vs := Go.Am.e4 m) (by simp only [ASt.ev, tmPut, ↓reduceIte, Nat.reduceEqDiff, *]; done) (by exact rfl) rfl (by exact rfl) (getc_all hbA rfl)) ?_
          refine OpsL.c1 (hf := entersGives) (hc := (givesC W0 m).ok) (h := ?_)
          rintro vB nB HB ⟨⟨rfl, xB⟩, okB⟩
          have hlB := xB.1
          refine OpsL.new (by subst_vars; decide) (aop_alloc (l := (rep 4 [.int .i64 0])) (by kernel_rfl)) ?_
          refine OpsL.upd (aop_store (k := 4) (u := .agg (twoV (givesT m)).toArray) (by simp only [ASt.ev, tmPut, ↓reduceIte, Nat.reduceEqDiff, *]; done) (by simp only [ASt.ev, tmPut, ↓reduceIte, Nat.reduceEqDiff, *]; done) (by exact rfl) rfl (o := .cells (twoV (givesT m)) 0 none false (some 109)) (setc_allN (vs := (twoV (givesT m))) Heap.put_eq rfl rfl)) ?_
          obtain ⟨G9, hG9⟩ : ∃ G0, G0 = (HB.put nB (.cells (rep 4 [.int .i64 0]) 0 none false (some 109))).put nB (.cells (twoV (givesT m)) 0 none false (some 109)) := ⟨_, rfl⟩
          have xG9 : Ext nB HB (nB + 1) G9 := ⟨Nat.le_succ _, fun j hj => by rw [hG9, Heap.put_ne (by omega), Heap.put_ne (by omega)]⟩
          have kG9 : ∀ id o, G9 id = some o → id < nB + 1 := by rw [hG9]; exact ok_put3 (ok_new okB) Heap.put_eq
          have bG9 : G9 nB = some (.cells (twoV (givesT m)) 0 none false (some 109)) := by rw [hG9, Heap.put_eq]
          first | rw [← hG9] | skip
          clear hG9
          repeat (first | refine OpsL.q (by exact omv) ?_ | refine Trip.ops ?_ | (refine OpsL.nil ?_; (change Trip _ _ _ _ _)))
          refine OpsL.q (aop_slice (r := .slice (some ⟨nB, 0, none⟩) 2 2) (a := none) (b := none) (c := none) (by simp only [ASt.ev, tmPut, ↓reduceIte, Nat.reduceEqDiff, *]; done) rfl rfl rfl slice_two) ?_
          have hxG := xB.trans xG9
          have hgl : (givesT m).length = 2 := rfl
          refine OpsL.appendO (us := givesT m) (bytes := 16) (z := rep 2 [.int .i64 0]) encT_len encT_one (by omega) (by subst_vars; decide) (OwnOf.ext hxG (fun b t h => by have := hob3 b t h; omega) hownA) (two_rows rfl bG9) (by simp only [ASt.ev, tmPut, ↓reduceIte, Nat.reduceEqDiff, *]; done) (by simp only [ASt.ev, tmPut, ↓reduceIte, Nat.reduceEqDiff, *]; done) (fun b t h => by have := hob3 b t h; omega) (by exact rfl) (by exact rfl) (by exact rfl) (by exact rfl) (by exact rfl) rfl (by omega) (by omega) ?_
          intro v9 nx9 H9 ob9 hA9
          have hl9 := hA9.le
          have hf9 : ∀ j, j < n2 + 1 → H9 j = HA j := fun j hj => by rw [hA9.same j (by omega) (fun b t h => by have := (hob3 b t h).1; omega), hxG.2 j (by omega)]
          repeat (first | (refine OpsL.q (by first | exact omv | exact oasg | exact oadd) ?_) | refine Trip.ops ?_ | (refine OpsL.nil ?_; ((repeat (refine blockExit_normal ?_)); first | (change Trip _ _ _ _ _) | (dsimp only))))
          refine ⟨i + 1, ⟨_, nx9, H9, ob9, v9, td ++ givesT m, rfl, by omega, fun j h1 h2 => by rw [hf9 j h1]; exact hFA j h1 h2, hA9.ok (fun b t h => by have := hob3 b t h; omega) kG9, (hf9 _ (by omega)).trans hcA, hA9.own, fun b t h => ?_, hJ.yes hall, by rw [List.length_append]; omega, by simp [tmPut, *], by simp [tmPut, *], by simp [tmPut, *], by simp [tmPut, *], by simp [tmPut, *], by simp [tmPut, *], by omega⟩, by omega⟩
          obtain ⟨q1, q2⟩ := hA9.blk b t h
          refine ⟨?_, q1⟩
          rcases q2 with rfl | ⟨t', h'⟩
          ·omega
          ·exact (hob3 _ _ h').1
         ·rw [decide_eq_false hall]
          repeat (refine OpsL.nil ?_; (change Trip _ _ _ _ _))
          refine Trip.ifF ?_
          repeat (first | (refine OpsL.q (by first | exact omv | exact oadd) ?_) | refine Trip.ops ?_ | (refine Trip.skip ?_; ((repeat (refine blockExit_normal ?_)); change Trip _ _ _ _ _)) | (refine OpsL.nil ?_; (dsimp only)))
          exact ⟨i + 1, ⟨_, nA, HA, ob3, v3, td, rfl, by omega, hFA, okA, hcA, hownA, fun b t h => by have := hob3 b t h; omega, hJ.no hall, by omega, by simp [tmPut, *], by simp [tmPut, *], by simp [tmPut, *], by simp [tmPut, *], by simp [tmPut, *], by simp [tmPut, *], by omega⟩, by omega⟩
        ·have hin : i = rs.length := by omega
         subst hin
         rw [List.drop_length] at hJ
         repeat (first | refine Trip.seq ?_ | refine Trip.ops ?_)
         refine OpsL.lssF ?_
         repeat (first | refine Trip.seq ?_ | (refine OpsL.nil ?_; (change Trip _ _ _ _ _)))
         refine Trip.ifF ?_
         repeat (refine Trip.exit ?_; (dsimp only))
         exact ⟨rfl, _, nx3, H3, ob3, v3, td, rfl, hle3, hF3, ok3', hc3, hown3, hob3, hJ, htl, by simp [tmPut, *], by simp [tmPut, *], by simp [tmPut, *]⟩
      ·clear q3 q4 q5
       rintro e st ⟨rfl, tm', nx3, H3, ob3, v3, td, rfl, hle3, hF3, ok3', hc3, hown3, hob3, hJ, htl, q3, q4, q5⟩
       ((repeat (first | refine blockExit_eq ?_ | refine blockExit_normal ?_)); dsimp only)
       have hnew := muF_new hun htF (show td.length ≤ t0.length + 2 * (movesA a).length by omega)
       repeat fail
       exact ⟨(F ++ [t], td), ⟨_, nx3, H3, ob3, v3, rfl, hle3, hF3, ok3', hc3, hown3, hob3, hJ.end, by show muF a (F ++ [t]) td ≤ 100000; omega, by simp [tmPut, *], by simp [tmPut, *], by simp [tmPut, *]⟩, by show muF a (F ++ [t]) td < muF a F (t0 ++ [t]); omega⟩
end Go.Proofs.YtjohiaoepbnicaaGreat
namespace Go.Am
open Go.RowKit
section
variable {P : Program} {W0 : World}
def nextR (st : ASt) (o : Oper) : Option Value :=
 match o.op with
 | .next it false => st.ev it
 | _ => none
theorem Ops.nextsR {ops : Array Oper} {i : Nat} {l : List Nat} {o : Oper} {st : ASt} {it : Value} {rs : List (Value × Eff)} {Q : ASt → Prop} (ho : ops[i]? = some o) (hw : wants ops st o = true) (hd : dstOk st o = true)
  (hop : nextR st o = some it) (hn : aNexts st.H it = some rs) (h : ∀ r ∈ rs, Ops P W0 ops l (st.put o.dst r.1 r.2) Q) : Ops P W0 ops (i :: l) st Q := by
 intro ρ C a w hr hs
 simp only [wpOpsIn, ho, wants_sound hs ops o, hw, if_true]
 refine ⟨fun _ _ => trivial, ?_⟩
 unfold nextR at hop
 split at hop
 case h_2 => cases hop
 rename_i x hx
 obtain ⟨⟨v, e⟩, hrr, hsnd⟩ := aNexts_sound (P := P) (ty := o.type) hs.rel hn (hs.ev x it hop)
 obtain ⟨n, v', w', C', hrun, hnn, hR, hS, hv⟩ := hsnd.toN
 have hs' := hs.put (dst := o.dst) (dstOk_spec hd) hR hS hv
 have hnext : wpOpsIn (rf ρ) 0 P ops (Post W0 C st a.defers fun e s => e = .normal ∧ Q s) l (a.put o.dst v') w' :=
  Post.ops (st1 := st.put o.dst v e) (df := a.defers) hS rfl (.of_eq (put_defers a o.dst v')) l ops _ w' (h (v, e) hrr ρ C' _ w' (hr.next hS) hs')
 have hrun' : (o.semAt (rf ρ).round a.eval).run P w = .ok n w' := by
  rw [Oper.semAt_eq _ a.eval o (fun d hd => by rw [hx] at hd; cases hd)]
  simp only [execOp, hx]
  exact hrun
 rw [hrun']
 rcases hnn with rfl | ⟨rfl, rfl⟩
 ·exact hnext
 ·exact hnext
end
end Go.Am
namespace Go.Am
set_option linter.unusedSimpArgs false
set_option linter.unusedVariables false
open Go.RowKit
section
variable {P : Program} {W0 : World}
variable {ops : Array Oper} {op : Op} {type : TypeId} {pos : String} {after : Array Edge} {l : List Oper} {tm : Nat → Value} {n nx : Nat} {H : Heap}
theorem Trip.nexts {id : Nat} {d : Tmp} {x : Operand} {it : Value} {rs : List (Value × Eff)} {Q : AExit → ASt → Prop} (hl : ops.toList = ⟨some d, .next x false, type, pos, after, none⟩ :: l) (hd : d < n)
  (hx : ASt.ev ⟨tm, n, H, nx⟩ x = some it) (hn : aNexts H it = some rs) (h : ∀ r ∈ rs, OpsL P W0 ops l ⟨tmPut tm (some d) r.1, n, r.2.H nx H, r.2.nx nx⟩ (Q .normal)) : Trip P W0 (.region id ops false) ⟨tm, n, H, nx⟩ Q := by
 refine Trip.region ?_
 have h0 : ops[0]? = some ⟨some d, .next x false, type, pos, after, none⟩ := by
  have : ops.toList[0]? = some ⟨some d, .next x false, type, pos, after, none⟩ := by rw [hl]; rfl
  simpa using this
 have hs : List.range ops.size = 0 :: List.range' 1 l.length := by
  rw [← Array.length_toList, hl, List.range_eq_range', List.length_cons, List.range'_succ]
 rw [hs]
 exact Ops.nextsR h0 rfl (by simp [dstOk, hd]) hx hn fun r hr => OpsL.ops l 1 _ (by rw [hl]; rfl) (h r hr)
theorem find_stamp {es : List (Value × Value)} : ∀ (s k : Nat) (i : Nat) (kv : Value × Value), i < k → es[i]? = some kv → (es.zip (List.range' s k)).find? (fun x => x.2 == s + i) = some (kv, s + i) := by
 induction es with
 | nil => intro s k i kv _ h; simp at h
 | cons e es ih =>
  intro s k i kv hi h
  cases k with
  | zero => omega
  | succ k =>
   rw [List.range'_succ, List.zip_cons_cons]
   cases i with
   | zero =>
    simp only [List.getElem?_cons_zero, Option.some.injEq] at h
    subst h
    simp
   | succ i =>
    rw [List.find?_cons_of_neg (by simp), show s + (i + 1) = (s + 1) + i by omega]
    exact ih (s + 1) k i kv (by omega) (by simpa using h)
theorem mem_zip_range {es : List (Value × Value)} {k : Nat} {x : (Value × Value) × Nat} (h : x ∈ es.zip (List.range k)) : x.2 < k ∧ es[x.2]? = some x.1 := by
 obtain ⟨i, hi, he⟩ := List.getElem_of_mem h
 rw [List.getElem_zip] at he
 subst he
 rw [List.length_zip, List.length_range] at hi
 simp only [List.getElem_range]
 exact ⟨by omega, List.getElem?_eq_getElem (by omega)⟩
theorem nexts_told {r m k : Nat} {seen : List Nat} {es : List (Value × Value)} (hr : H r = some (.miter (some m) k seen k)) (hm : H m = some (.map es (List.range k) k)) (hl : es.length = k) :
  ∃ rs, aNexts H (.pointer (some ⟨r, 0, none⟩)) = some rs ∧ ∀ x ∈ rs, (x = (.tuple #[.bool false], .none) ∧ ∀ i, i < k → i ∈ seen) ∨
   ∃ (i : Nat) (key val : Value), i < k ∧ i ∉ seen ∧ es[i]? = some (key, val) ∧ x = (.tuple #[.bool true, key, val], .upd r (.miter (some m) k (seen ++ [i]) k)) := by
 have hc : (((List.range k).all fun b => decide (b < k)) && (seen.isEmpty || (List.range k).isEmpty || (List.range k).any fun b => decide (b < k))) = true := by
  rw [Bool.and_eq_true]
  refine ⟨List.all_eq_true.2 fun b hb => by simpa using hb, ?_⟩
  cases k with
  | zero => simp
  | succ k =>
   rw [Bool.or_eq_true]
   exact .inr (List.any_eq_true.2 ⟨0, by simp, by simp⟩)
 have hz : ∀ i, i < k → ∃ kv, (kv, i) ∈ es.zip (List.range k) ∧ es[i]? = some kv := fun i hi => by
  refine ⟨es[i]'(by omega), ?_, List.getElem?_eq_getElem (by omega)⟩
  refine List.mem_iff_getElem.2 ⟨i, by rw [List.length_zip, List.length_range]; omega, ?_⟩
  rw [List.getElem_zip, List.getElem_range]
 unfold aNexts
 simp only [hr, hm, hc, if_true]
 cases hf : (es.zip (List.range k)).filter fun x => !seen.contains x.2 with
 | nil =>
  refine ⟨_, rfl, fun x hx => .inl ⟨List.mem_singleton.1 hx, fun i hi => ?_⟩⟩
  obtain ⟨kv, h1, _⟩ := hz i hi
  by_cases hs : i ∈ seen
  ·exact hs
  ·have : (kv, i) ∈ (es.zip (List.range k)).filter fun x => !seen.contains x.2 := List.mem_filter.2 ⟨h1, by simpa using hs⟩
   rw [hf] at this
   cases this
 | cons y ys =>
  refine ⟨_, rfl, fun x hx => ?_⟩
  obtain ⟨z, hz1, rfl⟩ := List.mem_map.1 hx
  rw [← hf] at hz1
  obtain ⟨h1, h2⟩ := List.mem_filter.1 hz1
  obtain ⟨h3, h4⟩ := mem_zip_range h1
  exact .inr ⟨z.2, z.1.1, z.1.2, h3, by simpa using h2, h4, rfl⟩
theorem entry_told {r m k i : Nat} {seen : List Nat} {es : List (Value × Value)} {key val : Value} (hr : H r = some (.miter (some m) k (seen ++ [i]) k)) (hm : H m = some (.map es (List.range k) k)) (hi : i < k) (he : es[i]? = some (key, val)) :
  aEntry H (.pointer (some ⟨r, 0, none⟩)) = some (.tuple #[key, val]) := by
 unfold aEntry
 have := find_stamp 0 k i (key, val) hi he
 rw [Nat.zero_add, ← List.range_eq_range'] at this
 simp only [hr, hm, if_true, List.getLast?_append, List.getLast?_singleton, Option.some_or, this, Option.map_some]
variable {dst : Option Tmp} {guard : Option (Nat × Bool)} {ev : Operand → Option Value}
theorem aop_entry {x : Operand} {v r : Value} (hx : ev x = some v) (h : aEntry H v = some r) : aop P H nx ev ⟨dst, .entry x, type, pos, after, guard⟩ = some (r, .none) := by simp [aop, hx, h]
theorem aop_rangeM {x : Operand} {t k e : TypeId} {m : Nat} {es : List (Value × Value)} {bs : List Nat} {clk : Nat} (hx : ev x = some (.map (some m))) (hu : P.underlying t = some (.map k e)) (hm : H m = some (.map es bs clk)) :
  aop P H nx ev ⟨dst, .range t x, type, pos, after, guard⟩ = some (.pointer (some ⟨nx, 0, none⟩), .new (.miter (some m) clk [] clk)) := by simp [aop, hx, aRange, hu, hm]
end
end Go.Am
namespace Go.Am
set_option linter.unusedSimpArgs false
set_option linter.unusedVariables false
open Go.RowKit
theorem nodup_lt : ∀ (k : Nat) (l : List Nat), l.Nodup → (∀ i ∈ l, i < k) → l.length ≤ k := by
 intro k
 induction k with
 | zero =>
  intro l _ h
  cases l with
  | nil => simp
  | cons x l => have := h x (by simp); omega
 | succ k ih =>
  intro l hn h
  have h1 := ih (l.erase k) (hn.erase k) (fun i hi => by
   have h2 := h i (List.mem_of_mem_erase hi)
   have h3 : i ≠ k := fun e => by subst e; exact hn.not_mem_erase hi
   omega)
  have := List.length_erase (a := k) (l := l)
  split at this <;> omega
def sortI (l : List Int) : List Int := l.mergeSort fun x y => decide (x ≤ y)
theorem sortI_perm (l : List Int) : (sortI l).Perm l := List.mergeSort_perm _ _
theorem sortI_lt {l : List Int} (h : l.Nodup) : (sortI l).Pairwise (· < ·) := by
 have h1 : (sortI l).Pairwise (fun x y => decide (x ≤ y) = true) := List.pairwise_mergeSort (fun a b c h1 h2 => by simp at *; omega) (fun a b => by simp; omega) l
 have h2 : (sortI l).Nodup := (sortI_perm l).nodup_iff.2 h
 exact (h1.and h2).imp (fun {x y} h => by obtain ⟨h3, h4⟩ := h; simp at h3; omega)
def SortsI (P : Program) (W0 : World) (f : FuncId) (el : TypeId) : Prop := ∀ (nx : Nat) (H : Heap) (ob : Option (Nat × Nat)) (v : Value) (l : List Int), OwnInts H ob el v l → l.length < 1000000000000 → ACalls P W0 f [v] nx H fun r nx' H' => r = .tuple #[] ∧ nx' = nx ∧ OwnInts H' ob el v (sortI l) ∧ ∀ k, (∀ b t, ob = some (b, t) → k ≠ b) → H' k = H k
structure Picked (F : List Thg) (kind : Int) (seen : List Nat) (xs : List Int) : Prop where
 nodup : xs.Nodup
 sn : seen.Nodup
 lt : ∀ i ∈ seen, i < F.length
 told : ∀ x, x ∈ xs ↔ ∃ i ∈ seen, F[i]? = some (kind, x)
 len : xs.length ≤ seen.length
theorem Picked.nil {F : List Thg} {kind : Int} : Picked F kind [] [] := ⟨List.nodup_nil, List.nodup_nil, by simp, by simp, by simp⟩
theorem Picked.snoc {F : List Thg} {kind : Int} {seen : List Nat} {i : Nat} (h : seen.Nodup) (hl : ∀ j ∈ seen, j < F.length) (hi : i < F.length) (hs : i ∉ seen) : (seen ++ [i]).Nodup ∧ ∀ j ∈ seen ++ [i], j < F.length := by
 refine ⟨?_, fun j hj => ?_⟩
 ·rw [List.nodup_append]
  exact ⟨h, by simp, fun a ha b hb => by rw [List.mem_singleton] at hb; subst hb; exact fun e => hs (e ▸ ha)⟩
 ·rcases List.mem_append.1 hj with h | h
  ·exact hl j h
  ·rw [List.mem_singleton] at h; omega
theorem Picked.old {F : List Thg} {kind : Int} {seen : List Nat} {xs : List Int} {i : Nat} {t : Thg} (h : Picked F kind seen xs) (hi : i < F.length) (hs : i ∉ seen) (ht : F[i]? = some t) (hk : ¬ t.1 = kind) : Picked F kind (seen ++ [i]) xs := by
 obtain ⟨h1, h2⟩ := Picked.snoc (kind := kind) h.sn h.lt hi hs
 refine ⟨h.nodup, h1, h2, fun x => ?_, by rw [List.length_append]; have := h.len; omega⟩
 rw [h.told x]
 constructor
 ·rintro ⟨j, hj, he⟩; exact ⟨j, by simp [hj], he⟩
 ·rintro ⟨j, hj, he⟩
  rcases List.mem_append.1 hj with hj | hj
  ·exact ⟨j, hj, he⟩
  ·rw [List.mem_singleton] at hj; subst hj; rw [ht] at he; cases he; exact absurd rfl hk
theorem Picked.new {F : List Thg} {kind : Int} {seen : List Nat} {xs : List Int} {i : Nat} {t : Thg} (h : Picked F kind seen xs) (hF : F.Nodup) (hi : i < F.length) (hs : i ∉ seen) (ht : F[i]? = some t) (hk : t.1 = kind) : Picked F kind (seen ++ [i]) (xs ++ [t.2]) := by
 obtain ⟨h1, h2⟩ := Picked.snoc (kind := kind) h.sn h.lt hi hs
 have hte : t = (kind, t.2) := by rw [← hk]
 have hnew : t.2 ∉ xs := fun hm => by
  obtain ⟨j, hj, he⟩ := (h.told _).1 hm
  rw [← hte] at he
  have := (List.getElem?_inj (h.lt j hj) hF).1 (he.trans ht.symm)
  subst this
  exact hs hj
 refine ⟨?_, h1, h2, fun x => ?_, by rw [List.length_append, List.length_append]; have := h.len; simp; omega⟩
 ·rw [List.nodup_append]
  exact ⟨h.nodup, by simp, fun a ha b hb => by rw [List.mem_singleton] at hb; subst hb; exact fun e => hnew (e ▸ ha)⟩
 ·rw [List.mem_append, h.told x, List.mem_singleton]
  constructor
  ·rintro (⟨j, hj, he⟩ | rfl)
   ·exact ⟨j, by simp [hj], he⟩
   ·exact ⟨i, by simp, by rw [ht, ← hte]⟩
  ·rintro ⟨j, hj, he⟩
   rcases List.mem_append.1 hj with hj | hj
   ·exact .inl ⟨j, hj, he⟩
   ·rw [List.mem_singleton] at hj; subst hj; rw [ht] at he; cases he; exact .inr rfl
theorem Picked.all {F : List Thg} {kind : Int} {seen : List Nat} {xs : List Int} (h : Picked F kind seen xs) (hall : ∀ i, i < F.length → i ∈ seen) : xs.Nodup ∧ ∀ x, x ∈ xs ↔ (kind, x) ∈ F := by
 refine ⟨h.nodup, fun x => ?_⟩
 rw [h.told x]
 constructor
 ·rintro ⟨j, _, he⟩; exact List.mem_of_getElem? he
 ·intro hm
  obtain ⟨j, hj, he⟩ := List.mem_iff_getElem.1 hm
  exact ⟨j, hall j hj, by rw [List.getElem?_eq_getElem hj, he]⟩
end Go.Am
namespace Go.Proofs.YtjohiaoepbnicaaGreat
set_option linter.unusedSimpArgs false
set_option linter.unusedVariables false
open Go.RowKit Go.Am
attribute [local irreducible] aop OpsL Trip blockExit OpsD OpsK OpsR
theorem entersNumbers : Am.Enters Tryz.prog 27 := ⟨Tryz.f27, Tryz.func27, by kernel_rfl, by kernel_rfl⟩
theorem entersSlSort : Am.Enters Tryz.prog 63 := ⟨Tryz.f63, Tryz.func63, by kernel_rfl, by kernel_rfl⟩
theorem intEq (H : Heap) (x y : Int) : aEq Tryz.prog H 60 3 (.int .i64 x) (.int .i64 y) = some (decide (x = y)) := by
 have key : aEq Tryz.prog H 60 3 (.int .i64 x) (.int .i64 y) = some (x == y) := by
  cases h : (x == y) <;> simp [aEq, h, Tryz.underlying3]
 rw [key]
 congr 1
theorem findI_none (H : Heap) (k : Int) : ∀ (l : List (Value × Value)) (i : Nat), (∀ e ∈ l, ∃ y : Int, e.1 = .int .i64 y ∧ k ≠ y) → aFind Tryz.prog H 3 (.int .i64 k) l i = some none := by
 intro l
 induction l with
 | nil => intro i _; rfl
 | cons e l ih =>
  intro i h
  obtain ⟨⟨y, hy, hne⟩, h2⟩ := List.forall_mem_cons.1 h
  obtain ⟨a, b⟩ := e
  dsimp only at hy
  subst hy
  simp only [aFind, intEq, decide_eq_false hne]
  exact ih (i + 1) h2
theorem int_key (k : Int) (H : Heap) : aCheckKey Tryz.prog 60 3 (.int .i64 k) = true ∧ keyOk H (.int .i64 k) = true := ⟨by kernel_rfl, by kernel_rfl⟩
def numM (L : List Int) (i : Nat) : List (Value × Value) := (List.range i).map fun j => (.int .i64 (L.getD j 0), .int .i64 (j : Int))
theorem numM_succ (L : List Int) (i : Nat) : numM L (i + 1) = numM L i ++ [(.int .i64 (L.getD i 0), .int .i64 (i : Int))] := by
 unfold numM
 rw [List.range_succ, List.map_append]
 rfl
theorem numM_len (L : List Int) (i : Nat) : (numM L i).length = i := by simp [numM]
set_option maxRecDepth 20000 in
theorem numM_put {H : Heap} {m i : Nat} {L : List Int} (hm : H m = some (.map (numM L i) (List.range i) i)) (hL : L.Pairwise (· < ·)) (hi : i < L.length) :
  aMapUpdate Tryz.prog H 57 (.map (some m)) (.int .i64 L[i]) (.int .i64 (i : Int)) = some (.upd m (.map (numM L (i + 1)) (List.range (i + 1)) (i + 1))) := by
 obtain ⟨c1, c2⟩ := int_key L[i] H
 have hno := findI_none H L[i] (numM L i) 0 (fun e he => by
  obtain ⟨j, hj, rfl⟩ := List.mem_map.1 he
  have hj' : j < i := by simpa using hj
  refine ⟨_, rfl, ?_⟩
  have := List.pairwise_iff_getElem.1 hL j i (by omega) hi hj'
  rw [List.getD_eq_getElem?_getD, List.getElem?_eq_getElem (by omega), Option.getD_some]
  omega)
 unfold aMapUpdate
 simp only [Tryz.underlying57, hm, c1, c2, show (Tryz.prog.underlying 3).isSome = true from rfl, and_self, if_true, hno]
 rw [numM_succ, List.range_succ, List.getD_eq_getElem?_getD, List.getElem?_eq_getElem hi, Option.getD_some]
set_option maxRecDepth 20000 in
set_option maxHeartbeats 4000000 in
theorem numbersC (W0 : World) (hsort : SortsI Tryz.prog W0 63 3) {nx m : Nat} {H : Heap} {F : List Thg} {kind : Int} (hF : F.Nodup) (hl : F.length ≤ 1000000) (hm : H m = (some (.map (F.map fun t => (thV t, .agg #[])) (List.range F.length) F.length))) :
  ACalls Tryz.prog W0 27 [.map (some m), .int .i64 kind] nx H fun v nx' H' => ∃ (m2 : Nat) (L : List Int), v = .map (some m2) ∧ H' m2 = some (.map (numM L L.length) (List.range L.length) L.length) ∧ L.Pairwise (· < ·) ∧ (∀ x, x ∈ L ↔ (kind, x) ∈ F) ∧ nx ≤ m2 ∧ m2 < nx' ∧ Ext nx H nx' H' := by
 refine ACalls.by_trip (fn := Tryz.f27) (c := _) Tryz.func27 rfl (fun tm n hn0 htm => ?_)
 have q0 : tm 0 = .map (some m) := htm 0
 have q1 : tm 1 = .int .i64 kind := htm 1
 clear htm
 replace hn0 : n = 40 := hn0
 refine Trip.ok fun hok => ?_
 replace hok : ∀ id o, H id = some o → id < nx := hok
 have hmn : m < nx := hok _ _ hm
 repeat (first | (refine OpsL.q (by first | exact omv | exact oasg) ?_) | refine Trip.seq ?_ | refine Trip.ops ?_ | (refine OpsL.nil ?_; (change Trip _ _ _ _ _)))
 refine OpsL.new (by subst_vars; decide) (aop_rangeM (by simp only [ASt.ev, tmPut, ↓reduceIte, Nat.reduceEqDiff, *]; done) (by exact rfl) hm) ?_
 have ok1 := ok_new (o := .miter (some m) F.length [] F.length) hok
 have hx1 : Ext nx H (nx + 1) (H.put nx (.miter (some m) F.length [] F.length)) := Ext.newPut
 have hi1 : (H.put nx (.miter (some m) F.length [] F.length)) nx = some (.miter (some m) F.length [] F.length) := Heap.put_eq
 generalize H.put nx (.miter (some m) F.length [] F.length) = H1 at *
 repeat (first | refine Trip.block ?_ | (refine OpsL.nil ?_; (change Trip _ _ _ _ _)))
 refine Trip.inv (fun (seen : List Nat) st => ∃ (tm' : Nat → Value) (nx' : Nat) (H' : Heap) (ob : Option (Nat × Nat)) (v : Value) (xs : List Int), st = ⟨tm', n, H', nx'⟩ ∧ Ext nx H nx' H' ∧ nx + 1 ≤ nx' ∧ H' nx = some (.miter (some m) F.length seen F.length) ∧ OwnInts H' ob 3 v xs ∧ (∀ b t, ob = some (b, t) → nx + 1 ≤ b ∧ b < nx') ∧ Picked F kind seen xs ∧ tm' 1 = .int .i64 kind ∧ tm' 5 = v ∧ tm' 11 = .pointer (some ⟨nx, 0, none⟩)) (fun seen => F.length - seen.length) [] ?_ ?_
 ·exact ⟨_, _, _, none, _, [], rfl, hx1, by omega, hi1, ⟨rfl, rfl, rfl⟩, fun _ _ h => (by cases h), Picked.nil, by simp [tmPut, *], by simp [tmPut, *], by simp [tmPut, *]⟩
 ·clear q0 q1 hi1 ok1 hx1
  rintro seen st ⟨tm, nx', H', ob, v, xs, rfl, hext, hle, hit, hown, hob, hP, q1, q5, q11⟩
  refine Trip.ok fun hok' => ?_
  replace hok' : ∀ id o, H' id = some o → id < nx' := hok'
  have hm' : H' m = (some (.map (F.map fun t => (thV t, .agg #[])) (List.range F.length) F.length)) := (hext.2 m hmn).trans hm
  obtain ⟨rs, hn, hcs⟩ := nexts_told hit hm' (by simp)
  refine Trip.seq ?_
  refine Trip.nexts rfl (by subst_vars; decide) (by simp only [ASt.ev, tmPut, ↓reduceIte, Nat.reduceEqDiff, *]; done) hn ?_
  intro x hx
  rcases hcs x hx with ⟨rfl, hall⟩ | ⟨i, key, val, hik, his, he, rfl⟩
  ·clear hcs hx hn
   obtain ⟨hnd, hmem⟩ := hP.all hall
   have hxl : xs.length ≤ F.length := by have := hP.len; have := nodup_lt _ _ hP.sn hP.lt; omega
   have hLs := sortI_lt hnd
   have hLl : (sortI xs).length ≤ 1000000 := by rw [(sortI_perm xs).length_eq]; omega
   have hLm : ∀ x, x ∈ sortI xs ↔ (kind, x) ∈ F := fun x => ((sortI_perm xs).mem_iff).trans (hmem x)
   change OpsL _ _ _ _ ⟨tmPut tm (some 12) (.tuple #[.bool false]), n, H', nx'⟩ _
   refine OpsL.q (v := .bool false) (aop_extract (by simp only [ASt.ev, tmPut, ↓reduceIte, Nat.reduceEqDiff, *]; rfl) (by exact rfl)) ?_
   repeat (first | refine Trip.seq ?_ | (refine OpsL.nil ?_; (change Trip _ _ _ _ _)))
   refine Trip.ifF ?_
   repeat (first | refine OpsL.q (by exact omv) ?_ | refine Trip.seq ?_ | refine Trip.ops ?_ | (refine Trip.exit ?_; ((repeat (refine blockExit_eq ?_)); change Trip _ _ _ _ _)))
   refine OpsL.c1 (hf := entersSlSort) (hc := (hsort nx' H' ob v xs hown (by omega))) (h := ?_)
   rintro r nx2 H2 ⟨rfl, rfl, hown2, hsame⟩
   have ok2 : ∀ id o, H2 id = some o → id < nx2 := fun id o h => by
    by_cases hb : ∃ t, ob = some (id, t)
    ·obtain ⟨t, hb⟩ := hb; exact (hob _ _ hb).2
    ·rw [hsame id (fun b t h e => hb ⟨t, by rw [h, e]⟩)] at h; exact hok' _ _ h
   generalize sortI xs = L at *
   repeat (first | refine Trip.seq ?_ | refine Trip.ops ?_ | (refine OpsL.nil ?_; (change Trip _ _ _ _ _)))
   refine OpsL.new (by subst_vars; decide) aop_makeMap3 ?_
   have gm : (H2.put nx2 (.map [] [] 0)) nx2 = some (.map [] [] 0) := Heap.put_eq
   have hG : ∀ j, j ≠ nx2 → (H2.put nx2 (.map [] [] 0)) j = H2 j := fun j hj => Heap.put_ne hj
   generalize H2.put nx2 (.map [] [] 0) = G at *
   have hownG : ∀ HH : Heap, (∀ j, j ≠ nx2 → HH j = H2 j) → OwnInts HH ob 3 v L := fun HH h => OwnRow.same (fun b t hb => h b (by have := hob b t hb; omega)) hown2
   obtain ⟨va, vc, rfl⟩ := (hownG G hG).at.slice
   repeat (first | (refine OpsL.q (by first | exact omv | exact oasg | exact olen) ?_) | refine Trip.seq ?_ | refine Trip.ops ?_ | refine Trip.block ?_ | (refine OpsL.nil ?_; (change Trip _ _ _ _ _)))
   refine Trip.inv (fun (i : Nat) st => ∃ (tm' : Nat → Value) (H' : Heap), st = ⟨tm', n, H', nx2 + 1⟩ ∧ (∀ j, j ≠ nx2 → H' j = H2 j) ∧ H' nx2 = some (.map (numM L i) (List.range i) i) ∧ tm' 7 = .map (some nx2) ∧ tm' 28 = .slice va L.length vc ∧ tm' 29 = .int .i64 L.length ∧ tm' 30 = .int .i64 i ∧ i ≤ L.length) (fun i => L.length - i) 0 ?_ ?_
   ·exact ⟨_, _, rfl, hG, gm, by simp [tmPut, *], by simp [tmPut, *], by simp [tmPut, *], by simp [tmPut, *], Nat.zero_le _⟩
   ·clear q1 q5 q11 gm hG
    rintro i st ⟨tm, H5, rfl, hfr, hmp, q7, q28, q29, q30, hi⟩
    by_cases hlt : i < L.length
    ·obtain ⟨p, rfl, hc⟩ := (hownG H5 hfr).at.get hlt
     have hput := numM_put hmp hLs hlt
     replace hc : cellAt H5 ⟨p.block, p.off + (i : Int).toNat * 1, p.spot⟩ (.int .i64 L[i]) := by simpa using hc
     generalize L[i] = y at *
     repeat (first | refine Trip.seq ?_ | refine Trip.ops ?_)
     refine OpsL.lssT ?_
     repeat (first | refine Trip.seq ?_ | (refine OpsL.nil ?_; (change Trip _ _ _ _ _)))
     refine Trip.ifT ?_
     repeat (first | (refine OpsL.q (by first | exact omv | exact oasg | exact oixa | exact old) ?_) | refine Trip.seq ?_ | refine Trip.ops ?_ | refine Trip.block ?_ | (refine Trip.skip ?_; (change Trip _ _ _ _ _)) | (refine OpsL.nil ?_; (change Trip _ _ _ _ _)))
     refine OpsL.upd (aop_mapUpdate3 (by simp only [ASt.ev, tmPut, ↓reduceIte, Nat.reduceEqDiff, *]; done) (by simp only [ASt.ev, tmPut, ↓reduceIte, Nat.reduceEqDiff, *]; done) (by simp only [ASt.ev, tmPut, ↓reduceIte, Nat.reduceEqDiff, *]; done) hput) ?_
     repeat (first | (refine OpsL.q (by first | exact omv | exact oadd) ?_) | refine Trip.ops ?_ | (refine OpsL.nil ?_; ((repeat (refine blockExit_normal ?_)); first | (change Trip _ _ _ _ _) | (dsimp only))))
     exact ⟨i + 1, ⟨_, _, rfl, fun j hj => by rw [Heap.put_ne hj]; exact hfr j hj, Heap.put_eq, by simp [tmPut, *], by simp [tmPut, *], by simp [tmPut, *], by simp [tmPut, *], by omega⟩, by omega⟩
    ·obtain rfl : i = L.length := by omega
     repeat (first | refine Trip.seq ?_ | refine Trip.ops ?_)
     refine OpsL.lssF ?_
     repeat (first | refine Trip.seq ?_ | (refine OpsL.nil ?_; (change Trip _ _ _ _ _)))
     refine Trip.ifF ?_
     repeat (first | (refine OpsL.q (by first | exact omv | exact oasg) ?_) | refine Trip.seq ?_ | refine Trip.ops ?_ | (refine Trip.exit ?_; ((repeat (refine blockExit_eq ?_)); change Trip _ _ _ _ _)) | (refine Trip.ret ?_; (dsimp only)) | (refine OpsL.nil ?_; (change Trip _ _ _ _ _)))
     refine ⟨.inr rfl, _, res_tmp, nx2, L, by simp [tmPut, *], hmp, hLs, hLm, by omega, by omega, by omega, fun j hj => ?_⟩
     rw [hfr j (by omega), hsame j (fun b t hb => by have := hob b t hb; omega), hext.2 j hj]
  ·clear hcs hx hn
   obtain ⟨t, ht, hkv⟩ : ∃ t, F[i]? = some t ∧ (thV t, Value.agg #[]) = (key, val) := by
    rw [List.getElem?_map] at he
    cases hF : F[i]? with
    | none => rw [hF] at he; cases he
    | some t => rw [hF] at he; exact ⟨t, rfl, by simpa using he⟩
   cases hkv
   obtain ⟨hn2, hl2⟩ := Picked.snoc (kind := kind) hP.sn hP.lt hik his
   have hsl := nodup_lt _ _ hn2 hl2
   rw [List.length_append, List.length_singleton] at hsl
   have hxl := hP.len
   change OpsL _ _ _ _ ⟨tmPut tm (some 12) (.tuple #[.bool true, thV t, .agg #[]]), n, H'.put nx (.miter (some m) F.length (seen ++ [i]) F.length), nx'⟩ _
   have hH2 : ∀ j, j ≠ nx → (H'.put nx (.miter (some m) F.length (seen ++ [i]) F.length)) j = H' j := fun j hj => Heap.put_ne hj
   have hit2 : (H'.put nx (.miter (some m) F.length (seen ++ [i]) F.length)) nx = some (.miter (some m) F.length (seen ++ [i]) F.length) := Heap.put_eq
   have ok2 := ok_put3 (o := .miter (some m) F.length (seen ++ [i]) F.length) hok' hit
   generalize H'.put nx (.miter (some m) F.length (seen ++ [i]) F.length) = H2 at *
   refine OpsL.q (v := .bool true) (aop_extract (by simp only [ASt.ev, tmPut, ↓reduceIte, Nat.reduceEqDiff, *]; rfl) (by exact rfl)) ?_
   repeat (first | refine Trip.seq ?_ | (refine OpsL.nil ?_; (change Trip _ _ _ _ _)))
   refine Trip.ifT ?_
   repeat (first | refine Trip.seq ?_ | refine Trip.ops ?_ | refine Trip.block ?_ | (refine Trip.skip ?_; (change Trip _ _ _ _ _)))
   refine OpsL.q (aop_entry (by simp only [ASt.ev, tmPut, ↓reduceIte, Nat.reduceEqDiff, *]; done) (entry_told hit2 ((hH2 m (by omega)).trans hm') hik (he : (F.map fun t => (thV t, Value.agg #[]))[i]? = _))) ?_
   refine OpsL.q (v := thV t) (aop_extract (by simp only [ASt.ev, tmPut, ↓reduceIte, Nat.reduceEqDiff, *]; rfl) (by exact rfl)) ?_
   refine OpsL.new (by subst_vars; decide) (aop_alloc (l := (rep 2 [.int .i64 0])) (by kernel_rfl)) ?_
   refine OpsL.upd (aop_store (k := 2) (u := thV t) (by simp only [ASt.ev, tmPut, ↓reduceIte, Nat.reduceEqDiff, *]; done) (by simp only [ASt.ev, tmPut, ↓reduceIte, Nat.reduceEqDiff, *]; done) (by exact rfl) rfl (o := .cells (encT t) 0 none false (some 102)) (setc_allN (vs := (encT t)) Heap.put_eq rfl rfl)) ?_
   obtain ⟨G5, hG5⟩ : ∃ G0, G0 = (H2.put nx' (.cells (rep 2 [.int .i64 0]) 0 none false (some 102))).put nx' (.cells (encT t) 0 none false (some 102)) := ⟨_, rfl⟩
   have xG5 : Ext nx' H2 (nx' + 1) G5 := ⟨Nat.le_succ _, fun j hj => by rw [hG5, Heap.put_ne (by omega), Heap.put_ne (by omega)]⟩
   have kG5 : ∀ id o, G5 id = some o → id < nx' + 1 := by rw [hG5]; exact ok_put3 (ok_new ok2) Heap.put_eq
   have bG5 : G5 nx' = some (.cells (encT t) 0 none false (some 102)) := by rw [hG5, Heap.put_eq]
   first | rw [← hG5] | skip
   clear hG5
   have c0 : cellAt G5 ⟨nx', 0, none⟩ (.int .i64 t.1) := by exact cell_of bG5 rfl
   have c1 : cellAt G5 ⟨nx', 0 + 1, none⟩ (.int .i64 t.2) := by rw [Nat.zero_add]; exact cell_of bG5 rfl
   have hit5 := (xG5.2 nx (by omega)).trans hit2
   have hown5 : OwnInts G5 ob 3 v xs := OwnRow.same (fun b t hb => by rw [xG5.2 b (hob b t hb).2, hH2 b (by have := hob b t hb; omega)]) hown
   have hext5 : Ext nx H (nx' + 1) G5 := ⟨by omega, fun j hj => by rw [xG5.2 j (by omega), hH2 j (by omega), hext.2 j hj]⟩
   repeat (first | (refine OpsL.q (by first | exact omv | exact oeql | exact ofa | exact old) ?_) | refine Trip.seq ?_ | refine Trip.ops ?_ | refine Trip.itA (fun _ => ?_) (fun _ => ?_) | (refine OpsL.nil ?_; (change Trip _ _ _ _ _)))
   ·rename_i hk
    refine OpsL.appendI (by subst_vars; decide) (by subst_vars; decide) (by simp only [ASt.ev, tmPut, ↓reduceIte, Nat.reduceEqDiff, *]; rfl) (by decide) (by (simp only [tmPut, ↓reduceIte, reduceIte, Option.some.injEq, Nat.reduceEqDiff, *])) hown5 (fun b t hb => Nat.lt_succ_of_lt (hob b t hb).2) (by exact rfl) (by exact rfl) (by exact rfl) (by exact rfl) (by omega) ?_
    rintro v6 ob6 H6 hown6 ⟨b6, rfl, hb6⟩ hs6
    have hbb : nx + 1 ≤ b6 ∧ b6 < nx' + 1 + 1 + 1 := by
     rcases hb6 with rfl | ⟨t6, hb6⟩
     ·exact ⟨by omega, by omega⟩
     ·have := hob _ _ hb6; exact ⟨by omega, by omega⟩
    have hit6 := (hs6 nx (by omega) (fun b t hb => by have := (hob b t hb).1; omega)).trans hit5
    have hext6 : Ext nx H (nx' + 1 + 1 + 1) H6 := ⟨by omega, fun j hj => by rw [hs6 j (by omega) (fun b t hb => by have := (hob b t hb).1; omega)]; exact hext5.2 j hj⟩
    have hP6 := hP.new hF hik his ht hk
    repeat (first | refine OpsL.q (by exact oasg) ?_ | (refine OpsL.nil ?_; ((repeat (refine blockExit_normal ?_)); dsimp only)))
    refine ⟨seen ++ [i], ⟨_, _, _, some (b6, nx' + 1 + 1), v6, _, rfl, hext6, by omega, hit6, hown6, fun b' t' h => by cases h; exact hbb, hP6, by simp [tmPut, *], by simp [tmPut, *], by simp [tmPut, *]⟩, by show F.length - (seen ++ [i]).length < F.length - seen.length; rw [List.length_append, List.length_singleton]; omega⟩
   ·rename_i hk
    have hP6 := hP.old hik his ht hk
    repeat (first | (refine Trip.skip ?_; ((repeat (refine blockExit_normal ?_)); dsimp only)))
    exact ⟨seen ++ [i], ⟨_, _, _, ob, v, xs, rfl, hext5, by omega, hit5, hown5, fun b' t' h => by have := hob _ _ h; omega, hP6, by simp [tmPut, *], by simp [tmPut, *], by simp [tmPut, *]⟩, by show F.length - (seen ++ [i]).length < F.length - seen.length; rw [List.length_append, List.length_singleton]; omega⟩
end Go.Proofs.YtjohiaoepbnicaaGreat
namespace Go.Proofs.YtjohiaoepbnicaaGreat
set_option linter.unusedSimpArgs false
set_option linter.unusedVariables false
open Go.RowKit Go.Am
attribute [local irreducible] aop OpsL Trip blockExit OpsD OpsK OpsR
def posI : List Int → Int → Nat → Option Nat
 | [], _, _ => none
 | y :: l, k, i => if k = y then some i else posI l k (i + 1)
def numG : List Int → Nat → List (Value × Value)
 | [], _ => []
 | y :: l, i => (.int .i64 y, .int .i64 (i : Int)) :: numG l (i + 1)
theorem numG_get : ∀ (l : List Int) (i j : Nat), (numG l i)[j]? = (l[j]?).map fun y => ((.int .i64 y, .int .i64 ((i + j : Nat) : Int)) : Value × Value) := by
 intro l
 induction l with
 | nil => intro i j; simp [numG]
 | cons y l ih =>
  intro i j
  cases j with
  | zero => simp [numG]
  | succ j =>
   simp only [numG, List.getElem?_cons_succ, ih, show i + 1 + j = i + (j + 1) by omega]
theorem numG_eq (L : List Int) : numM L L.length = numG L 0 := by
 apply List.ext_getElem?
 intro j
 rw [numG_get]
 unfold numM
 rw [List.getElem?_map]
 by_cases h : j < L.length
 ·rw [List.getElem?_eq_getElem (by simpa using h), List.getElem_range, List.getElem?_eq_getElem h]
  simp only [Option.map_some, List.getD_eq_getElem?_getD, List.getElem?_eq_getElem h, Option.getD_some, Nat.zero_add]
 ·rw [List.getElem?_eq_none (by simpa using Nat.le_of_not_lt h), List.getElem?_eq_none (Nat.le_of_not_lt h)]
  rfl
theorem posI_find (H : Heap) (k : Int) : ∀ (l : List Int) (i j : Nat), aFind Tryz.prog H 3 (.int .i64 k) (numG l i) j = some ((posI l k i).map fun p => (j + (p - i), Value.int .i64 (p : Int))) ∧ ∀ p, posI l k i = some p → i ≤ p := by
 intro l
 induction l with
 | nil => intro i j; exact ⟨rfl, fun p h => by cases h⟩
 | cons y l ih =>
  intro i j
  by_cases hk : k = y
  ·subst hk
   refine ⟨?_, fun p h => by simp [posI] at h; omega⟩
   simp only [numG, aFind, intEq, decide_true, posI, if_true, Option.map_some, Nat.sub_self, Nat.add_zero]
  ·obtain ⟨h1, h2⟩ := ih (i + 1) (j + 1)
   refine ⟨?_, fun p h => by simp only [posI, hk, if_false] at h; have := h2 p h; omega⟩
   simp only [numG, aFind, intEq, posI, hk, if_false, decide_false, h1]
   cases hp : posI l k (i + 1) with
   | none => rfl
   | some p =>
    have := h2 p hp
    simp only [Option.map_some, show j + 1 + (p - (i + 1)) = j + (p - i) by omega]
def NumAt (H : Heap) (v : Value) (L : List Int) : Prop := ∃ m, v = .map (some m) ∧ H m = some (.map (numM L L.length) (List.range L.length) L.length)
theorem NumAt.ext {nx nx' : Nat} {H H' : Heap} {v : Value} {L : List Int} (h : NumAt H v L) (hx : Ext nx H nx' H') (hok : ∀ id o, H id = some o → id < nx) : NumAt H' v L := by
 obtain ⟨m, h1, h2⟩ := h
 exact ⟨m, h1, by rw [hx.2 m (hok _ _ h2)]; exact h2⟩
def numO (L : List Int) (n : Int) : Option Int := (posI L n 0).map fun p => (p : Int)
set_option maxRecDepth 20000 in
theorem NumAt.told {H : Heap} {v : Value} {L : List Int} (h : NumAt H v L) (n : Int) : aLookup Tryz.prog H 57 v (.int .i64 n) true = some (.tuple #[.int .i64 ((numO L n).getD 0), .bool (numO L n).isSome]) := by
 obtain ⟨m, rfl, hm⟩ := h
 have hmo : mapOf H (.map (some m)) = some (numM L L.length) := by simp only [mapOf, hm]
 obtain ⟨c1, _⟩ := int_key n H
 unfold aLookup
 simp only [Tryz.underlying57, hmo, show zeroV Tryz.prog 3 = some (.int .i64 0) from rfl, c1, show (Tryz.prog.underlying 3).isSome = true from rfl, and_self, if_true, numG_eq, (posI_find H n L 0 0).1, numO]
 cases posI L n 0 <;> rfl
set_option maxRecDepth 20000 in
theorem NumAt.told1 {H : Heap} {v : Value} {L : List Int} (h : NumAt H v L) (n : Int) : aLookup Tryz.prog H 57 v (.int .i64 n) false = some (.int .i64 ((numO L n).getD 0)) := by
 obtain ⟨m, rfl, hm⟩ := h
 have hmo : mapOf H (.map (some m)) = some (numM L L.length) := by simp only [mapOf, hm]
 obtain ⟨c1, _⟩ := int_key n H
 unfold aLookup
 simp only [Tryz.underlying57, hmo, show zeroV Tryz.prog 3 = some (.int .i64 0) from rfl, c1, show (Tryz.prog.underlying 3).isSome = true from rfl, and_self, if_true, numG_eq, (posI_find H n L 0 0).1, numO]
 cases posI L n 0 <;> rfl
def keptF (L l : List Int) : List Int := l.filterMap (numO L)
theorem keptF_snoc (L : List Int) {l : List Int} {i : Nat} (h : i < l.length) : keptF L (l.take (i + 1)) = keptF L (l.take i) ++ (numO L l[i]).toList := by
 unfold keptF
 rw [List.take_succ_eq_append_getElem h, List.filterMap_append]
 congr 1
theorem entersKept : Am.Enters Tryz.prog 28 := ⟨Tryz.f28, Tryz.func28, by kernel_rfl, by kernel_rfl⟩
set_option maxRecDepth 20000 in
set_option maxHeartbeats 4000000 in
theorem keptC (W0 : World) {nx : Nat} {H : Heap} {u v : Value} {L l : List Int} (hl : IntsAt H u l) (hll : l.length ≤ 1000000) (hv : NumAt H v L) :
  ACalls Tryz.prog W0 28 [u, v] nx H fun r nx' H' => ∃ ob, OwnInts H' ob 3 r (keptF L l) ∧ (∀ b t, ob = some (b, t) → nx ≤ b ∧ b < nx') ∧ Ext nx H nx' H' := by
 refine ACalls.by_trip (fn := Tryz.f28) (c := _) Tryz.func28 rfl (fun tm n hn0 htm => ?_)
 have q0 : tm 0 = u := htm 0
 have q1 : tm 1 = v := htm 1
 clear htm
 replace hn0 : n = 29 := hn0
 refine Trip.ok fun hok => ?_
 replace hok : ∀ id o, H id = some o → id < nx := hok
 obtain ⟨ua, uc, rfl⟩ := hl.slice
 repeat (first | (refine OpsL.q (by first | exact omv | exact oasg | exact olen) ?_) | refine Trip.seq ?_ | refine Trip.ops ?_ | refine Trip.block ?_ | (refine OpsL.nil ?_; (change Trip _ _ _ _ _)))
 refine Trip.inv (fun (i : Nat) st => ∃ (tm' : Nat → Value) (nx' : Nat) (H' : Heap) (ob : Option (Nat × Nat)) (r : Value), st = ⟨tm', n, H', nx'⟩ ∧ Ext nx H nx' H' ∧ OwnInts H' ob 3 r (keptF L (l.take i)) ∧ (∀ b t, ob = some (b, t) → nx ≤ b ∧ b < nx') ∧ tm' 1 = v ∧ tm' 5 = r ∧ tm' 10 = .slice ua l.length uc ∧ tm' 11 = .int .i64 l.length ∧ tm' 12 = .int .i64 i ∧ i ≤ l.length) (fun i => l.length - i) 0 ?_ ?_
 ·exact ⟨_, _, _, none, _, rfl, Ext.refl, ⟨rfl, rfl, rfl⟩, fun _ _ h => (by cases h), by simp [tmPut, *], by simp [tmPut, *], by simp [tmPut, *], by simp [tmPut, *], by simp [tmPut, *], Nat.zero_le _⟩
 ·clear q0 q1
  rintro i st ⟨tm, nx', H', ob, r, rfl, hext, hown, hob, q1, q5, q10, q11, q12, hi⟩
  refine Trip.ok fun hok' => ?_
  replace hok' : ∀ id o, H' id = some o → id < nx' := hok'
  have hle := hext.1
  have hkl : (keptF L (l.take i)).length ≤ l.length := by
   have h1 : (keptF L (l.take i)).length ≤ (l.take i).length := List.length_filterMap_le _ _
   rw [List.length_take] at h1
   omega
  by_cases hlt : i < l.length
  ·obtain ⟨p, rfl, hc⟩ := hl.get hlt
   have hkt := (hv.ext hext hok).told l[i]
   have hks := keptF_snoc L hlt
   replace hc : cellAt H' ⟨p.block, p.off + (i : Int).toNat * 1, p.spot⟩ (.int .i64 l[i]) := by
    have := getc_ext hext hok hc
    simpa [cellAt] using this
   generalize l[i] = y at *
   repeat (first | refine Trip.seq ?_ | refine Trip.ops ?_)
   refine OpsL.lssT ?_
   repeat (first | refine Trip.seq ?_ | (refine OpsL.nil ?_; (change Trip _ _ _ _ _)))
   refine Trip.ifT ?_
   repeat (first | (refine OpsL.q (by first | exact omv | exact oasg | exact oixa | exact old) ?_) | refine Trip.seq ?_ | refine Trip.ops ?_ | refine Trip.block ?_ | (refine Trip.skip ?_; (change Trip _ _ _ _ _)) | (refine OpsL.nil ?_; (change Trip _ _ _ _ _)))
   refine OpsL.q (aop_lookup3 (by simp only [ASt.ev, tmPut, ↓reduceIte, Nat.reduceEqDiff, *]; done) (by simp only [ASt.ev, tmPut, ↓reduceIte, Nat.reduceEqDiff, *]; done) hkt) ?_
   cases hy : numO L y with
   | none =>
    rw [hy, Option.toList_none, List.append_nil] at hks
    simp only [Option.getD_none, Option.isSome_none]
    repeat (refine OpsL.q (by exact omv) ?_)
    refine OpsL.q (v := .int .i64 0) (aop_extract (by simp only [ASt.ev, tmPut, ↓reduceIte, Nat.reduceEqDiff, *]; rfl) (by exact rfl)) ?_
    refine OpsL.q (v := .bool false) (aop_extract (by simp only [ASt.ev, tmPut, ↓reduceIte, Nat.reduceEqDiff, *]; rfl) (by exact rfl)) ?_
    repeat (first | (refine OpsL.q (by first | exact omv | exact oasg) ?_) | refine Trip.seq ?_ | refine Trip.ops ?_ | (refine OpsL.nil ?_; (change Trip _ _ _ _ _)))
    refine Trip.ifF ?_
    repeat (first | (refine OpsL.q (by first | exact omv | exact oadd) ?_) | refine Trip.ops ?_ | (refine Trip.skip ?_; ((repeat (refine blockExit_normal ?_)); change Trip _ _ _ _ _)) | (refine OpsL.nil ?_; (dsimp only)))
    exact ⟨i + 1, ⟨_, _, _, ob, r, rfl, hext, by rw [hks]; exact hown, hob, by simp [tmPut, *], by simp [tmPut, *], by simp [tmPut, *], by simp [tmPut, *], by simp [tmPut, *], by omega⟩, by omega⟩
   | some z =>
    rw [hy, Option.toList_some] at hks
    simp only [Option.getD_some, Option.isSome_some]
    repeat (refine OpsL.q (by exact omv) ?_)
    refine OpsL.q (v := .int .i64 z) (aop_extract (by simp only [ASt.ev, tmPut, ↓reduceIte, Nat.reduceEqDiff, *]; rfl) (by exact rfl)) ?_
    refine OpsL.q (v := .bool true) (aop_extract (by simp only [ASt.ev, tmPut, ↓reduceIte, Nat.reduceEqDiff, *]; rfl) (by exact rfl)) ?_
    repeat (first | (refine OpsL.q (by first | exact omv | exact oasg) ?_) | refine Trip.seq ?_ | refine Trip.ops ?_ | (refine OpsL.nil ?_; (change Trip _ _ _ _ _)))
    refine Trip.ifT ?_
    repeat (first | refine OpsL.q (by exact omv) ?_ | refine Trip.ops ?_)
    refine OpsL.appendI (by subst_vars; decide) (by subst_vars; decide) (by simp only [ASt.ev, tmPut, ↓reduceIte, Nat.reduceEqDiff, *]; rfl) (by decide) (by (simp only [tmPut, ↓reduceIte, reduceIte, Option.some.injEq, Nat.reduceEqDiff, *])) hown (fun b t hb => (hob b t hb).2) (by exact rfl) (by exact rfl) (by exact rfl) (by exact rfl) (by omega) ?_
    rintro v6 ob6 H6 hown6 ⟨b6, rfl, hb6⟩ hs6
    have hbb : nx ≤ b6 ∧ b6 < nx' + 1 + 1 := by
     rcases hb6 with rfl | ⟨t6, hb6⟩
     ·exact ⟨by omega, by omega⟩
     ·have := hob _ _ hb6; exact ⟨by omega, by omega⟩
    have hext6 : Ext nx H (nx' + 1 + 1) H6 := ⟨by omega, fun j hj => by rw [hs6 j (by omega) (fun b t hb => by have := (hob b t hb).1; omega)]; exact hext.2 j hj⟩
    repeat (first | (refine OpsL.q (by first | exact omv | exact oasg | exact oadd) ?_) | refine Trip.ops ?_ | (refine OpsL.nil ?_; ((repeat (refine blockExit_normal ?_)); first | (change Trip _ _ _ _ _) | (dsimp only))))
    exact ⟨i + 1, ⟨_, _, _, some (b6, nx' + 1), v6, rfl, hext6, by rw [hks]; exact hown6, fun b' t' h => by cases h; exact hbb, by simp [tmPut, *], by simp [tmPut, *], by simp [tmPut, *], by simp [tmPut, *], by simp [tmPut, *], by omega⟩, by omega⟩
  ·have hin : i = l.length := by omega
   subst hin
   rw [List.take_length] at hown
   repeat (first | refine Trip.seq ?_ | refine Trip.ops ?_)
   refine OpsL.lssF ?_
   repeat (first | refine Trip.seq ?_ | (refine OpsL.nil ?_; (change Trip _ _ _ _ _)))
   refine Trip.ifF ?_
   repeat (first | (refine OpsL.q (by first | exact omv | exact oasg) ?_) | refine Trip.seq ?_ | refine Trip.ops ?_ | (refine Trip.exit ?_; ((repeat (refine blockExit_eq ?_)); change Trip _ _ _ _ _)) | (refine Trip.ret ?_; (dsimp only)) | (refine OpsL.nil ?_; (change Trip _ _ _ _ _)))
   exact ⟨.inr rfl, _, res_tmp, ob, by simp [tmPut, *], hob, hext⟩
end Go.Proofs.YtjohiaoepbnicaaGreat
namespace Go.Proofs.YtjohiaoepbnicaaGreat
set_option linter.unusedSimpArgs false
set_option linter.unusedVariables false
open Go.RowKit Go.Am
theorem nodup_sub {α : Type} [DecidableEq α] : ∀ (l m : List α), l.Nodup → (∀ x ∈ l, x ∈ m) → l.length ≤ m.length := by
 intro l
 induction l with
 | nil => intro m _ _; simp
 | cons x l ih =>
  intro m hn h
  obtain ⟨h1, h2⟩ := List.nodup_cons.1 hn
  have hx := h x (by simp)
  have := ih (m.erase x) h2 (fun y hy => by
   have hne : y ≠ x := fun e => h1 (e ▸ hy)
   exact (List.mem_erase_of_ne hne).2 (h y (by simp [hy])))
  rw [List.length_erase_of_mem hx] at this
  have := List.length_pos_of_mem hx
  simp only [List.length_cons]
  omega
theorem reach_univ {a : Aut} {t : Thg} (h : ReachT a t) : t ∈ univ a := by
 cases h with
 | bot => simp [univ]
 | init hs => simp only [univ, List.mem_append, List.mem_cons, List.mem_map]; exact .inl (.inr ⟨_, hs, rfl⟩)
 | step hm _ ht => simp only [univ, List.mem_append, List.mem_flatMap]; exact .inr ⟨_, hm, ht⟩
theorem univ_len {a : Aut} (hn : AutLen a) : (univ a).length ≤ 10000 := by
 have h1 := movesA_len hn
 have h2 := hn.init
 have h3 : ∀ l : List R4, (l.flatMap givesT).length = 2 * l.length := fun l => by
  induction l with
  | nil => rfl
  | cons x l ih => simp only [List.flatMap_cons, List.length_append, ih, List.length_cons]; have : (givesT x).length = 2 := rfl; omega
 simp only [univ, List.length_append, List.length_cons, List.length_map, h3]
 omega
theorem found_len {a : Aut} {F : List Thg} (hn : AutLen a) (hF : F.Nodup) (hr : ∀ t, t ∈ F ↔ ReachT a t) : F.length ≤ 10000 :=
 Nat.le_trans (nodup_sub F (univ a) hF fun t ht => reach_univ ((hr t).1 ht)) (univ_len hn)
def trimO (L0 L1 : List Int) (r : R4) : Option R4 := (numO L0 r.1).map fun f => (f, r.2.1, (numO L0 r.2.2.1).getD 0, (numO L1 r.2.2.2).getD 0)
def trimC (L0 L1 : List Int) (r : R4) : Option R4 := (numO L0 r.1).bind fun f => (numO L1 r.2.2.1).map fun t => (f, r.2.1, t, (numO L0 r.2.2.2).getD 0)
def trimN (L0 : List Int) (r : R3) : Option R3 := (numO L0 r.1).map fun f => (f, r.2.1, (numO L0 r.2.2).getD 0)
def trimB (a : Aut) (L0 L1 : List Int) : Aut := ⟨L0.length, (L1.length : Int) - 1, keptF L0 a.init, keptF L0 a.final, a.opens.filterMap (trimO L0 L1), a.closes.filterMap (trimC L0 L1), a.inners.filterMap (trimN L0)⟩
def NumsOf (a : Aut) (kind : Int) (L : List Int) : Prop := L.Pairwise (· < ·) ∧ ∀ x, x ∈ L ↔ ReachT a (kind, x)
theorem nums_len {a : Aut} {kind : Int} {L : List Int} (hn : AutLen a) (h : NumsOf a kind L) : L.length ≤ 10000 := by
 have h1 : (L.map fun x => ((kind, x) : Thg)).Nodup := by
  rw [List.nodup_iff_pairwise_ne, List.pairwise_map]
  exact h.1.imp fun {x y} hlt e => by cases e; omega
 have := nodup_sub _ (univ a) h1 (fun t ht => by
  obtain ⟨x, hx, rfl⟩ := List.mem_map.1 ht
  exact reach_univ ((h.2 x).1 hx))
 rw [List.length_map] at this
 exact Nat.le_trans this (univ_len hn)
theorem filterMap_snoc {α β : Type} (f : α → Option β) {l : List α} {i : Nat} (h : i < l.length) : (l.take (i + 1)).filterMap f = (l.take i).filterMap f ++ (f l[i]).toList := by
 rw [List.take_succ_eq_append_getElem h, List.filterMap_append]
 congr 1
section
variable {P : Program} {H : Heap} {nx : Nat} {ev : Operand → Option Value} {dst : Option Tmp} {type : TypeId} {pos : String} {after : Array Edge} {guard : Option (Nat × Bool)}
theorem aop_lenM {t k e : TypeId} {x : Operand} {m : Nat} {es : List (Value × Value)} {bs : List Nat} {clk : Nat} (hx : ev x = some (.map (some m))) (hu : P.underlying t = some (.map k e)) (hm : H m = some (.map es bs clk)) :
  aop P H nx ev ⟨dst, .call ⟨.builtin .len, #[x], #[t]⟩, type, pos, after, guard⟩ = some (.int .i64 es.length, .none) := by simp [aop, hx, evAll, aBuiltin, aLen, hu, mapOf, hm]
end
end Go.Proofs.YtjohiaoepbnicaaGreat
