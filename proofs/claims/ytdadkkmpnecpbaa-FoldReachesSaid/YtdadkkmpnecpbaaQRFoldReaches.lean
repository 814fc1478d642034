/-
  The law FoldReaches of chapter 13 holds for all numbers: each state that a word leads to is reached; what is not can't be told from what is not there.
  Conditions: none beyond the row's own.
-/
import Derived.Test.YtdadkkmpnecpbaaRows
import Derived.Test.YtdadkkmpnecpbaaQRM17
import Derived.Test.YtdadkkmpnecpbaaQRM49
namespace Go.Am
set_option linter.unusedSimpArgs false
set_option linter.unusedVariables false
set_option linter.unnecessarySimpa false
open Go.RowKit
theorem aop_neqBF13 {P : Program} {H : Heap} {nx : Nat} {pos : String} {type : TypeId} {after : Array Edge} {ev : Operand → Option Value} {dst : Option Tmp} {guard : Option (Nat × Bool)} {t u : TypeId} {x y : Operand} {a b : Bool} (hx : ev x = some (.bool a)) (hy : ev y = some (.bool b)) (hu : P.underlying t = some .bool) (h : a = b) :
    aop P H nx ev ⟨dst, .binOp .neq t x y u, type, pos, after, guard⟩ = some (.bool false, .none) := by
  subst h
  have : aEq P H 60 t (.bool a) (.bool a) = some true := by simp [aEq, hu]
  simp [aop, hx, hy, aBin, eqOk, this]
/-- The ends of what is not reached, turned. -/
def flN (r l : List Bool) (i j : Nat) : Bool := if j < i ∧ r.getD j false = false then !(l.getD j false) else l.getD j false
def flL (r l : List Bool) (i : Nat) : List Bool := (List.range l.length).map (flN r l i)
theorem flL_len (r l : List Bool) (i : Nat) : (flL r l i).length = l.length := by simp [flL]
theorem flL_get {r l : List Bool} {i j : Nat} (h : j < l.length) : (flL r l i).getD j false = flN r l i j := by
  unfold flL
  rw [List.getD_eq_getElem?_getD, List.getElem?_map, List.getElem?_range h]; rfl
theorem flL_zero (r l : List Bool) : flL r l 0 = l := by
  refine List.ext_getElem (by simp [flL]) fun i h1 h2 => ?_
  simp [flL, flN, h2]
theorem flL_same {r l : List Bool} {i : Nat} (h : r.getD i false = true) : flL r l (i + 1) = flL r l i := by
  refine List.map_congr_left fun j _ => ?_
  unfold flN
  by_cases e : j = i
  · subst e
    rw [if_neg (by rw [h]; simp), if_neg (by omega)]
  · by_cases e2 : j < i ∧ r.getD j false = false
    · rw [if_pos e2, if_pos ⟨by omega, e2.2⟩]
    · rw [if_neg e2, if_neg (fun q => e2 ⟨by omega, q.2⟩)]
theorem flL_set {r l : List Bool} {i : Nat} (hi : i < l.length) (h : r.getD i false = false) : (flL r l i).set i (!((flL r l i).getD i false)) = flL r l (i + 1) := by
  rw [flL_get hi]
  have e : flN r l i i = l.getD i false := if_neg (by omega)
  rw [e]
  exact map_set_range hi (if_pos ⟨Nat.lt_succ_self _, h⟩).symm (fun j hj => by
    unfold flN
    by_cases e2 : j < i ∧ r.getD j false = false
    · rw [if_pos e2, if_pos ⟨by omega, e2.2⟩]
    · rw [if_neg e2, if_neg (fun q => e2 ⟨by omega, q.2⟩)])
/-- The front of a row of one's own, whatever else changes. -/
theorem own_front {α : Type} {enc : α → List Value} {sz : Nat} {P : Program} {H : Heap} {ob : Option (Nat × Nat)} {t el : TypeId} {v : Value} {xs : List α} {k : Nat} (hk1 : ∀ x, (enc x).length = sz) (h : OwnOf enc sz el H ob v xs) (hu : P.underlying t = some (.slice el)) (hs : szOf P el = some sz) (hk : k ≤ xs.length) :
    ∃ r, ∀ H2, (∀ b t, ob = some (b, t) → H2 b = H b) → aSlice P H2 t v none (some (.int .i64 k)) none = some r ∧ RowsAt enc sz H2 r (xs.take k) := by
  cases ob with
  | none =>
    obtain ⟨rfl, _, h1⟩ := h
    have hx : xs = [] := List.eq_nil_of_length_eq_zero h1
    subst hx
    have hk0 : k = 0 := by simpa using hk
    subst hk0
    exact ⟨_, fun H2 _ => ⟨aSlice_nil hu hs (.inl ⟨rfl, rfl⟩) (.inr ⟨.i64, rfl⟩), .inl ⟨0, rfl, rfl⟩⟩⟩
  | some bt =>
    obtain ⟨b, tg⟩ := bt
    obtain ⟨rfl, hcl, rest, ho⟩ := h
    refine ⟨.slice (some ⟨b, 0, some tg⟩) k k, fun H2 h2 => ⟨?_, ?_⟩⟩
    · have := aSlice_tagged (P := P) (H := H2) (t := t) hu hs (a := ⟨b, 0, some tg⟩) (len := xs.length) (cap := xs.length) (l := 0) (h := k) (tg := tg) (lo := none) (hi := some (.int .i64 k)) (show H2 b = _ by rw [h2 b tg rfl]; exact ho) rfl rfl rfl (.inl ⟨rfl, rfl⟩) (.inr ⟨.i64, rfl⟩) (Nat.zero_le _) hk
      simpa using this
    · refine .inr ⟨⟨b, 0, some tg⟩, k, by rw [List.length_take]; congr 1; omega, fun i hi => ?_⟩
      rw [List.length_take] at hi
      have hfl := flat_len hk1 xs
      have hle : (i + 1) * sz ≤ xs.length * sz := Nat.mul_le_mul_right _ (by omega)
      rw [Nat.add_mul, Nat.one_mul] at hle
      unfold getc
      simp only [h2 b tg rfl, ho, Nat.zero_add]
      rw [if_pos ⟨trivial, by rw [List.length_append, hfl]; omega⟩, List.drop_append_of_le_length (by rw [hfl]; omega), List.take_append_of_le_length (by rw [List.length_drop, hfl]; omega), flat_at hk1 xs i (by omega), List.getElem_take]
end Go.Am
namespace Go.Proofs.Ytdadkkmpnecpbaa.foldReaches
set_option linter.unusedSimpArgs false
set_option linter.unusedVariables false
set_option linter.unnecessarySimpa false
open Go.Am Go.RowKit Go.ChangeShapes Go.WideShapes Go.ChangeAt
attribute [local irreducible] aop OpsL Trip blockExit OpsD OpsK OpsR OpsQ
theorem keepN {S : List Co} {σ τ : CH} {m : Mo} {V : MoV} (hx : Chg S σ τ) (hS : ∀ c ∈ S, c = .next ∨ c = .tab 0) (h : MkO σ m V) : MkO τ m V := by
  have hn : ∀ c : Co, c ≠ .next → c ≠ .tab 0 → c ∉ S := fun c h1 h2 hc => by rcases hS c hc with e | e; exact h1 e; exact h2 e
  exact ⟨h.of.keep hx (hn _ (by simp) (by simp)), h.en.keep hx (hn _ (by simp) (by simp)), h.fi.keep hx (hn _ (by simp) (by simp)), Row2.keepL hx (hn _ (by simp) (by simp)) (fun _ _ => hn _ (by simp) (by simp)) h.inn, Row2.keepL hx (hn _ (by simp) (by simp)) (fun _ _ => hn _ (by simp) (by simp)) h.low, Row3.keepL hx (hn _ (by simp) (by simp)) (fun _ _ => hn _ (by simp) (by simp)) (fun _ _ _ => hn _ (by simp) (by simp)) h.ret⟩
theorem newBools {el : TypeId} {nx nx' : Nat} {H' : Heap} {v : Value} {l : List Bool} (h : NewP el nx nx' H' v (l.map .bool)) : ∃ b, nx ≤ b ∧ b < nx' ∧ v = .slice (some ⟨b, 0, none⟩) l.length l.length ∧ H' b = some (.cells (l.map .bool) 1 none false (some el)) := by
  obtain ⟨b, h1, h2, h3, h4⟩ := h
  rw [List.length_map] at h3
  exact ⟨b, h1, h2, h3, h4⟩
theorem newInts {el : TypeId} {nx nx' : Nat} {H' : Heap} {v : Value} {l : List Int} (h : NewP el nx nx' H' v (l.map (.int .i64 ·))) : ∃ b, nx ≤ b ∧ b < nx' ∧ v = .slice (some ⟨b, 0, none⟩) l.length l.length ∧ H' b = some (.cells (l.map (.int .i64 ·)) 1 none false (some el)) := by
  obtain ⟨b, h1, h2, h3, h4⟩ := h
  rw [List.length_map] at h3
  exact ⟨b, h1, h2, h3, h4⟩
theorem boolCell {H : Heap} {b : Nat} {el : TypeId} {l : List Bool} {i : Nat} (h : H b = some (.cells (l.map .bool) 1 none false (some el))) (hi : i < l.length) : cellAt H ⟨b, 0 + i * 1, none⟩ (.bool (l.getD i false)) := by
  rw [Nat.zero_add, Nat.mul_one]
  exact cell_of h (by rw [List.getElem?_map, List.getElem?_eq_getElem hi, List.getD_eq_getElem?_getD, List.getElem?_eq_getElem hi]; rfl)
theorem intCell {H : Heap} {b : Nat} {el : TypeId} {l : List Int} {i : Nat} (h : H b = some (.cells (l.map (.int .i64 ·)) 1 none false (some el))) (hi : i < l.length) : cellAt H ⟨b, 0 + i * 1, none⟩ (.int .i64 (l.getD i 0)) := by
  rw [Nat.zero_add, Nat.mul_one]
  exact cell_of h (by rw [List.getElem?_map, List.getElem?_eq_getElem hi, List.getD_eq_getElem?_getD, List.getElem?_eq_getElem hi]; rfl)
set_option maxRecDepth 20000 in
set_option maxHeartbeats 16000000 in
theorem law (W0 : World) {nx : Nat} {H : Heap} {size : Int} {nv wv : Value} {ns ws : List Int} (hn : IntsAt H nv ns) (hws : IntsAt H wv ws) (hs : -9223372036854775808 ≤ size ∧ size ≤ 9223372036854775807) (hok0 : ∀ id o, H id = some o → id < nx) :
    ACalls Try.prog W0 8 [.int .i64 size, nv, wv] nx H fun v _ _ => v = .bool true := by
  refine ACalls.by_trip (fn := Try.f8) (c := _) Try.func8 rfl (fun tm n hn0 htm => ?_)
  have e0 : tm 0 = .int .i64 size := htm 0
  have e1 : tm 1 = nv := htm 1
  have e2 : tm 2 = wv := htm 2
  clear htm
  replace hn0 : n = 101 := hn0
  repeat (first | (refine OpsL.q (by exact oasg) ?_) | (refine Trip.seq ?_) | (refine Trip.ops ?_) | (refine OpsL.nil ?_; (change Trip _ _ _ _ _)))
  refine OpsL.c0 (hf := entersKnown13) (hc := (knownC W0)) (h := ?_)
  rintro v0 nx0 H0 ⟨rfl, hx0⟩
  dsimp only
  replace hn := hn.ext hx0 hok0
  replace hws := hws.ext hx0 hok0
  clear hok0 hx0
  repeat (first | (refine OpsL.q (by exact onot) ?_) | (refine OpsL.nil ?_; (change Trip _ _ _ _ _)))
  refine Trip.ifF ?_
  refine Trip.ok fun hok0 => ?_
  replace hok0 : ∀ id o, H0 id = some o → id < nx0 := hok0
  repeat (first | (refine OpsL.q (by exact omv) ?_) | (refine Trip.seq ?_) | (refine Trip.ops ?_) | (refine Trip.skip ?_; (change Trip _ _ _ _ _)))
  refine OpsL.c2 (hf := entersMake) (hc := (makeC W0 hn hok0 hs)) (h := ?_)
  rintro vm nx1 H1 ⟨V, σ, rfl, rfl, rfl, hold, hm⟩
  have hq := mkP_ok size
  have hgood : modF (makeF size ns) = true := makeQ_ok hq
  have hlen : MoLen (makeF size ns) := makeQ_MoLen hq
  generalize makeF size ns = m at *
  have hmod := modF_iff.1 hgood
  have hst := hmod.st
  have hn60 := hmod.n.2
  clear hq hs
  have hwI : IntsC .old σ wv ws := by
    have := IntsC.of hws hok0
    rcases this with h1 | ⟨a, k, h1, h2⟩
    · exact .inl h1
    · refine .inr ⟨a, k, h1, fun i hi => ?_⟩
      obtain ⟨⟨q1, q2⟩, q3⟩ := h2 i hi
      exact ⟨⟨Nat.lt_of_lt_of_le q1 hold.1, (hold.2 _ q1).1⟩, cell_same (hold.2 _ q1).2 q3⟩
  obtain ⟨wa, wc, rfl⟩ := hws.slice
  clear hold hws hok0 hn
  refine OpsL.newC .self (aop_alloc (l := moV noMo nilV) (by exact rfl)) (by subst_vars; decide) ?_
  intro σ1 ha x1
  replace hm := hm.keep x1 (by simp)
  replace hwI := hwI.keep x1 (by simp)
  refine OpsL.setAllC (vs := moV m V) ha (by exact rfl) rfl rfl hm.one (by (first | (simp only [ASt.ev, tmPut, ↓reduceIte, Nat.reduceEqDiff, *]; done))) (by (first | (simp only [ASt.ev, tmPut, ↓reduceIte, Nat.reduceEqDiff, *]; done))) ?_
  intro σ2 ha2 x2
  replace hm := hm.keep x2 (by simp)
  replace hwI := hwI.keep x2 (by simp)
  obtain ⟨A, hA⟩ : ∃ A, σ.nx = A := ⟨_, rfl⟩
  rw [hA] at ha2 ⊢
  clear ha x1 x2 hA
  refine OpsL.nil ?_
  (change Trip _ _ _ _ _)
  have hbA : ∀ {τ : CH}, ObC .self τ A (.cells (moV m V) 0 none false (some 29)) → MoBox τ.H A m V := fun h => MoBox.of h.2.2
  -- what is reached, the classes
  refine Trip.seq ?_
  refine Trip.mono (Q := fun e st => e = .normal ∧ ∃ tm' τ rb cb, st = ⟨tm', n, τ.H, τ.nx⟩ ∧ tm' 2 = .slice wa ws.length wc ∧ tm' 7 = .pointer (some ⟨A, 0, none⟩) ∧ tm' 8 = .slice (some ⟨rb, 0, none⟩) (reachedF m).length (reachedF m).length ∧ tm' 9 = .slice (some ⟨cb, 0, none⟩) (classesF m).length (classesF m).length ∧ MkO τ m V ∧ IntsC .old τ (.slice wa ws.length wc) ws ∧ ObC .self τ A (.cells (moV m V) 0 none false (some 29)) ∧ ObC .tmp τ rb (.cells ((reachedF m).map .bool) 1 none false (some 4)) ∧ ObC .tmp τ cb (.cells ((classesF m).map (.int .i64 ·)) 1 none false (some 3))) ?_ ?_
  · have h0 := (hbA ha2).all
    refine OpsQ.drawn [1, 3, 4, 5] (K := fun _ _ H => getc H ⟨A, 0, none⟩ 8 = some (moV m V)) mixed13 (by kernel_rfl) (by kernel_rfl) [0, 2, 1, 3, 4, 5] (by kernel_rfl) (fun _ _ => h0) ?_
    refine OpsQ.sp 1 (v := .agg (moV m V).toArray) rfl (by kernel_rfl) (by subst_vars; decide) h0 (fun H2 nx2 hK => aop_loadAgg (k := 8) (by (first | (simp only [ASt.ev, tmPut, ↓reduceIte, Nat.reduceEqDiff, *]; done))) (by exact rfl) rfl (by exact rfl) hK) ?_
    refine OpsQ.sp 3 (v := .agg (moV m V).toArray) rfl (by kernel_rfl) (by subst_vars; decide) h0 (fun H2 nx2 hK => aop_loadAgg (k := 8) (by (first | (simp only [ASt.ev, tmPut, ↓reduceIte, Nat.reduceEqDiff, *]; done))) (by exact rfl) rfl (by exact rfl) hK) ?_
    refine OpsQ.act (by kernel_rfl) (ActStep.walk rfl rfl ?_)
    refine OpsL.c1 (hf := entersFReached) (hc := (fReachedC W0 hm.in hlen hmod)) (h := ?_)
    rintro v1 nx1 H1 ⟨hv, hx⟩
    obtain ⟨rb, q1, q2, rfl, q3⟩ := newBools hv
    obtain ⟨τ, rfl, rfl, x3, hc3⟩ := Chg.ofExtC .tmp hx
    have hr : ObC .tmp τ rb (.cells ((reachedF m).map .bool) 1 none false (some 4)) := ⟨q2, hc3 _ q1, q3⟩
    replace hm := hm.keep x3 (by simp)
    replace hwI := hwI.keep x3 (by simp)
    replace ha2 := ha2.keep x3 (by simp)
    clear hv hx q1 q2 q3 hc3 x3 h0
    refine OpsL.nil ⟨fun _ _ => (hbA ha2).all, ?_⟩
    refine OpsQ.act (by kernel_rfl) (ActStep.walk rfl rfl ?_)
    refine OpsL.c1 (hf := entersFClasses) (hc := (fClassesC W0 hm.in hlen hmod)) (h := ?_)
    rintro v1 nx1 H1 ⟨hv, hx⟩
    obtain ⟨cb, q1, q2, rfl, q3⟩ := newInts hv
    obtain ⟨τ4, rfl, rfl, x4, hc4⟩ := Chg.ofExtC .tmp hx
    have hc : ObC .tmp τ4 cb (.cells ((classesF m).map (.int .i64 ·)) 1 none false (some 3)) := ⟨q2, hc4 _ q1, q3⟩
    replace hm := hm.keep x4 (by simp)
    replace hwI := hwI.keep x4 (by simp)
    replace ha2 := ha2.keep x4 (by simp)
    replace hr := hr.keep x4 (by simp)
    clear hv hx q1 q2 q3 hc4 x4
    refine OpsL.nil ⟨fun _ _ => (hbA ha2).all, ?_⟩
    refine OpsQ.act (by kernel_rfl) (ActStep.walk rfl rfl ?_)
    (first | (refine OpsL.q (by exact oasg) ?_))
    refine OpsL.nil ⟨fun _ _ => (hbA ha2).all, ?_⟩
    refine OpsQ.act (by kernel_rfl) (ActStep.walk rfl rfl ?_)
    (first | (refine OpsL.q (by exact oasg) ?_))
    refine OpsL.nil ⟨fun _ _ => (hbA ha2).all, ?_⟩
    refine OpsQ.nil ?_
    exact ⟨rfl, _, τ4, rb, cb, rfl, by simp [tmPut, *], by simp [tmPut, *], by simp [tmPut, *], by simp [tmPut, *], hm, hwI, ha2, hr, hc⟩
  clear hm hwI ha2 e0 e1 e2
  rintro e st ⟨rfl, tm, σ, rb, cb, rfl, t2, t7, t8, t9, hm, hwI, ha, hr, hc⟩
  have hrl := reachedF_len hst
  have hcl := classesF_len hmod
  have hpos : ∀ {p : Nat}, p < m.of.length → decide (0 ≤ (classesF m).getD p 0) = (reachedF m).getD p false := fun {p} hp => by
    have := classesF_pos hmod hp
    rw [Bool.eq_iff_iff, decide_eq_true_eq]
    exact this
  have hrlen : (reachedF m).length ≤ 60 := by omega
  have hclen : (classesF m).length ≤ 60 := by omega
  obtain ⟨bo, hvo, hbo⟩ := hm.of.block
  have g2 : cellAt σ.H ⟨A, 2, none⟩ V.o := ha.cell rfl
  rw [hvo] at g2
  have hcr : (reachedF m).length ≤ (classesF m).length := by omega
  have hrm : (reachedF m).length ≤ m.of.length := by omega
  have hne1 : ¬ ((reachedF m).length : Int) ≠ m.of.length := by omega
  have hne2 : ¬ ((classesF m).length : Int) ≠ m.of.length := by omega
  have htk : ∀ w, takesF { m with final := flL (reachedF m) m.final m.final.length } w = takesF m w := fun w => takes_final (by simp [flL]) (fun p hp => by
    have hpl := getD_lt_len hp
    rw [flL_get (by have := hmod.fl; omega)]
    exact if_neg (by rw [hp]; simp)) w
  have hfl := hmod.fl
  have hfr : m.final.length ≤ (reachedF m).length := by omega
  have hfr2 : (reachedF m).length ≤ m.final.length := by omega
  have hfpos : 0 < m.final.length := by have := hmod.n.1; omega
  clear hst hgood hcl hrl hvo hbo
  replace hfl : PLift (m.final.length = m.of.length) := ⟨hfl⟩
  (change Trip _ _ _ _ _)
  repeat (first | (refine OpsL.q (by first | exact omv | exact olen | exact ofa | exact old) ?_) | (refine Trip.seq ?_) | (refine Trip.ops ?_))
  refine OpsL.neqF ?_
  repeat (first | (refine OpsL.q (by first | exact omv | exact olen | exact ofa | exact old) ?_) | (refine OpsL.ung ?_))
  refine OpsL.neqF ?_
  repeat (first | (refine OpsL.q (by exact opkF) ?_) | (refine OpsL.nil ?_; (change Trip _ _ _ _ _)))
  refine Trip.ifF ?_
  repeat (first | (refine OpsL.q (by exact oasg) ?_) | (refine Trip.seq ?_) | (refine Trip.ops ?_) | (refine Trip.block ?_) | (refine Trip.skip ?_; (change Trip _ _ _ _ _)) | (refine OpsL.nil ?_; (change Trip _ _ _ _ _)))
  -- each number of a class is a state reached
  refine Trip.mono (Q := fun e st => e = .exit 0 ∧ ∃ (tm' : Nat → Value), st = ⟨tm', n, σ.H, σ.nx⟩ ∧ tm' 2 = .slice wa ws.length wc ∧ tm' 7 = .pointer (some ⟨A, 0, none⟩) ∧ tm' 8 = .slice (some ⟨rb, 0, none⟩) (reachedF m).length (reachedF m).length) ?_ ?_
  · refine Trip.inv (fun (i : Nat) s => ∃ tm, s = ⟨tm, n, σ.H, σ.nx⟩ ∧ tm 2 = .slice wa ws.length wc ∧ tm 7 = .pointer (some ⟨A, 0, none⟩) ∧ tm 8 = .slice (some ⟨rb, 0, none⟩) (reachedF m).length (reachedF m).length ∧ tm 9 = .slice (some ⟨cb, 0, none⟩) (classesF m).length (classesF m).length ∧ tm 10 = .int .i64 i ∧ i ≤ (reachedF m).length) (fun i => (reachedF m).length - i) 0 ?_ ?_
    · exact ⟨_, rfl, by simp [tmPut, *], by simp [tmPut, *], by simp [tmPut, *], by simp [tmPut, *], by simp [tmPut, *], by omega⟩
    clear t2 t7 t8 t9
    rintro i s ⟨tm, rfl, t2, t7, t8, t9, t10, hi⟩
    repeat (first | (refine OpsL.q (by first | exact omv | exact olen | exact olss) ?_) | (refine Trip.seq ?_) | (refine Trip.ops ?_) | (refine Trip.block ?_) | (refine Trip.itA (fun _ => ?_) (fun _ => ?_)) | (refine Trip.skip ?_; (change Trip _ _ _ _ _)) | (refine OpsL.nil ?_; (change Trip _ _ _ _ _)))
    · have hlt : i < (reachedF m).length := by omega
      have c1 := boolCell hr.2.2 hlt
      have c2 := intCell hc.2.2 (show i < (classesF m).length by omega)
      have hpi := hpos (show i < m.of.length by omega)
      obtain ⟨x, hx⟩ : ∃ x, (classesF m).getD i 0 = x := ⟨_, rfl⟩
      rw [hx] at c2 hpi
      obtain ⟨y, hy⟩ : ∃ y, (reachedF m).getD i false = y := ⟨_, rfl⟩
      rw [hy] at c1 hpi
      refine Trip.mono (Q := fun e st => e = .normal ∧ ∃ (tm' : Nat → Value), st = ⟨tm', n, σ.H, σ.nx⟩ ∧ tm' 2 = .slice wa ws.length wc ∧ tm' 7 = .pointer (some ⟨A, 0, none⟩) ∧ tm' 8 = .slice (some ⟨rb, 0, none⟩) (reachedF m).length (reachedF m).length ∧ tm' 9 = .slice (some ⟨cb, 0, none⟩) (classesF m).length (classesF m).length ∧ tm' 10 = .int .i64 i ∧ tm' 53 = .bool false) ?_ ?_
      · refine OpsR.drawnW [] (K := fun _ _ => True) mixed13 (by kernel_rfl) (by kernel_rfl) [0, 1, 2, 3, 4, 5, 6, 7, 8, 9] (by kernel_rfl) trivial ?_
        refine OpsR.one rfl rfl rfl (by kernel_rfl) ?_
        repeat (first | (refine OpsL.q (by exact omv) ?_) | (refine OpsL.nil ?_; (skip)))
        refine OpsR.one rfl rfl rfl (by kernel_rfl) ?_
        repeat (first | (refine OpsL.q (by exact omv) ?_) | (refine OpsL.nil ?_; (skip)))
        refine OpsR.one rfl rfl rfl (by kernel_rfl) ?_
        repeat (first | (refine OpsL.q (by exact oixa) ?_) | (refine OpsL.nil ?_; (dsimp only)))
        refine OpsR.one rfl rfl rfl (by kernel_rfl) ?_
        repeat (first | (refine OpsL.q (by exact old) ?_) | (refine OpsL.nil ?_; (skip)))
        refine OpsR.one rfl rfl rfl (by kernel_rfl) ?_
        repeat (first | (refine OpsL.q (by exact omv) ?_) | (refine OpsL.nil ?_; (skip)))
        refine OpsR.one rfl rfl rfl (by kernel_rfl) ?_
        repeat (first | (refine OpsL.q (by exact omv) ?_) | (refine OpsL.nil ?_; (skip)))
        refine OpsR.one rfl rfl rfl (by kernel_rfl) ?_
        repeat (first | (refine OpsL.q (by exact oixa) ?_) | (refine OpsL.nil ?_; (dsimp only)))
        refine OpsR.one rfl rfl rfl (by kernel_rfl) ?_
        repeat (first | (refine OpsL.q (by exact old) ?_) | (refine OpsL.nil ?_; (skip)))
        refine OpsR.one rfl rfl rfl (by kernel_rfl) ?_
        refine OpsL.p (by subst_vars; decide) (aop_geq (by (first | (simp only [ASt.ev, tmPut, ↓reduceIte, Nat.reduceEqDiff, *]; rfl))) (by (first | (simp only [ASt.ev, tmPut, ↓reduceIte, Nat.reduceEqDiff, *]; rfl)))) ?_
        rw [hpi]
        refine OpsL.nil ?_
        refine OpsR.one rfl rfl rfl (by kernel_rfl) ?_
        refine OpsL.p (by subst_vars; decide) (aop_neqBF13 (a := y) (b := y) (by (first | (simp only [ASt.ev, tmPut, ↓reduceIte, Nat.reduceEqDiff, *]; done))) (by (first | (simp only [ASt.ev, tmPut, ↓reduceIte, Nat.reduceEqDiff, *]; done))) (by exact rfl) rfl) ?_
        refine OpsL.nil ?_
        refine OpsR.nil ?_
        exact ⟨rfl, _, rfl, by simp [tmPut, *], by simp [tmPut, *], by simp [tmPut, *], by simp [tmPut, *], by simp [tmPut, *], by simp [tmPut, *]⟩
      clear t2 t7 t8 t9 t10
      rintro e st ⟨rfl, tm, rfl, t2, t7, t8, t9, t10, t53⟩
      (change Trip _ _ _ _ _)
      refine Trip.ifF ?_
      repeat (first | (refine OpsL.q (by first | exact omv | exact oadd | exact oasg) ?_) | (refine Trip.ops ?_) | (refine Trip.skip ?_; ((repeat (refine blockExit_normal ?_)); change Trip _ _ _ _ _)) | (refine OpsL.nil ?_; (dsimp only)))
      exact ⟨i + 1, ⟨_, rfl, by simp [tmPut, *], by simp [tmPut, *], by simp [tmPut, *], by simp [tmPut, *], by simp [tmPut, *], by omega⟩, by omega⟩
    · repeat (first | (refine Trip.exit ?_; (dsimp only)))
      exact ⟨rfl, _, rfl, by simp [tmPut, *], by simp [tmPut, *], by simp [tmPut, *]⟩
  clear t2 t7 t8 t9 g2 hc hclen hcr hne1 hne2
  rintro e st ⟨rfl, tm, rfl, t2, t7, t8⟩
  ((repeat (refine blockExit_eq ?_)); change Trip _ _ _ _ _)
  -- a word
  repeat (first | (refine Trip.seq ?_) | (refine Trip.ops ?_))
  have g0 := (hbA ha).all
  refine OpsL.p (by subst_vars; decide) (aop_loadAgg (k := 8) (by (first | (simp only [ASt.ev, tmPut, ↓reduceIte, Nat.reduceEqDiff, *]; done))) (by exact rfl) rfl (by exact rfl) g0) ?_
  repeat (first | (refine OpsL.q (by exact omv) ?_))
  refine OpsL.c3 (hf := entersLWord) (hc := (lwordC W0 hm.in hmod hwI.at (most := 20) (by omega))) (h := ?_)
  rintro wv nx1 H1 ⟨w, ob, hwl, how, hob, hx⟩
  obtain ⟨τ, rfl, rfl, x3, hc3⟩ := Chg.ofExtC .ret hx
  have hW : ∃ ob, OwnOf encPr 2 50 τ.H ob wv w ∧ ∀ b t, ob = some (b, t) → b < τ.nx ∧ τ.C b = .ret := ⟨ob, how, fun b t e => ⟨(hob b t e).2, hc3 _ (hob b t e).1⟩⟩
  have hWk : ∀ {S : List Co} {σ τ : CH}, Chg S σ τ → Co.ret ∉ S → (∃ ob, OwnOf encPr 2 50 σ.H ob wv w ∧ ∀ b t, ob = some (b, t) → b < σ.nx ∧ σ.C b = .ret) → ∃ ob, OwnOf encPr 2 50 τ.H ob wv w ∧ ∀ b t, ob = some (b, t) → b < τ.nx ∧ τ.C b = .ret := fun x hn ⟨ob, h1, h2⟩ => ⟨ob, own_same (fun b t e => (x.2 _ (h2 b t e).1).2 (by rw [(h2 b t e).2]; exact hn)) h1, fun b t e => ⟨Nat.lt_of_lt_of_le (h2 b t e).1 x.1, by rw [(x.2 _ (h2 b t e).1).1]; exact (h2 b t e).2⟩⟩
  replace hm := hm.keep x3 (by simp)
  replace ha := ha.keep x3 (by simp)
  replace hr := hr.keep x3 (by simp)
  clear how hob hx hc3 x3 hwI g0
  repeat (first | (refine OpsL.q (by exact oasg) ?_) | (refine Trip.seq ?_) | (refine Trip.ops ?_) | (refine OpsL.nil ?_; (change Trip _ _ _ _ _)))
  repeat fail
  have g0 := (hbA ha).all
  refine OpsL.p (by subst_vars; decide) (aop_loadAgg (k := 8) (by (first | (simp only [ASt.ev, tmPut, ↓reduceIte, Nat.reduceEqDiff, *]; done))) (by exact rfl) rfl (by exact rfl) g0) ?_
  refine OpsL.newC .next (aop_alloc (l := moV noMo nilV) (by exact rfl)) (by subst_vars; decide) ?_
  intro σ1 hX x1
  replace hm := hm.keep x1 (by simp)
  replace ha := ha.keep x1 (by simp)
  replace hr := hr.keep x1 (by simp)
  replace hW := hWk x1 (by simp) hW
  obtain ⟨X, hXn⟩ : ∃ X, τ.nx = X := ⟨_, rfl⟩
  rw [hXn] at hX ⊢
  clear g0 hXn
  refine OpsL.setAllC (vs := moV m V) hX (by exact rfl) rfl rfl hm.one (by (first | (simp only [ASt.ev, tmPut, ↓reduceIte, Nat.reduceEqDiff, *]; done))) (by (first | (simp only [ASt.ev, tmPut, ↓reduceIte, Nat.reduceEqDiff, *]; done))) ?_
  intro σ2 hX2 x2
  replace hm := keepN x2 (by simp) hm
  replace ha := ha.keep x2 (by simp)
  replace hr := hr.keep x2 (by simp)
  replace hW := hWk x2 (by simp) hW
  clear hX x1 x2
  repeat (first | (refine Trip.seq ?_) | (refine Trip.ops ?_) | (refine OpsL.nil ?_; (change Trip _ _ _ _ _)))
  refine OpsL.newC (.tab 0) (aop_buildSlice (l := []) (r := (.slice (some ⟨σ2.nx, 0, none⟩) 0 0, .new (.cells [] 1 none false (some 4)))) rfl (by exact rfl)) (by subst_vars; decide) ?_
  intro σ3 hE x3
  replace hm := hm.keep x3 (by simp)
  replace ha := ha.keep x3 (by simp)
  replace hr := hr.keep x3 (by simp)
  replace hX2 := hX2.keep x3 (by simp)
  replace hW := hWk x3 (by simp) hW
  have hE2 : OwnOrC encBo (fun b => .bool b) 4 (.tab 0) σ3 (.slice (some ⟨σ2.nx, 0, none⟩) 0 0) [] := .inr ⟨σ2.nx, rfl, hE⟩
  have g4 : cellAt σ3.H ⟨A, 4, none⟩ V.f := ha.cell rfl
  repeat (first | (refine OpsL.q (by first | exact ofa | exact old) ?_))
  refine OpsL.appW (bytes := 1) (z := [.bool false]) encBo_f encBo_len encBo_one hE2 (hm.fi.at encBo_len) (by omega) (by exact rfl) (by exact rfl) (by exact rfl) (by exact rfl) (by exact rfl) rfl (by simp only [List.length_nil]; omega) (by omega) (by (first | (simp only [ASt.ev, tmPut, ↓reduceIte, Nat.reduceEqDiff, *]; done))) (by (first | (simp only [ASt.ev, tmPut, ↓reduceIte, Nat.reduceEqDiff, *]; done))) (by subst_vars; decide) ?_
  intro vn σ4 hF x4
  rw [List.nil_append] at hF
  replace hm := keepN x4 (by simp) hm
  replace ha := ha.keep x4 (by simp)
  replace hr := hr.keep x4 (by simp)
  replace hX2 := hX2.keep x4 (by simp)
  replace hW := hWk x4 (by simp) hW
  obtain ⟨fb, ft, rest, rfl, hob⟩ := OwnC.opn encBo_f hF (fun e => by rw [e] at hfpos; exact absurd hfpos (by simp))
  clear x3 x4 hE hE2 g4 hF
  repeat (first | (refine OpsL.q (by exact ofa) ?_))
  refine OpsL.setC (k := 4) (cs' := moV m { V with f := .slice (some ⟨fb, 0, some ft⟩) m.final.length m.final.length }) hX2 (by show 4 < 8; omega) (by exact rfl) (by exact rfl) rfl rfl (by (first | (simp only [ASt.ev, tmPut, ↓reduceIte, Nat.reduceEqDiff, *]; rfl))) (by (first | (simp only [ASt.ev, tmPut, ↓reduceIte, Nat.reduceEqDiff, *]; done))) rfl ?_
  intro σ5 hX3 x5 _
  replace hm := keepN x5 (by simp) hm
  replace ha := ha.keep x5 (by simp)
  replace hr := hr.keep x5 (by simp)
  replace hob := hob.keep x5 (by simp)
  replace hW := hWk x5 (by simp) hW
  clear x5 hX2
  rw [← flL_zero (reachedF m) m.final] at hob
  refine OpsL.nil ?_
  (change Trip _ _ _ _ _)
  repeat (first | (refine OpsL.q (by exact oasg) ?_) | (refine Trip.seq ?_) | (refine Trip.ops ?_) | (refine Trip.block ?_) | (refine OpsL.nil ?_; (change Trip _ _ _ _ _)))
  refine Trip.mono (Q := fun e st => e = .exit 2 ∧ ∃ (tm' : Nat → Value) (τ : CH), st = ⟨tm', n, τ.H, τ.nx⟩ ∧ tm' 7 = .pointer (some ⟨A, 0, none⟩) ∧ tm' 11 = wv ∧ tm' 12 = .pointer (some ⟨X, 0, none⟩) ∧ MkO τ m V ∧ ObC .self τ A (.cells (moV m V) 0 none false (some 29)) ∧ ObC .next τ X (.cells (moV m { V with f := .slice (some ⟨fb, 0, some ft⟩) m.final.length m.final.length }) 0 none false (some 29)) ∧ (∃ ob, OwnOf encPr 2 50 τ.H ob wv w ∧ ∀ b t, ob = some (b, t) → b < τ.nx ∧ τ.C b = .ret) ∧ ObC (.tab 0) τ fb (.cells ((flL (reachedF m) m.final m.final.length).map (fun b => .bool b) ++ rest) 1 (some ft) false (some 4))) ?_ ?_
  · refine Trip.inv (fun (i : Nat) s => ∃ (tm : Nat → Value) (τ : CH), s = ⟨tm, n, τ.H, τ.nx⟩ ∧ tm 7 = .pointer (some ⟨A, 0, none⟩) ∧ tm 8 = .slice (some ⟨rb, 0, none⟩) (reachedF m).length (reachedF m).length ∧ tm 11 = wv ∧ tm 12 = .pointer (some ⟨X, 0, none⟩) ∧ tm 13 = .int .i64 i ∧ i ≤ (reachedF m).length ∧ MkO τ m V ∧ ObC .self τ A (.cells (moV m V) 0 none false (some 29)) ∧ ObC .tmp τ rb (.cells ((reachedF m).map .bool) 1 none false (some 4)) ∧ ObC .next τ X (.cells (moV m { V with f := .slice (some ⟨fb, 0, some ft⟩) m.final.length m.final.length }) 0 none false (some 29)) ∧ (∃ ob, OwnOf encPr 2 50 τ.H ob wv w ∧ ∀ b t, ob = some (b, t) → b < τ.nx ∧ τ.C b = .ret) ∧ ObC (.tab 0) τ fb (.cells ((flL (reachedF m) m.final i).map (fun b => .bool b) ++ rest) 1 (some ft) false (some 4))) (fun i => (reachedF m).length - i) 0 ?_ ?_
    · exact ⟨_, σ5, rfl, by simp [tmPut, *], by simp [tmPut, *], by simp [tmPut, *], by simp [tmPut, *], by simp [tmPut, *], by omega, hm, ha, hr, hX3, hW, hob⟩
    clear t2 t7 t8 hm ha hr hX3 hW hob
    rintro i s ⟨tm, σ, rfl, t7, t8, t11, t12, t13, hi, hm, ha, hr, hX, hW, hob⟩
    repeat (first | (refine OpsL.q (by first | exact omv | exact olen | exact olss) ?_) | (refine Trip.seq ?_) | (refine Trip.ops ?_) | (refine Trip.block ?_) | (refine Trip.itA (fun _ => ?_) (fun _ => ?_)) | (refine Trip.skip ?_; (change Trip _ _ _ _ _)) | (refine OpsL.nil ?_; (change Trip _ _ _ _ _)))
    · have hlt : i < (reachedF m).length := by omega
      have hlf : i < m.final.length := by omega
      have c1 := boolCell hr.2.2 hlt
      obtain ⟨y, hy⟩ : ∃ y, (reachedF m).getD i false = y := ⟨_, rfl⟩
      rw [hy] at c1
      repeat (first | (refine OpsL.q (by first | exact oixa | exact old | exact onot) ?_) | (refine OpsL.nil ?_; (change Trip _ _ _ _ _)))
      cases y
      · refine Trip.ifT ?_
        have hll := flL_len (reachedF m) m.final i
        have hil : i < (flL (reachedF m) m.final i).length := by omega
        have hset := flL_set (r := reachedF m) hlf hy
        obtain ⟨z, hz⟩ : ∃ z, (flL (reachedF m) m.final i).getD i false = z := ⟨_, rfl⟩
        rw [hz] at hset
        have g4 : cellAt σ.H ⟨X, 4, none⟩ (.slice (some ⟨fb, 0, some ft⟩) m.final.length m.final.length) := hX.cell rfl
        have c3 : cellAt σ.H ⟨fb, 0 + i * 1, some ft⟩ (.bool z) := by
          rw [Nat.zero_add, Nat.mul_one]
          refine hob.cell ?_
          rw [List.getElem?_append_left (by simpa using hil), List.getElem?_map, List.getElem?_eq_getElem hil, ← hz, List.getD_eq_getElem?_getD, List.getElem?_eq_getElem hil]
          rfl
        have hset2 : ((flL (reachedF m) m.final i).map (fun b => Value.bool b) ++ rest).set i (.bool !z) = (flL (reachedF m) m.final (i + 1)).map (fun b => Value.bool b) ++ rest := by
          rw [List.set_append_left _ _ (by simpa using hil), ← hset, List.map_set]
        have hlc : i < ((flL (reachedF m) m.final i).map (fun b => Value.bool b) ++ rest).length := by rw [List.length_append, List.length_map]; omega
        clear hset hz hll
        refine Trip.mono (Q := fun e st => e = .normal ∧ ∃ (tm' : Nat → Value) (τ : CH), st = ⟨tm', n, τ.H, τ.nx⟩ ∧ tm' 7 = .pointer (some ⟨A, 0, none⟩) ∧ tm' 8 = .slice (some ⟨rb, 0, none⟩) (reachedF m).length (reachedF m).length ∧ tm' 11 = wv ∧ tm' 12 = .pointer (some ⟨X, 0, none⟩) ∧ tm' 13 = .int .i64 i ∧ MkO τ m V ∧ ObC .self τ A (.cells (moV m V) 0 none false (some 29)) ∧ ObC .tmp τ rb (.cells ((reachedF m).map .bool) 1 none false (some 4)) ∧ ObC .next τ X (.cells (moV m { V with f := .slice (some ⟨fb, 0, some ft⟩) m.final.length m.final.length }) 0 none false (some 29)) ∧ (∃ ob, OwnOf encPr 2 50 τ.H ob wv w ∧ ∀ b t, ob = some (b, t) → b < τ.nx ∧ τ.C b = .ret) ∧ ObC (.tab 0) τ fb (.cells ((flL (reachedF m) m.final (i + 1)).map (fun b => .bool b) ++ rest) 1 (some ft) false (some 4))) ?_ ?_
        · refine OpsQ.drawn [10] (K := fun _ _ _ => True) mixed13 (by kernel_rfl) (by kernel_rfl) [0, 1, 2, 3, 4, 5, 6, 7, 8, 9, 10] (by kernel_rfl) (fun _ _ => trivial) ?_
          refine OpsQ.one rfl rfl rfl (by kernel_rfl) ?_
          repeat (first | (refine OpsL.q (by exact ofa) ?_) | (refine OpsL.nil ?_; (dsimp only)))
          refine OpsQ.one rfl rfl rfl (by kernel_rfl) ?_
          repeat (first | (refine OpsL.q (by exact old) ?_) | (refine OpsL.nil ?_; (skip)))
          refine OpsQ.one rfl rfl rfl (by kernel_rfl) ?_
          repeat (first | (refine OpsL.q (by exact omv) ?_) | (refine OpsL.nil ?_; (skip)))
          refine OpsQ.one rfl rfl rfl (by kernel_rfl) ?_
          repeat (first | (refine OpsL.q (by exact ofa) ?_) | (refine OpsL.nil ?_; (dsimp only)))
          refine OpsQ.one rfl rfl rfl (by kernel_rfl) ?_
          repeat (first | (refine OpsL.q (by exact old) ?_) | (refine OpsL.nil ?_; (skip)))
          refine OpsQ.one rfl rfl rfl (by kernel_rfl) ?_
          repeat (first | (refine OpsL.q (by exact omv) ?_) | (refine OpsL.nil ?_; (skip)))
          refine OpsQ.one rfl rfl rfl (by kernel_rfl) ?_
          repeat (first | (refine OpsL.q (by exact oixa) ?_) | (refine OpsL.nil ?_; (dsimp only)))
          refine OpsQ.one rfl rfl rfl (by kernel_rfl) ?_
          repeat (first | (refine OpsL.q (by exact old) ?_) | (refine OpsL.nil ?_; (skip)))
          refine OpsQ.one rfl rfl rfl (by kernel_rfl) ?_
          repeat (first | (refine OpsL.q (by exact onot) ?_) | (refine OpsL.nil ?_; (skip)))
          refine OpsQ.one rfl rfl rfl (by kernel_rfl) ?_
          repeat (first | (refine OpsL.q (by exact oixa) ?_) | (refine OpsL.nil ?_; (dsimp only)))
          refine OpsQ.act (by kernel_rfl) (ActStep.walk rfl rfl ?_)
          refine OpsL.setC (k := i) (v := .bool !z) (cs' := (flL (reachedF m) m.final (i + 1)).map (fun b => Value.bool b) ++ rest) hob hlc hset2 rfl (by exact rfl) rfl (by (first | (simp only [ASt.ev, tmPut, ↓reduceIte, Nat.reduceEqDiff, *]; rfl))) (by (first | (simp only [ASt.ev, tmPut, ↓reduceIte, Nat.reduceEqDiff, *]; done))) (by show (⟨fb, 0 + i * 1, some ft⟩ : Addr) = _; rw [Nat.zero_add, Nat.mul_one]) ?_
          intro τ hob2 x _
          refine OpsL.nil ⟨fun k hk => absurd hk (by simp), ?_⟩
          refine OpsQ.nil ?_
          exact ⟨rfl, _, τ, rfl, by simp [tmPut, *], by simp [tmPut, *], by simp [tmPut, *], by simp [tmPut, *], by simp [tmPut, *], keepN x (by simp) hm, ha.keep x (by simp), hr.keep x (by simp), hX.keep x (by simp), hWk x (by simp) hW, hob2⟩
        clear t7 t8 t11 t12 t13 hm ha hr hX hW hob g4 c3 hset2 hlc c1 hil
        rintro e st ⟨rfl, tm, σ, rfl, t7, t8, t11, t12, t13, hm, ha, hr, hX, hW, hob⟩
        ((repeat (refine blockExit_normal ?_)); change Trip _ _ _ _ _)
        repeat (first | (refine OpsL.q (by first | exact omv | exact oadd | exact oasg) ?_) | (refine Trip.ops ?_) | (refine OpsL.nil ?_; (dsimp only)))
        exact ⟨i + 1, ⟨_, σ, rfl, by simp [tmPut, *], by simp [tmPut, *], by simp [tmPut, *], by simp [tmPut, *], by simp [tmPut, *], by omega, hm, ha, hr, hX, hW, hob⟩, by omega⟩
      · refine Trip.ifF ?_
        rw [← flL_same hy] at hob
        repeat (first | (refine OpsL.q (by first | exact omv | exact oadd | exact oasg) ?_) | (refine Trip.ops ?_) | (refine Trip.skip ?_; ((repeat (refine blockExit_normal ?_)); change Trip _ _ _ _ _)) | (refine OpsL.nil ?_; (dsimp only)))
        exact ⟨i + 1, ⟨_, σ, rfl, by simp [tmPut, *], by simp [tmPut, *], by simp [tmPut, *], by simp [tmPut, *], by simp [tmPut, *], by omega, hm, ha, hr, hX, hW, hob⟩, by omega⟩
    · have hie : i = m.final.length := by omega
      rw [hie] at hob
      repeat (first | (refine Trip.exit ?_; (dsimp only)))
      exact ⟨rfl, _, σ, rfl, by simp [tmPut, *], by simp [tmPut, *], by simp [tmPut, *], hm, ha, hX, hW, hob⟩
  clear t2 t7 t8 hm ha hr hX3 hW hob hWk
  rintro e st ⟨rfl, tm, σ, rfl, t7, t11, t12, hm, ha, hX, ⟨ob, how, hob1⟩, hob⟩
  ((repeat (refine blockExit_eq ?_)); change Trip _ _ _ _ _)
  repeat (first | (refine OpsL.q (by exact oasg) ?_) | (refine Trip.seq ?_) | (refine Trip.ops ?_) | (refine Trip.block ?_) | (refine OpsL.nil ?_; (change Trip _ _ _ _ _)))
  -- both take the same fronts
  refine Trip.ok fun hok => ?_
  replace hok : ∀ id o, σ.H id = some o → id < σ.nx := hok
  obtain ⟨m2, hm2⟩ : ∃ m2 : Mo, { m with final := flL (reachedF m) m.final m.final.length } = m2 := ⟨_, rfl⟩
  obtain ⟨V2, hV2⟩ : ∃ V2 : MoV, { V with f := .slice (some ⟨fb, 0, some ft⟩) m.final.length m.final.length } = V2 := ⟨_, rfl⟩
  have hmi := hm.in
  have hmi2 : MoIn σ.H m2 V2 := by
    have := (OwnC.cls encBo_f hob).bools
    rw [flL_len] at this
    rw [← hm2, ← hV2]
    exact ⟨hmi.of, hmi.entry, this, hmi.inn, hmi.low, hmi.ret⟩
  have hmod2 : ModOk m2 := by
    rw [← hm2]
    exact ⟨hmod.pl, hmod.cl, hmod.n, hmod.k, (flL_len _ _ _).trans hmod.fl, hmod.il, hmod.ll, hmod.rl, hmod.of, hmod.entry, hmod.inn, hmod.low0, hmod.low1, hmod.ret0, hmod.ret1⟩
  have hlen2 : MoLen m2 := by
    rw [← hm2]
    exact ⟨hlen.of, hlen.entry, by show (flL _ _ _).length ≤ _; rw [flL_len]; exact hlen.final, hlen.inn, hlen.low, hlen.ret, hlen.inn1, hlen.low1, hlen.ret1, hlen.ret2⟩
  have hXg : getc σ.H ⟨X, 0, none⟩ 8 = some (moV m2 V2) := by
    have := getc_all (m := 8) hX.2.2 rfl
    rw [hV2] at this
    rw [this, ← hm2]
    rfl
  have hAg : getc σ.H ⟨A, 0, none⟩ 8 = some (moV m V) := (hbA ha).all
  rw [hm2] at htk
  have hsl : ∃ a c, wv = .slice a w.length c := by
    cases ob with
    | none => obtain ⟨rfl, _, h1⟩ := how; exact ⟨none, 0, by rw [h1]⟩
    | some bt => obtain ⟨b, t⟩ := bt; obtain ⟨rfl, _⟩ := how; exact ⟨_, _, rfl⟩
  obtain ⟨wa2, wc2, rfl⟩ := hsl
  have hob2 : ∀ {nx' : Nat} {H' : Heap}, Ext σ.nx σ.H nx' H' → ∀ b t, ob = some (b, t) → H' b = σ.H b := fun hx b t e => hx.2 _ (hob1 b t e).1
  clear hm ha hX hob hob1 hm2 hV2 hfr hfr2 hfpos
  refine Trip.inv (fun (i : Nat) s => ∃ (tm : Nat → Value) (nx : Nat) (H : Heap), s = ⟨tm, n, H, nx⟩ ∧ tm 7 = .pointer (some ⟨A, 0, none⟩) ∧ tm 11 = .slice wa2 w.length wc2 ∧ tm 12 = .pointer (some ⟨X, 0, none⟩) ∧ tm 14 = .int .i64 i ∧ i ≤ w.length + 1 ∧ Ext σ.nx σ.H nx H) (fun i => w.length + 1 - i) 0 ?_ ?_
  · exact ⟨_, σ.nx, σ.H, rfl, by simp [tmPut, *], by simp [tmPut, *], by simp [tmPut, *], by simp [tmPut, *], by omega, Ext.refl⟩
  clear t7 t11 t12
  rintro i s ⟨tm, nx, H, rfl, t7, t11, t12, t14, hi, hx⟩
  repeat (first | (refine OpsL.q (by first | exact omv | exact olen | exact oleq) ?_) | (refine Trip.seq ?_) | (refine Trip.ops ?_) | (refine Trip.block ?_) | (refine Trip.itA (fun _ => ?_) (fun _ => ?_)) | (refine Trip.skip ?_; (change Trip _ _ _ _ _)) | (refine OpsL.nil ?_; (change Trip _ _ _ _ _)))
  · have hle : i ≤ w.length := by omega
    obtain ⟨r, hr⟩ := own_front (P := Try.prog) (enc := encPr) (sz := 2) (t := 23) (k := i) (fun _ => rfl) how (by exact rfl) (by exact rfl) hle
    have hwl2 : (w.take i).length ≤ 50000 := by rw [List.length_take]; omega
    have htki := htk (w.take i)
    have gA : ∀ {nx : Nat} {H : Heap}, Ext σ.nx σ.H nx H → getc H ⟨A, 0, none⟩ 8 = some (moV m V) := fun h => getc_ext h hok hAg
    have gX : ∀ {nx : Nat} {H : Heap}, Ext σ.nx σ.H nx H → getc H ⟨X, 0, none⟩ 8 = some (moV m2 V2) := fun h => getc_ext h hok hXg
    refine Trip.mono (Q := fun e st => e = .normal ∧ ∃ (tm' : Nat → Value) (nx : Nat) (H : Heap), st = ⟨tm', n, H, nx⟩ ∧ tm' 7 = .pointer (some ⟨A, 0, none⟩) ∧ tm' 11 = .slice wa2 w.length wc2 ∧ tm' 12 = .pointer (some ⟨X, 0, none⟩) ∧ tm' 14 = .int .i64 i ∧ tm' 100 = .bool false ∧ Ext σ.nx σ.H nx H) ?_ ?_
    · refine OpsQ.drawn [4, 9] (K := fun _ nn HH => Ext σ.nx σ.H nn HH) mixed13 (by kernel_rfl) (by kernel_rfl) [0, 1, 2, 3, 5, 6, 7, 8, 4, 9, 10] (by kernel_rfl) (fun _ _ => hx) ?_
      refine OpsQ.sp 4 (v := .agg (moV m V).toArray) rfl (by kernel_rfl) (by subst_vars; decide) hx (fun H2 nx2 hK => aop_loadAgg (k := 8) (by (first | (simp only [ASt.ev, tmPut, ↓reduceIte, Nat.reduceEqDiff, *]; done))) (by exact rfl) rfl (by exact rfl) (gA hK)) ?_
      refine OpsQ.one rfl rfl rfl (by kernel_rfl) ?_
      repeat (first | (refine OpsL.q (by exact omv) ?_) | (refine OpsL.nil ?_; (skip)))
      refine OpsQ.one rfl rfl rfl (by kernel_rfl) ?_
      repeat (first | (refine OpsL.q (by exact omv) ?_) | (refine OpsL.nil ?_; (skip)))
      refine OpsQ.sp 4 (v := r) rfl (by kernel_rfl) (by subst_vars; decide) hx (fun H2 nx2 hK => aop_slice (by (first | (simp only [ASt.ev, tmPut, ↓reduceIte, Nat.reduceEqDiff, *]; done))) rfl (by (first | (simp only [ASt.ev, tmPut, ↓reduceIte, Nat.reduceEqDiff, *]; rfl))) rfl (hr H2 (hob2 hK)).1) ?_
      refine OpsQ.sp 9 (v := .agg (moV m2 V2).toArray) rfl (by kernel_rfl) (by subst_vars; decide) hx (fun H2 nx2 hK => aop_loadAgg (k := 8) (by (first | (simp only [ASt.ev, tmPut, ↓reduceIte, Nat.reduceEqDiff, *]; done))) (by exact rfl) rfl (by exact rfl) (gX hK)) ?_
      refine OpsQ.one rfl rfl rfl (by kernel_rfl) ?_
      repeat (first | (refine OpsL.q (by exact omv) ?_) | (refine OpsL.nil ?_; (skip)))
      refine OpsQ.one rfl rfl rfl (by kernel_rfl) ?_
      repeat (first | (refine OpsL.q (by exact omv) ?_) | (refine OpsL.nil ?_; (skip)))
      refine OpsQ.sp 9 (v := r) rfl (by kernel_rfl) (by subst_vars; decide) hx (fun H2 nx2 hK => aop_slice (by (first | (simp only [ASt.ev, tmPut, ↓reduceIte, Nat.reduceEqDiff, *]; done))) rfl (by (first | (simp only [ASt.ev, tmPut, ↓reduceIte, Nat.reduceEqDiff, *]; rfl))) rfl (hr H2 (hob2 hK)).1) ?_
      refine OpsQ.act (by kernel_rfl) (ActStep.walk rfl rfl ?_)
      refine OpsL.c2 (hf := entersFTakes) (hc := (fTakesC W0 (hmi.ext hx hok) hlen hmod (hr H (hob2 hx)).2 hwl2)) (h := ?_)
      rintro v1 nx1 H1 ⟨rfl, hx1⟩
      replace hx1 := hx.trans hx1
      refine OpsL.nil ⟨fun _ _ => hx1, ?_⟩
      refine OpsQ.act (by kernel_rfl) (ActStep.walk rfl rfl ?_)
      refine OpsL.c2 (hf := entersFTakes) (hc := (fTakesC W0 (hmi2.ext hx1 hok) hlen2 hmod2 (hr H1 (hob2 hx1)).2 hwl2)) (h := ?_)
      rintro v2 nx2 H2 ⟨rfl, hx2⟩
      replace hx2 := hx1.trans hx2
      rw [htki]
      refine OpsL.nil ⟨fun _ _ => hx2, ?_⟩
      refine OpsQ.one rfl rfl rfl (by kernel_rfl) ?_
      refine OpsL.p (by subst_vars; decide) (aop_neqBF13 (a := takesF m (w.take i)) (b := takesF m (w.take i)) (by (first | (simp only [ASt.ev, tmPut, ↓reduceIte, Nat.reduceEqDiff, *]; done))) (by (first | (simp only [ASt.ev, tmPut, ↓reduceIte, Nat.reduceEqDiff, *]; done))) (by exact rfl) rfl) ?_
      refine OpsL.nil ?_
      refine OpsQ.nil ?_
      exact ⟨rfl, _, nx2, H2, rfl, by simp [tmPut, *], by simp [tmPut, *], by simp [tmPut, *], by simp [tmPut, *], by simp [tmPut, *], hx2⟩
    clear t7 t11 t12 t14 hx
    rintro e st ⟨rfl, tm, nx, H, rfl, t7, t11, t12, t14, t100, hx⟩
    (change Trip _ _ _ _ _)
    refine Trip.ifF ?_
    repeat (first | (refine OpsL.q (by first | exact omv | exact oadd | exact oasg) ?_) | (refine Trip.ops ?_) | (refine Trip.skip ?_; ((repeat (refine blockExit_normal ?_)); change Trip _ _ _ _ _)) | (refine OpsL.nil ?_; (dsimp only)))
    exact ⟨i + 1, ⟨_, nx, H, rfl, by simp [tmPut, *], by simp [tmPut, *], by simp [tmPut, *], by simp [tmPut, *], by omega, hx⟩, by omega⟩
  · repeat (first | (refine Trip.seq ?_) | (refine Trip.ops ?_) | (refine Trip.exit ?_; ((repeat (refine blockExit_eq ?_)); change Trip _ _ _ _ _)))
    repeat (first | (refine OpsL.q (by exact oasg) ?_) | (refine Trip.ret ?_; (skip)) | (refine OpsL.nil ?_; (change Trip _ _ _ _ _)))
    exact ⟨.inr rfl, _, res_tmp, by simp [tmPut]⟩
theorem core (W0 : World) (nx : Nat) (H : Heap) (a0 : Int) (w0 : (Lit.int .i64 a0).wf = true) (x1 : List Int) (w1 : ∀ x ∈ x1, (Lit.int .i64 x).wf = true) (x2 : List Int) (w2 : ∀ x ∈ x2, (Lit.int .i64 x).wf = true) (us : List Value)
    (hat : All2 (Arg.at H) [.plain (.int .i64 a0), .ints .i64 x1, .ints .i64 x2] us) (hok : ∀ id o, H id = some o → id < nx) : ACalls Try.prog W0 8 us nx H fun v _ _ => v = .bool true := by
  obtain ⟨u0, us, rfl, h0, hat⟩ := hat.cons
  obtain ⟨u1, us, rfl, h1, hat⟩ := hat.cons
  obtain ⟨u2, us, rfl, h2, hat⟩ := hat.cons
  obtain rfl := hat.nil
  obtain rfl : u0 = _ := h0
  exact law W0 h1.1 h2.1 (wf64 w0) hok
theorem own : ownKnob Try.prog.godebug = none := by kernel_rfl
theorem laidOut : laidOutB Try.prog = true := by kernel_rfl
theorem cells_ints : Try.prog.cellsOf 3 = 1 := by kernel_rfl
set_option maxRecDepth 100000 in
theorem lifted (os : Os) (started : os.Started) (H : Type) (enc : TypeId × Value → H) :
    ReturnsInHanded {} Try.checked os 8 .any (Rows.foldReachesSpec.pre6 enc Try.prog Try.f8 Rows.foldReachesRow.domain false) (Rows.foldReachesSpec.post enc Try.prog Try.f8 false true false false) := by
  refine returnsInHanded_of_change (C := Try.checked) own started (by kernel_rfl) Try.func8
    (ChangeSpec.witness6 (enc := enc) (C := Try.checked) false ⟨#[], #[.int .i64 0, .slice none 0 0, .slice none 0 0], []⟩ 8 (by kernel_rfl) (by kernel_rfl) (by kernel_rfl) (by kernel_rfl)) ?_
  intro W base args ds gs before hval0 hW _ _
  have hval : ∀ (j : Nat) t v, Try.f8.params[j]? = some t → args[j]? = some v → Value.okWide Try.prog W .any base t v := hval0
  have hW' := hW
  obtain ⟨p, q, hA0, hV, rfl, _, _⟩ := hW
  have hA : DataW.TrodAll enc Try.prog W 0 (fun _ => true) true Try.f8.params.toList args.toList ds p := hA0
  rw [Try.params8] at hA hval
  obtain ⟨v0, vs0, d0, ds0, p0, q0, hargs, rfl, rfl, h0, r0⟩ := trodAll_cons hA
  obtain ⟨v1, vs1, d1, ds1, p1, q1, rfl, rfl, rfl, h1, r1⟩ := trodAll_cons r0
  obtain ⟨v2, vs2, d2, ds2, p2, q2, rfl, rfl, rfl, h2, r2⟩ := trodAll_cons r1
  obtain ⟨rfl, rfl, rfl⟩ := trodAll_nil r2
  obtain rfl : args = #[v0, v1, v2] := by cases args; simp_all
  obtain ⟨rfl, rfl⟩ := trodVars_none hV
  obtain ⟨a0, rfl, rfl, rfl, w0⟩ := open_int Try.underlying3 (hval 0 3 v0 rfl rfl) h0
  obtain ⟨x1, c1, w1⟩ := came_ints Try.underlying22 Try.underlying3 cells_ints (hval 1 22 v1 rfl rfl) h1
  obtain ⟨x2, c2, w2⟩ := came_ints Try.underlying22 Try.underlying3 cells_ints (hval 2 22 v2 rfl rfl) h2
  clear hA0 hval0
  refine (law_calls (ars := [.plain (.int .i64 a0), .ints .i64 x1, .ints .i64 x2]) (vs := [_, _, _]) ⟨⟨rfl, rfl⟩, c1, c2, trivial⟩ (fun nx H us hat hok => core W nx H a0 w0 x1 w1 x2 w2 us hat hok)).mono fun e W' ⟨he, hg⟩ => ?_
  subst he
  exact ⟨_, rfl, law_post laidOut (by kernel_rfl) rfl Try.underlying4 rfl hW' rfl hg⟩
theorem over : Rows.foldReachesRow.holds Try.pinned (OpenSpec.ofChange Rows.foldReachesSpec) :=
  OpenClaim.holds_of_wide 8 Try.f8 rfl rfl rfl rfl rfl rfl rfl ⟨rfl, rfl, rfl, rfl, rfl⟩ rfl rfl rfl rfl rfl (by kernel_rfl) Try.func8 (by kernel_rfl)
    (of_decide_eq_true (by kernel_rfl)) (by unfold Func.isWrapper; first | (rw [if_pos (by decide +kernel)]; kernel_rfl) | (rw [if_neg (by decide +kernel)]; exact ⟨rfl, rfl⟩))
    (fun os started H enc _ => lifted os started H enc)
theorem proved : Rows.FoldReachesSaid := over
end Go.Proofs.Ytdadkkmpnecpbaa.foldReaches
