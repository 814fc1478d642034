/-
  Chapter 1: symbols found in a row; whether symbols may be.
-/
import Derived.Test.YtngekapiemkgnaaStr1
import Derived.Test.YtngekapiemkgnaaAmZ
namespace Go.Proofs.Ytngekapiemkgnaa
set_option linter.unusedSimpArgs false
set_option linter.unusedVariables false
open Go.Am Go.RowKit
attribute [local irreducible] aop OpsL Trip blockExit OpsD

/-- Symbols, by the bytes of their names. -/
def kss (ss : List (ByteArray × Int)) : List (List Int × Int) := ss.map fun s => (bs s.1, s.2)
def findI (x : List Int × Int) (ss : List (ByteArray × Int)) : Int := match findGo x (kss ss) 0 with
  | some j => j
  | none => -1

theorem findGo_shift (x : List Int × Int) : ∀ (l : List (List Int × Int)) (i : Nat), findGo x l i = (findGo x l 0).map (i + ·) := by
  intro l
  induction l with
  | nil => intro i; rfl
  | cons y l ih =>
    intro i
    simp only [findGo]
    split
    · rfl
    · rw [ih (i + 1), ih (0 + 1), Option.map_map]
      congr 1
      funext j
      simp only [Function.comp_apply]; omega

/-- None of the first i is it. -/
theorem findGo_skip {x : List Int × Int} {l : List (List Int × Int)} {i : Nat} (h : ∀ j (hj : j < l.length), j < i → l[j] ≠ x) : ∀ k, k ≤ i → k ≤ l.length → findGo x l 0 = findGo x (l.drop k) k := by
  intro k
  induction k with
  | zero => intro _ _; rfl
  | succ k ih =>
    intro hk hl
    rw [ih (by omega) (by omega), List.drop_eq_getElem_cons (by omega), findGo, if_neg (h k (by omega) (by omega))]

theorem findI_hit {x : List Int × Int} {ss : List (ByteArray × Int)} {i : Nat} (hi : i < ss.length) (h : ∀ j (hj : j < (kss ss).length), j < i → (kss ss)[j] ≠ x) (he : (kss ss)[i]'(by simpa [kss] using hi) = x) : findI x ss = i := by
  have hl : (kss ss).length = ss.length := by simp [kss]
  unfold findI
  rw [findGo_skip h i (Nat.le_refl _) (by omega), List.drop_eq_getElem_cons (by omega), findGo, if_pos he]
theorem findI_none {x : List Int × Int} {ss : List (ByteArray × Int)} (h : ∀ j (hj : j < (kss ss).length), (kss ss)[j] ≠ x) : findI x ss = -1 := by
  unfold findI
  rw [findGo_skip (i := (kss ss).length) (fun j hj _ => h j hj) (kss ss).length (Nat.le_refl _) (Nat.le_refl _), List.drop_length]
  rfl
theorem findI_range (x : List Int × Int) (ss : List (ByteArray × Int)) : -1 ≤ findI x ss ∧ findI x ss < ss.length := by
  by_cases h : ∃ j, ∃ hj : j < (kss ss).length, (kss ss)[j] = x
  · have hl : (kss ss).length = ss.length := by simp [kss]
    -- the first one
    have : ∀ n j (hj : j < (kss ss).length), j ≤ n → (kss ss)[j] = x → ∃ i, ∃ hi : i < (kss ss).length, (kss ss)[i] = x ∧ ∀ k (hk : k < (kss ss).length), k < i → (kss ss)[k] ≠ x := by
      intro n
      induction n with
      | zero => intro j hj h0 he; exact ⟨j, hj, he, fun k _ hk => by omega⟩
      | succ n ih =>
        intro j hj h0 he
        by_cases hx : ∃ k, ∃ hk : k < (kss ss).length, k < j ∧ (kss ss)[k] = x
        · obtain ⟨k, hk, hkj, hke⟩ := hx
          exact ih k hk (by omega) hke
        · exact ⟨j, hj, he, fun k hk hkj hke => hx ⟨k, hk, hkj, hke⟩⟩
    obtain ⟨j, hj, he⟩ := h
    obtain ⟨i, hi, h1, h2⟩ := this j j hj (Nat.le_refl _) he
    rw [findI_hit (by omega) h2 h1]
    omega
  · rw [findI_none (fun j hj he => h ⟨j, hj, he⟩)]
    omega

def boxO (x : ByteArray × Int) : AObj := .cells [.string x.1, .int .i64 x.2] 0 none false (some 45)
def symV (x : ByteArray × Int) : Value := .agg #[.string x.1, .int .i64 x.2]

theorem SymsAt.get {H : Heap} {a : Addr} {c n : Nat} {ss : List (ByteArray × Int)} (h : SymsAt H (.slice (some a) n c) ss) {i : Nat} (hi : i < ss.length) : getc H ⟨a.block, a.off + (i : Int).toNat * 2, a.spot⟩ 2 = some [.string ss[i].1, .int .i64 ss[i].2] := by
  obtain ⟨a', c', he, hs⟩ := h
  cases he
  simpa using hs i hi

/-- A row of symbols as it may be read, nil too. -/
def SymsR (H : Heap) (v : Value) (ss : List (ByteArray × Int)) : Prop := (v = .slice none 0 0 ∧ ss = []) ∨ SymsAt H v ss
theorem SymsR.slice {H : Heap} {v : Value} {ss : List (ByteArray × Int)} (h : SymsR H v ss) : ∃ a c, v = .slice a ss.length c := by
  rcases h with ⟨rfl, rfl⟩ | ⟨a, c, rfl, _⟩
  · exact ⟨none, 0, rfl⟩
  · exact ⟨some a, c, rfl⟩
theorem SymsR.get {H : Heap} {a : Option Addr} {c n : Nat} {ss : List (ByteArray × Int)} (h : SymsR H (.slice a n c) ss) {i : Nat} (hi : i < ss.length) : ∃ p, a = some p ∧ getc H ⟨p.block, p.off + (i : Int).toNat * 2, p.spot⟩ 2 = some [.string ss[i].1, .int .i64 ss[i].2] := by
  rcases h with ⟨_, rfl⟩ | h
  · simp at hi
  · obtain ⟨a', c', he, hs⟩ := h
    cases he
    exact ⟨a', rfl, by simpa using hs i hi⟩

set_option maxRecDepth 20000 in
set_option maxHeartbeats 4000000 in
theorem indexC (W0 : World) {nx : Nat} {H : Heap} {lv : Value} {ss : List (ByteArray × Int)} (x : ByteArray × Int) (hl : SymsR H lv ss) (hn : ss.length ≤ 1000000) (hok : ∀ id o, H id = some o → id < nx) :
    ACalls Try.prog W0 29 [lv, symV x] nx H fun v nx' H' => v = .int .i64 (findI (bs x.1, x.2) ss) ∧ nx' = nx + 1 ∧ H' = H.put nx (boxO x) := by
  obtain ⟨la, lc, rfl⟩ := hl.slice
  refine ACalls.by_trip (fn := Try.f29) (c := _) Try.func29 rfl (fun tm n hn0 htm => ?_)
  have e0 : tm 0 = .slice la ss.length lc := htm 0
  have e1 : tm 1 = symV x := htm 1
  clear htm
  replace hn0 : n = 19 := hn0
  have hk : (kss ss).length = ss.length := by simp [kss]
  have hkg : ∀ j (h : j < ss.length), (kss ss)[j]'(by omega) = (bs ss[j].1, ss[j].2) := fun j h => by simp [kss]
  refine Trip.seq (Trip.ops ?_)
  refine OpsL.new (o := boxO x) (by subst_vars; decide) (aop_box (v := symV x) (by (first | (simp only [ASt.ev, tmPut, ↓reduceIte, reduceIte, Nat.reduceEqDiff, plain1, *]; done) | fail))) ?_
  repeat (first | (refine OpsL.p (by subst_vars; decide) (by (first | (exact aop_move (by (first | (simp only [ASt.ev, tmPut, ↓reduceIte, reduceIte, Nat.reduceEqDiff, plain1, *]; rfl) | fail))) | (exact aop_assign (by (first | (simp only [ASt.ev, tmPut, ↓reduceIte, reduceIte, Nat.reduceEqDiff, plain1, *]; rfl) | fail))) | (exact aop_len (by (first | (simp only [ASt.ev, tmPut, ↓reduceIte, reduceIte, Nat.reduceEqDiff, plain1, *]; rfl) | fail)) (by exact rfl)) | fail)) ?_) | (refine Trip.seq ?_) | (refine Trip.ops ?_) | (refine Trip.block ?_) | (refine OpsL.nil ?_; ((repeat (first | refine blockExit_eq ?_ | refine blockExit_ne (by decide) ?_ | refine blockExit_normal ?_ | refine blockExit_ret ?_ | refine blockExit_goto ?_)); first | (change Trip _ _ _ _ _) | dsimp only | skip)) | fail)
  refine Trip.inv (fun (i : Nat) st => ∃ tm : Nat → Value, st = ⟨tm, n, H.put nx (boxO x), nx + 1⟩ ∧ tm 3 = .pointer (some ⟨nx, 0, none⟩) ∧ tm 6 = .slice la ss.length lc ∧ tm 0 = .slice la ss.length lc ∧ tm 7 = .int .i64 ss.length ∧ i ≤ ss.length ∧ tm 8 = .int .i64 i ∧ ∀ j (h : j < (kss ss).length), j < i → (kss ss)[j] ≠ (bs x.1, x.2)) (fun i => ss.length - i) 0 ?_ ?_
  · exact ⟨_, rfl, rfl, rfl, e0, rfl, by omega, rfl, fun j _ hj => by omega⟩
  · rintro i st ⟨tm, rfl, e3, e6, e0, e7, hi, e8, hnone⟩
    repeat (first | (refine OpsL.p (by subst_vars; decide) (by (first | (exact aop_move (by (first | (simp only [ASt.ev, tmPut, ↓reduceIte, reduceIte, Nat.reduceEqDiff, plain1, *]; rfl) | fail))) | (exact aop_assign (by (first | (simp only [ASt.ev, tmPut, ↓reduceIte, reduceIte, Nat.reduceEqDiff, plain1, *]; rfl) | fail))) | (exact aop_lss (by (first | (simp only [ASt.ev, tmPut, ↓reduceIte, reduceIte, Nat.reduceEqDiff, plain1, *]; rfl) | fail)) (by (first | (simp only [ASt.ev, tmPut, ↓reduceIte, reduceIte, Nat.reduceEqDiff, plain1, *]; rfl) | fail))) | fail)) ?_) | (refine Trip.seq ?_) | (refine Trip.ops ?_) | (refine Trip.block ?_) | (refine Trip.ite (by (first | (simp only [ASt.ev, tmPut, ↓reduceIte, reduceIte, Nat.reduceEqDiff, plain1, *]; rfl) | fail)) (fun _ => ?_) (fun _ => ?_)) | (refine Trip.skip ?_; ((repeat (first | refine blockExit_eq ?_ | refine blockExit_ne (by decide) ?_ | refine blockExit_normal ?_ | refine blockExit_ret ?_ | refine blockExit_goto ?_)); first | (change Trip _ _ _ _ _) | dsimp only | skip)) | (refine OpsL.nil ?_; ((repeat (first | refine blockExit_eq ?_ | refine blockExit_ne (by decide) ?_ | refine blockExit_normal ?_ | refine blockExit_ret ?_ | refine blockExit_goto ?_)); first | (change Trip _ _ _ _ _) | dsimp only | skip)) | fail)
    · have hlt : i < ss.length := by omega
      obtain ⟨p, rfl, hg⟩ := hl.get hlt
      have hpn : p.block ≠ nx := by
        obtain ⟨o, ho⟩ := getc_some hg
        have := hok _ _ ho
        simp only at this; omega
      have hgp : getc (H.put nx (boxO x)) ⟨p.block, p.off + (i : Int).toNat * 2, p.spot⟩ 2 = some [.string ss[i].1, .int .i64 ss[i].2] := by rw [getc_put (by exact hpn)]; exact hg
      repeat fail
      refine OpsL.drawn fit.mixed (by kernel_rfl) (by kernel_rfl) ?_
      refine OpsL.p (by subst_vars; decide) (aop_loadAgg (k := 2) (vs := [.string x.1, .int .i64 x.2]) (by (first | (simp only [ASt.ev, tmPut, ↓reduceIte, reduceIte, Nat.reduceEqDiff, plain1, *]; rfl) | fail)) (by exact rfl) rfl (by exact rfl) (by exact getc_own (by show 0 + 2 ≤ 2; decide))) ?_
      repeat (first | (refine OpsL.p (by subst_vars; decide) (by (first | (exact aop_move (by (first | (simp only [ASt.ev, tmPut, ↓reduceIte, reduceIte, Nat.reduceEqDiff, plain1, *]; rfl) | fail))) | (exact aop_indexAddr (by (first | (simp only [ASt.ev, tmPut, ↓reduceIte, reduceIte, Nat.reduceEqDiff, plain1, *]; rfl) | fail)) (by (first | (simp only [ASt.ev, tmPut, ↓reduceIte, reduceIte, Nat.reduceEqDiff, plain1, *]; rfl) | fail)) (by exact rfl) (by exact rfl) (by omega) (by omega)) | fail)) ?_) | fail)
      refine OpsL.p (by subst_vars; decide) (aop_loadAgg (k := 2) (by (first | (simp only [ASt.ev, tmPut, ↓reduceIte, reduceIte, Nat.reduceEqDiff, plain1, *]; rfl) | fail)) (by exact rfl) rfl (by exact rfl) hgp) ?_
      refine OpsL.p (by subst_vars; decide) (aop_eqlA (by (first | (simp only [ASt.ev, tmPut, ↓reduceIte, reduceIte, Nat.reduceEqDiff, plain1, *]; rfl) | fail)) (by (first | (simp only [ASt.ev, tmPut, ↓reduceIte, reduceIte, Nat.reduceEqDiff, plain1, *]; rfl) | fail)) (by kernel_rfl) (symEq _ _ _ _ _)) ?_
      repeat (first | (refine OpsL.p (by subst_vars; decide) (by (first | (exact aop_move (by (first | (simp only [ASt.ev, tmPut, ↓reduceIte, reduceIte, Nat.reduceEqDiff, plain1, *]; rfl) | fail))) | (exact aop_assign (by (first | (simp only [ASt.ev, tmPut, ↓reduceIte, reduceIte, Nat.reduceEqDiff, plain1, *]; rfl) | fail))) | fail)) ?_) | (refine Trip.seq ?_) | (refine Trip.ops ?_) | (refine Trip.ite (by (first | (simp only [ASt.ev, tmPut, ↓reduceIte, reduceIte, Nat.reduceEqDiff, plain1, *]; rfl) | fail)) (fun _ => ?_) (fun _ => ?_)) | (refine Trip.ret ?_; ((repeat (first | refine blockExit_eq ?_ | refine blockExit_ne (by decide) ?_ | refine blockExit_normal ?_ | refine blockExit_ret ?_ | refine blockExit_goto ?_)); first | (change Trip _ _ _ _ _) | dsimp only | skip)) | (refine OpsL.nil ?_; ((repeat (first | refine blockExit_eq ?_ | refine blockExit_ne (by decide) ?_ | refine blockExit_normal ?_ | refine blockExit_ret ?_ | refine blockExit_goto ?_)); first | (change Trip _ _ _ _ _) | dsimp only | skip)) | fail)
      · rename_i he
        refine ⟨.inr rfl, _, res_tmp, ?_, rfl, rfl⟩
        rw [findI_hit hlt hnone (by rw [hkg i hlt]; exact he.symm)]
        simp [tmPut]
      · rename_i he
        repeat (first | (refine OpsL.p (by subst_vars; decide) (by (first | (exact aop_move (by (first | (simp only [ASt.ev, tmPut, ↓reduceIte, reduceIte, Nat.reduceEqDiff, plain1, *]; rfl) | fail))) | (exact aop_add (by (first | (simp only [ASt.ev, tmPut, ↓reduceIte, reduceIte, Nat.reduceEqDiff, plain1, *]; rfl) | fail)) (by (first | (simp only [ASt.ev, tmPut, ↓reduceIte, reduceIte, Nat.reduceEqDiff, plain1, *]; rfl) | fail)) (by omega)) | fail)) ?_) | (refine Trip.ops ?_) | (refine Trip.skip ?_; ((repeat (first | refine blockExit_eq ?_ | refine blockExit_ne (by decide) ?_ | refine blockExit_normal ?_ | refine blockExit_ret ?_ | refine blockExit_goto ?_)); first | (change Trip _ _ _ _ _) | dsimp only | skip)) | (refine OpsL.nil ?_; ((repeat (first | refine blockExit_eq ?_ | refine blockExit_ne (by decide) ?_ | refine blockExit_normal ?_ | refine blockExit_ret ?_ | refine blockExit_goto ?_)); first | (change Trip _ _ _ _ _) | dsimp only | skip)) | fail)
        refine ⟨i + 1, ⟨_, rfl, e3, e6, e0, e7, by omega, by simp [tmPut], fun j h hj => ?_⟩, by omega⟩
        rcases Nat.lt_succ_iff_lt_or_eq.1 hj with h2 | rfl
        · exact hnone j h h2
        · rw [hkg j hlt]; exact fun h => he h.symm
    · repeat (first | (refine OpsL.p (by subst_vars; decide) (by (first | (exact aop_assign (by (first | (simp only [ASt.ev, tmPut, ↓reduceIte, reduceIte, Nat.reduceEqDiff, plain1, *]; rfl) | fail))) | fail)) ?_) | (refine Trip.seq ?_) | (refine Trip.ops ?_) | (refine Trip.exit ?_; ((repeat (first | refine blockExit_eq ?_ | refine blockExit_ne (by decide) ?_ | refine blockExit_normal ?_ | refine blockExit_ret ?_ | refine blockExit_goto ?_)); first | (change Trip _ _ _ _ _) | dsimp only | skip)) | (refine Trip.ret ?_; ((repeat (first | refine blockExit_eq ?_ | refine blockExit_ne (by decide) ?_ | refine blockExit_normal ?_ | refine blockExit_ret ?_ | refine blockExit_goto ?_)); first | (change Trip _ _ _ _ _) | dsimp only | skip)) | (refine OpsL.nil ?_; ((repeat (first | refine blockExit_eq ?_ | refine blockExit_ne (by decide) ?_ | refine blockExit_normal ?_ | refine blockExit_ret ?_ | refine blockExit_goto ?_)); first | (change Trip _ _ _ _ _) | dsimp only | skip)) | fail)
      refine ⟨.inr rfl, _, res_tmp, ?_, rfl, rfl⟩
      rw [findI_none (fun j hj => hnone j hj (by omega))]
      simp [tmPut]

theorem SymsR.ext {nx nx' : Nat} {H H' : Heap} {v : Value} {ss : List (ByteArray × Int)} (h : Ext nx H nx' H') (hok : ∀ id o, H id = some o → id < nx) (hs : SymsR H v ss) : SymsR H' v ss := by
  rcases hs with hs | hs
  · exact .inl hs
  · exact .inr (hs.ext h hok)
theorem ok_put {nx k : Nat} {H : Heap} {o : AObj} (hok : ∀ id o, H id = some o → id < nx) (hk : k < nx + 1) : ∀ id o', (H.put k o) id = some o' → id < nx + 1 := by
  intro id o' h
  by_cases e : id = k
  · omega
  · rw [Heap.put_ne e] at h
    have := hok _ _ h
    omega
theorem ext_put {nx : Nat} {H : Heap} {o : AObj} : Ext nx H (nx + 1) (H.put nx o) := ⟨by omega, fun i hi => Heap.put_ne (by omega)⟩

theorem entersIndex : Enters Try.prog 29 := ⟨Try.f29, Try.func29, by kernel_rfl, by kernel_rfl⟩
theorem entersContains : Enters Try.prog 34 := ⟨Try.f34, Try.func34, by kernel_rfl, by kernel_rfl⟩

set_option maxRecDepth 20000 in
set_option maxHeartbeats 4000000 in
theorem containsC (W0 : World) {nx : Nat} {H : Heap} {lv : Value} {ss : List (ByteArray × Int)} (x : ByteArray × Int) (hl : SymsR H lv ss) (hn : ss.length ≤ 1000000) (hok : ∀ id o, H id = some o → id < nx) :
    ACalls Try.prog W0 34 [lv, symV x] nx H fun v nx' H' => v = .bool (decide (0 ≤ findI (bs x.1, x.2) ss)) ∧ nx' = nx + 1 + 1 ∧ H' = (H.put nx (boxO x)).put (nx + 1) (boxO x) := by
  refine ACalls.by_trip (fn := Try.f34) (c := _) Try.func34 rfl (fun tm n hn0 htm => ?_)
  have e0 : tm 0 = lv := htm 0
  have e1 : tm 1 = symV x := htm 1
  clear htm
  replace hn0 : n = 9 := hn0
  refine Trip.seq (Trip.ops ?_)
  refine OpsL.new (o := boxO x) (by subst_vars; decide) (aop_box (v := symV x) (by (first | (simp only [ASt.ev, tmPut, ↓reduceIte, reduceIte, Nat.reduceEqDiff, plain1, *]; done) | fail))) ?_
  repeat (first | (refine OpsL.p (by subst_vars; decide) (by (first | (exact aop_move (by (first | (simp only [ASt.ev, tmPut, ↓reduceIte, reduceIte, Nat.reduceEqDiff, plain1, *]; rfl) | fail))) | (exact aop_assign (by (first | (simp only [ASt.ev, tmPut, ↓reduceIte, reduceIte, Nat.reduceEqDiff, plain1, *]; rfl) | fail))) | fail)) ?_) | (refine Trip.seq ?_) | (refine Trip.ops ?_) | (refine OpsL.nil ?_; ((repeat (first | refine blockExit_eq ?_ | refine blockExit_ne (by decide) ?_ | refine blockExit_normal ?_ | refine blockExit_ret ?_ | refine blockExit_goto ?_)); first | (change Trip _ _ _ _ _) | dsimp only | skip)) | fail)
  refine OpsL.p (by subst_vars; decide) (aop_loadAgg (k := 2) (vs := [.string x.1, .int .i64 x.2]) (by (first | (simp only [ASt.ev, tmPut, ↓reduceIte, reduceIte, Nat.reduceEqDiff, plain1, *]; rfl) | fail)) (by exact rfl) rfl (by exact rfl) (by exact getc_own (by show 0 + 2 ≤ 2; decide))) ?_
  refine OpsL.call2 (by subst_vars; decide) (by (first | (simp only [ASt.ev, tmPut, ↓reduceIte, reduceIte, Nat.reduceEqDiff, plain1, *]; done) | fail)) (by (first | (simp only [ASt.ev, tmPut, ↓reduceIte, reduceIte, Nat.reduceEqDiff, plain1, *]; rfl) | fail)) entersIndex (indexC W0 x (hl.ext ext_put hok) hn (ok_put hok (by omega))) ?_
  rintro v nx1 H1 ⟨rfl, rfl, rfl⟩
  repeat (first | (refine OpsL.p (by subst_vars; decide) (by (first | (exact aop_assign (by (first | (simp only [ASt.ev, tmPut, ↓reduceIte, reduceIte, Nat.reduceEqDiff, plain1, *]; rfl) | fail))) | (exact aop_geq (by (first | (simp only [ASt.ev, tmPut, ↓reduceIte, reduceIte, Nat.reduceEqDiff, plain1, *]; rfl) | fail)) (by (first | (simp only [ASt.ev, tmPut, ↓reduceIte, reduceIte, Nat.reduceEqDiff, plain1, *]; rfl) | fail))) | fail)) ?_) | (refine Trip.ret ?_; ((repeat (first | refine blockExit_eq ?_ | refine blockExit_ne (by decide) ?_ | refine blockExit_normal ?_ | refine blockExit_ret ?_ | refine blockExit_goto ?_)); first | (change Trip _ _ _ _ _) | dsimp only | skip)) | (refine OpsL.nil ?_; ((repeat (first | refine blockExit_eq ?_ | refine blockExit_ne (by decide) ?_ | refine blockExit_normal ?_ | refine blockExit_ret ?_ | refine blockExit_goto ?_)); first | (change Trip _ _ _ _ _) | dsimp only | skip)) | fail)
  exact ⟨.inr rfl, _, res_tmp, by simp [tmPut], rfl, rfl⟩

/-! ### may these symbols be? -/

def kindOk (k : Int) : Prop := k = 1 ∨ k = 2 ∨ k = 3
def goodAt (l : List (List Int × Int)) (j : Nat) : Prop := ∀ h : j < l.length, okName l[j].1 ∧ kindOk l[j].2 ∧ ∀ k (hk : k < l.length), k < j → l[k] ≠ l[j]
/-- What is told of the symbols. -/
def Chk (l : List (List Int × Int)) (r : Int) : Prop :=
  (r = 0 ∧ ∀ j, j < l.length → goodAt l j) ∨ ∃ i, ∃ h : i < l.length, (∀ j, j < i → goodAt l j) ∧ ((¬ okName l[i].1 ∧ r = 4) ∨ (okName l[i].1 ∧ ¬ kindOk l[i].2 ∧ r = 7) ∨ (okName l[i].1 ∧ kindOk l[i].2 ∧ (∃ k, ∃ hk : k < l.length, k < i ∧ l[k] = l[i]) ∧ r = 5))

theorem Chk.unique {l : List (List Int × Int)} {r q : Int} (h1 : Chk l r) (h2 : Chk l q) : r = q := by
  have bad : ∀ i (h : i < l.length), ((¬ okName l[i].1) ∨ (okName l[i].1 ∧ ¬ kindOk l[i].2) ∨ (okName l[i].1 ∧ kindOk l[i].2 ∧ (∃ k, ∃ hk : k < l.length, k < i ∧ l[k] = l[i]))) → ¬ goodAt l i := fun i h hb hg => by
    obtain ⟨a, b, c⟩ := hg h
    rcases hb with hb | ⟨_, hb⟩ | ⟨_, _, k, hk, hki, he⟩
    · exact hb a
    · exact hb b
    · exact c k hk hki he
  have weak : ∀ i (h : i < l.length) (t : Int), ((¬ okName l[i].1 ∧ t = 4) ∨ (okName l[i].1 ∧ ¬ kindOk l[i].2 ∧ t = 7) ∨ (okName l[i].1 ∧ kindOk l[i].2 ∧ (∃ k, ∃ hk : k < l.length, k < i ∧ l[k] = l[i]) ∧ t = 5)) → ¬ goodAt l i := fun i h t ht => by
    rcases ht with ⟨a, _⟩ | ⟨a, b, _⟩ | ⟨a, b, c, _⟩
    · exact bad i h (.inl a)
    · exact bad i h (.inr (.inl ⟨a, b⟩))
    · exact bad i h (.inr (.inr ⟨a, b, c⟩))
  rcases h1 with ⟨rfl, g1⟩ | ⟨i, hi, g1, c1⟩
  · rcases h2 with ⟨rfl, _⟩ | ⟨j, hj, _, c2⟩
    · rfl
    · exact absurd (g1 j hj) (weak j hj q c2)
  · rcases h2 with ⟨rfl, g2⟩ | ⟨j, hj, g2, c2⟩
    · exact absurd (g2 i hi) (weak i hi r c1)
    · have : i = j := by
        rcases Nat.lt_trichotomy i j with c | c | c
        · exact absurd (g2 i c) (weak i hi r c1)
        · exact c
        · exact absurd (g1 j c) (weak j hj q c2)
      subst this
      rcases c1 with ⟨a, rfl⟩ | ⟨a, b, rfl⟩ | ⟨a, b, _, rfl⟩ <;> rcases c2 with ⟨a', rfl⟩ | ⟨a', b', rfl⟩ | ⟨a', b', _, rfl⟩ <;> first | rfl | (exact absurd a' a) | (exact absurd a a') | (exact absurd b' b) | (exact absurd b b')

/-- What is told of a row of symbols: too few, too many; else as above. -/
def ChkF (ss : List (ByteArray × Int)) (r : Int) : Prop := ((ss.length = 0 ∨ 20 < ss.length) ∧ r = 2) ∨ (¬ (ss.length = 0 ∨ 20 < ss.length) ∧ Chk (kss ss) r)
theorem ChkF.unique {ss : List (ByteArray × Int)} {r q : Int} (h1 : ChkF ss r) (h2 : ChkF ss q) : r = q := by
  rcases h1 with ⟨a, rfl⟩ | ⟨a, h1⟩ <;> rcases h2 with ⟨b, rfl⟩ | ⟨b, h2⟩
  · rfl
  · exact absurd a b
  · exact absurd b a
  · exact h1.unique h2


/-- A row whose fronts may be taken. -/
def FrontOk (H : Heap) (v : Value) (n : Nat) : Prop := v = .slice none 0 0 ∨ ∃ a c o, v = .slice (some a) n c ∧ n ≤ c ∧ H a.block = some o ∧ o.tag = a.spot ∧ (a.spot = none ∨ o.esz = 2)
theorem FrontOk.ext {nx nx' n : Nat} {H H' : Heap} {v : Value} (h : Ext nx H nx' H') (hok : ∀ id o, H id = some o → id < nx) (hf : FrontOk H v n) : FrontOk H' v n := by
  rcases hf with hf | ⟨a, c, o, h1, h2, h3, h4, h5⟩
  · exact .inl hf
  · exact .inr ⟨a, c, o, h1, h2, by rw [h.2 _ (hok _ _ h3)]; exact h3, h4, h5⟩

theorem syms_front {H : Heap} {v : Value} {ss : List (ByteArray × Int)} {k : Nat} {hi : Option Value} (hs : SymsR H v ss) (hf : FrontOk H v ss.length) (hk : k ≤ ss.length) (hh : Bd hi ss.length k) :
    ∃ r, aSlice Try.prog H 24 v none hi none = some r ∧ SymsR H r (ss.take k) := by
  have hlen : (ss.take k).length = k := by rw [List.length_take]; omega
  rcases hs with ⟨rfl, rfl⟩ | ⟨a, c, rfl, hs⟩
  · have : k = 0 := by simpa using hk
    subst this
    exact ⟨_, aSlice_nil (el := 45) (sz := 2) (by exact rfl) (by exact rfl) (.inl ⟨rfl, rfl⟩) hh, .inl ⟨rfl, rfl⟩⟩
  · rcases hf with hf | ⟨a', c', o, he, hc, ho, ht, hsp⟩
    · cases hf
    · cases he
      have hrow : SymsR H (.slice (some a) k (if a.spot = none then c else k)) (ss.take k) := .inr ⟨a, _, by rw [hlen], fun i hi2 => by
        rw [hlen] at hi2
        rw [List.getElem_take]
        exact hs i (by omega)⟩
      obtain ⟨b, off, sp⟩ := a
      cases sp with
      | none =>
        refine ⟨_, aSlice_plain (el := 45) (sz := 2) (by exact rfl) (by exact rfl) ho ht rfl (.inl ⟨rfl, rfl⟩) hh (Nat.zero_le _) (by omega), ?_⟩
        have e : (if c = 0 then (⟨b, off, none⟩ : Addr) else ⟨b, off + 0 * 2, none⟩) = ⟨b, off, none⟩ := by split <;> simp
        simp only [e, Nat.sub_zero]
        exact hrow
      | some t =>
        refine ⟨_, aSlice_tagged (el := 45) (sz := 2) (by exact rfl) (by exact rfl) ho ht rfl (by rcases hsp with h | h; cases h; exact h) (.inl ⟨rfl, rfl⟩) hh (Nat.zero_le _) hk, ?_⟩
        simp only [Nat.zero_mul, Nat.add_zero, Nat.lt_irrefl, and_false, if_false, Nat.sub_zero]
        exact hrow

theorem put_put {H : Heap} {k : Nat} {o o' : AObj} : (H.put k o).put k o' = H.put k o' := by
  funext i
  by_cases e : i = k
  · simp [Heap.put, e]
  · simp [Heap.put, e]

theorem kss_length (ss : List (ByteArray × Int)) : (kss ss).length = ss.length := by simp [kss]
theorem kss_get {ss : List (ByteArray × Int)} {j : Nat} (h : j < ss.length) (h' : j < (kss ss).length) : (kss ss)[j] = (bs ss[j].1, ss[j].2) := by simp [kss]

/-- Found among the first i. -/
theorem findI_take {x : List Int × Int} {ss : List (ByteArray × Int)} {i : Nat} : 0 ≤ findI x (ss.take i) ↔ ∃ k, ∃ hk : k < (kss ss).length, k < i ∧ (kss ss)[k] = x := by
  have hkt : kss (ss.take i) = (kss ss).take i := by simp [kss]
  constructor
  · intro h
    by_cases hx : ∃ k, ∃ hk : k < (kss ss).length, k < i ∧ (kss ss)[k] = x
    · exact hx
    · rw [findI_none (fun j hj he => hx ⟨j, by rw [hkt, List.length_take] at hj; omega, by rw [hkt, List.length_take] at hj; omega, by simpa [hkt] using he⟩)] at h
      omega
  · rintro ⟨k, hk, hki, he⟩
    have h1 := findI_range x (ss.take i)
    by_cases h0 : 0 ≤ findI x (ss.take i)
    · exact h0
    · exfalso
      have hm : findI x (ss.take i) = -1 := by omega
      unfold findI at hm
      cases hf : findGo x (kss (ss.take i)) 0 with
      | some j => rw [hf] at hm; simp only at hm; omega
      | none =>
        have mem : ∀ (l : List (List Int × Int)) (n : Nat), findGo x l n = none → x ∉ l := by
          intro l
          induction l with
          | nil => intro n _ h; cases h
          | cons y l ih =>
            intro n h hmem
            simp only [findGo] at h
            split at h
            · cases h
            · rename_i hne
              rcases List.mem_cons.1 hmem with rfl | hm2
              · exact hne rfl
              · exact ih _ h hm2
        refine mem _ _ hf ?_
        rw [hkt, List.mem_take_iff_getElem]
        exact ⟨k, by omega, he⟩

end Go.Proofs.Ytngekapiemkgnaa
