/-
  A table's links over trees: keys held against one another, looked up, laid; linkOf.
-/
import Derived.Test.YtigincejpjajpaaTrie2
namespace Go.Proofs.Ytigincejpjajpaa
set_option linter.unusedSimpArgs false
set_option linter.unusedVariables false
set_option maxRecDepth 20000
open Go.RowKit Go.Am

section
variable {P : Program} {W0 : World} {H : Heap} {nx n : Nat} {ev : Operand → Option Value} {dst : Option Tmp} {type : TypeId} {pos : String} {after : Array Edge} {guard : Option (Nat × Bool)}
theorem aop_nilCheck {x : Operand} {a : Addr} (hx : ev x = some (.pointer (some a))) : aop P H nx ev ⟨dst, .nilCheck x, type, pos, after, guard⟩ = some (.pointer (some a), .none) := by simp [aop, hx]
theorem aop_lookup {t : TypeId} {x i : Operand} {ok : Bool} {v k r : Value} (hx : ev x = some v) (hi : ev i = some k) (h : aLookup P H t v k ok = some r) : aop P H nx ev ⟨dst, .lookup t x i ok, type, pos, after, guard⟩ = some (r, .none) := by simp [aop, hx, hi, h]
theorem aop_mapUpdate {t : TypeId} {m k x : Operand} {a b c : Value} {e : Eff} (hm : ev m = some a) (hk : ev k = some b) (hx : ev x = some c) (h : aMapUpdate P H t a b c = some e) : aop P H nx ev ⟨dst, .mapUpdate t m k x, type, pos, after, guard⟩ = some (undef, e) := by simp [aop, hm, hk, hx, h]
theorem aop_makeMap {t : TypeId} : aop P H nx ev ⟨dst, .makeMap t none, type, pos, after, guard⟩ = some (.map (some nx), .new (.map [] [] 0)) := by simp [aop, evOpt, aMakeMap]
theorem aop_eqlM {t u : TypeId} {x y : Operand} {a b : Option Nat} {r : Bool} (hx : ev x = some (.map a)) (hy : ev y = some (.map b)) (he : aEq P H 60 t (.map a) (.map b) = some r) :
    aop P H nx ev ⟨dst, .binOp .eql t x y u, type, pos, after, guard⟩ = some (.bool r, .none) := by simp [aop, hx, hy, aBin, eqOk, he]
theorem aop_eqlS {t u : TypeId} {x y : Operand} {a b : Option Addr} {l1 c1 l2 c2 : Nat} {r : Bool} (hx : ev x = some (.slice a l1 c1)) (hy : ev y = some (.slice b l2 c2)) (he : aEq P H 60 t (.slice a l1 c1) (.slice b l2 c2) = some r) :
    aop P H nx ev ⟨dst, .binOp .eql t x y u, type, pos, after, guard⟩ = some (.bool r, .none) := by simp [aop, hx, hy, aBin, eqOk, he]
theorem aop_lenM {t kt et : TypeId} {x : Operand} {m : Nat} {es : List (Value × Value)} {bs : List Nat} {clk : Nat} (hx : ev x = some (.map (some m))) (hu : P.underlying t = some (.map kt et)) (hm : H m = some (.map es bs clk)) :
    aop P H nx ev ⟨dst, .call ⟨.builtin .len, #[x], #[t]⟩, type, pos, after, guard⟩ = some (.int .i64 es.length, .none) := by simp [aop, hx, evAll, aBuiltin, aLen, hu, hm]
theorem aop_copy {ts : Array TypeId} {x y : Operand} {v u : Value} {r : Value × Eff} (hx : ev x = some v) (hy : ev y = some u) (h : aCopy P H ts v u = some r) :
    aop P H nx ev ⟨dst, .call ⟨.builtin .copy, #[x, y], ts⟩, type, pos, after, guard⟩ = some r := by simp [aop, evAll, hx, hy, aBuiltin, h]
end
attribute [local irreducible] aop OpsL Trip blockExit OpsD OpsK OpsR

/-- A key's cells. -/
def keyV (k : List (Int × Int)) : Value := .agg (k.flatMap encP).toArray
def encE (e : List (Int × Int) × Int) : Value × Value := (keyV e.1, .int .i64 e.2)

theorem pairEq59 (H : Heap) (x y : Int × Int) : aEq Try.prog H 59 27 (.agg (encP x).toArray) (.agg (encP y).toArray) = some (decide (x = y)) := by
  have h1 : Try.prog.stoodInHeld 27 = false := by kernel_rfl
  obtain ⟨a, b⟩ := x
  obtain ⟨c, d⟩ := y
  have key : aEq Try.prog H 59 27 (.agg (encP (a, b)).toArray) (.agg (encP (c, d)).toArray) = some ((a == c) && (b == d)) := by
    cases h : (a == c) <;> cases h2 : (b == d) <;> simp [encP, aEq, eqFields, getPart, isAggD, h, h2, h1, Try.underlying27, Try.underlying3]
  rw [key]
  congr 1
  rw [Bool.eq_iff_iff]
  simp

theorem pairPart (k : List (Int × Int)) (i : Nat) (h : i < k.length) : getPart Try.prog 27 (k.flatMap encP) (i * 2) = some (.agg (encP k[i]).toArray) := by
  have hfl := flat_len encP_len k
  have hle : (i + 1) * 2 ≤ k.length * 2 := Nat.mul_le_mul_right 2 h
  unfold getPart
  rw [Try.underlying27]
  simp only [isAggD, if_true, show szOf Try.prog 27 = some 2 from rfl]
  rw [if_pos (by rw [hfl]; omega), flat_at encP_len k i h]

theorem items_pairs (H : Heap) (k k2 : List (Int × Int)) : ∀ (is : List Nat), (∀ i ∈ is, i < k.length ∧ i < k2.length) → eqItems Try.prog (aEq Try.prog H 59) 27 2 (k.flatMap encP) (k2.flatMap encP) is = some (decide (∀ i ∈ is, k[i]? = k2[i]?)) := by
  intro is
  induction is with
  | nil => intro _; simp [eqItems]
  | cons i is ih =>
    intro h
    obtain ⟨h1, h2⟩ := h i List.mem_cons_self
    have := ih fun j hj => h j (List.mem_cons_of_mem _ hj)
    simp only [eqItems, pairPart k i h1, pairPart k2 i h2, pairEq59]
    by_cases he : k[i] = k2[i]
    · rw [decide_eq_true he]
      simp only [this]
      congr 1
      rw [Bool.eq_iff_iff]
      simp only [decide_eq_true_eq, List.mem_cons, forall_eq_or_imp, List.getElem?_eq_getElem h1, List.getElem?_eq_getElem h2, he, true_and]
    · rw [decide_eq_false he]
      simp only
      congr 1
      symm
      rw [decide_eq_false_iff_not]
      intro hh
      have := hh i List.mem_cons_self
      rw [List.getElem?_eq_getElem h1, List.getElem?_eq_getElem h2] at this
      exact he (Option.some.inj this)

theorem aEq_arr {P : Program} {H : Heap} {t el : TypeId} {len sz : Nat} {xs ys : Array Value} (d : Nat) (hu : P.underlying t = some (.array len el)) (hs : szOf P el = some sz) : aEq P H (d + 1) t (.agg xs) (.agg ys) = eqItems P (aEq P H d) el sz xs.toList ys.toList (List.range len) := by
  simp only [aEq, hu, hs]

theorem keyEq (H : Heap) (k k2 : List (Int × Int)) (h1 : k.length = 8) (h2 : k2.length = 8) : aEq Try.prog H 60 72 (keyV k) (keyV k2) = some (decide (k = k2)) := by
  have := items_pairs H k k2 (List.range 8) fun i hi => by rw [List.mem_range] at hi; omega
  unfold keyV
  rw [aEq_arr 59 Try.underlying72 (show szOf Try.prog 27 = some 2 from rfl), this]
  congr 1
  rw [Bool.eq_iff_iff, decide_eq_true_eq, decide_eq_true_eq]
  constructor
  · intro h
    apply List.ext_getElem?
    intro i
    by_cases hi : i < 8
    · exact h i (List.mem_range.2 hi)
    · rw [List.getElem?_eq_none (by omega), List.getElem?_eq_none (by omega)]
  · intro h i _
    rw [h]

theorem find_links (H : Heap) (k : List (Int × Int)) (hk : k.length = 8) : ∀ (M : Links) (i : Nat), (∀ e ∈ M, e.1.length = 8) →
    (look M k = none → aFind Try.prog H 72 (keyV k) (M.map encE) i = some none) ∧ ∀ v, look M k = some v → ∃ j, aFind Try.prog H 72 (keyV k) (M.map encE) i = some (some (j, .int .i64 v)) := by
  intro M
  induction M with
  | nil => intro i _; exact ⟨fun _ => rfl, fun v h => by cases h⟩
  | cons e M ih =>
    intro i hM
    obtain ⟨k', v'⟩ := e
    have h8 : k'.length = 8 := hM (k', v') List.mem_cons_self
    have he := keyEq H k k' hk h8
    obtain ⟨i1, i2⟩ := ih (i + 1) fun e he => hM e (List.mem_cons_of_mem _ he)
    simp only [List.map_cons, encE, aFind, he, look]
    by_cases hkk : k = k'
    · rw [decide_eq_true hkk, if_pos hkk]
      exact ⟨fun h => (by cases h), fun v h => ⟨i, (by cases h; rfl)⟩⟩
    · rw [decide_eq_false hkk, if_neg hkk]
      exact ⟨i1, i2⟩

theorem key_ok (k : List (Int × Int)) (hk : k.length = 8) (H : Heap) : aCheckKey Try.prog 60 72 (keyV k) = true ∧ keyOk H (keyV k) = true := by
  match k, hk with
  | [a, b, c, d, e, f, g, h], _ => exact ⟨by kernel_rfl, by kernel_rfl⟩

/-- A map that holds so many links. -/
def LinksAt (H : Heap) (lv : Value) (M : Links) : Prop := (∀ e ∈ M, e.1.length = 8) ∧ ((lv = .map none ∧ M = []) ∨ ∃ m bs clk, lv = .map (some m) ∧ H m = some (.map (M.map encE) bs clk))

theorem LinksAt.told {H : Heap} {lv : Value} {M : Links} {k : List (Int × Int)} (h : LinksAt H lv M) (hk : k.length = 8) :
    aLookup Try.prog H 59 lv (keyV k) true = some (match look M k with | some v => .tuple #[.int .i64 v, .bool true] | none => .tuple #[.int .i64 0, .bool false]) := by
  obtain ⟨h8, h⟩ := h
  have hm : mapOf H lv = some (M.map encE) := by
    rcases h with ⟨rfl, rfl⟩ | ⟨m, bs, clk, rfl, hm⟩
    · rfl
    · simp only [mapOf, hm]
  obtain ⟨f1, f2⟩ := find_links H k hk M 0 h8
  obtain ⟨c1, c2⟩ := key_ok k hk H
  unfold aLookup
  simp only [Try.underlying59, hm, show zeroV Try.prog 3 = some (.int .i64 0) from rfl, c1, show (Try.prog.underlying 72).isSome = true from rfl, and_self, if_true]
  cases hl : Go.Proofs.Ytigincejpjajpaa.look M k with
  | none => simp only [f1 hl, if_true]
  | some v =>
    obtain ⟨j, hj⟩ := f2 v hl
    simp only [hj, if_true]

theorem LinksAt.put {H : Heap} {m : Nat} {M : Links} {bs : List Nat} {clk : Nat} {k : List (Int × Int)} {v : Int} (h8 : ∀ e ∈ M, e.1.length = 8) (hm : H m = some (.map (M.map encE) bs clk)) (hk : k.length = 8) (hl : look M k = none) :
    aMapUpdate Try.prog H 59 (.map (some m)) (keyV k) (.int .i64 v) = some (.upd m (.map ((M ++ [(k, v)]).map encE) (bs ++ [clk]) (clk + 1))) := by
  obtain ⟨f1, _⟩ := find_links H k hk M 0 h8
  obtain ⟨c1, c2⟩ := key_ok k hk H
  unfold aMapUpdate
  simp only [Try.underlying59, hm, c1, c2, show (Try.prog.underlying 72).isSome = true from rfl, and_self, if_true, f1 hl, List.map_append, List.map_cons, List.map_nil, encE]

theorem entersLink : Am.Enters Try.prog 54 := ⟨Try.f54, Try.func54, by kernel_rfl, by kernel_rfl⟩

theorem rows_srcN {α : Type} {enc : α → List Value} {sz m : Nat} {H : Heap} {v : Value} {l : List α} (hk : ∀ x, (enc x).length = sz) (h0 : 0 < sz) (h : RowsAt enc sz H v l) (hm : l.length ≤ m) : source H sz v (some m) = some (l.length, l.flatMap enc) := by
  have := rows_src hk h0 h
  obtain ⟨a, c, rfl⟩ := h.slice
  cases a with
  | none => exact this
  | some a =>
    unfold source at this ⊢
    simp only [cut, show Nat.min l.length m = l.length from Nat.min_eq_left hm] at this ⊢
    exact this

/-- So many cells of nothing. -/
def zs (n : Nat) : List Value := List.replicate n (.int .i64 0)

theorem setc_all {H : Heap} {b e : Nat} {t : Option Nat} {q : Option TypeId} {c vs : List Value} (hH : H b = some (.cells c e t false q)) (hl : vs.length = c.length) (h1 : vs.all (·.oneCell') = true) : setc H ⟨b, 0, t⟩ vs = some (.cells vs e t false q) := by
  unfold setc
  simp only [hH]
  rw [if_pos ⟨trivial, by omega, trivial, h1⟩]
  simp [hl]

theorem put_same {H : Heap} {b : Nat} {o : AObj} (h : H b = some o) : H.put b o = H := by
  funext i
  by_cases hi : i = b
  · subst hi; rw [Heap.put_eq, h]
  · rw [Heap.put_ne hi]

theorem copy_pairs {H : Heap} {nx b off e m : Nat} {q : Option TypeId} {C : List Value} {u : Value} {p : List (Int × Int)} {ts : Array TypeId} (hp : PairsAt H u p) (hm : p.length ≤ m) (ht : ts[0]? = some 24) (hb : H b = some (.cells C e none false q)) (hl : off + 2 * p.length ≤ C.length) :
    ∃ ef, aCopy Try.prog H ts (.slice (some ⟨b, off, none⟩) m m) u = some (.int .i64 p.length, ef) ∧ ef.H nx H = H.put b (.cells (C.take off ++ p.flatMap encP ++ C.drop (off + 2 * p.length)) e none false q) ∧ ef.nx nx = nx := by
  have hs := rows_srcN encP_len (by omega) hp hm
  have hfl := flat_len encP_len p
  have hone : (p.flatMap encP).all (·.oneCell') = true := by
    rw [List.all_eq_true]
    intro v hv
    obtain ⟨x, _, hx⟩ := List.mem_flatMap.1 hv
    exact List.all_eq_true.1 (encP_one x) v hx
  unfold aCopy
  simp only [ht, Try.underlying24, show szOf Try.prog 27 = some 2 from rfl, hs]
  by_cases h0 : p.length = 0
  · have hnil : p = [] := List.eq_nil_of_length_eq_zero h0
    subst hnil
    refine ⟨.none, by simp, ?_, rfl⟩
    show H = _
    rw [List.flatMap_nil, List.append_nil, List.length_nil, Nat.mul_zero, Nat.add_zero, List.take_append_drop, put_same hb]
  · rw [if_neg (by omega)]
    refine ⟨.upd b (.cells (C.take off ++ p.flatMap encP ++ C.drop (off + 2 * p.length)) e none false q), ?_, rfl, rfl⟩
    unfold setc
    simp only [hb]
    rw [if_pos ⟨trivial, by rw [hfl]; omega, trivial, hone⟩, hfl, Nat.mul_comm]
    rfl

theorem zs_flat (m : Nat) : (List.replicate m ((0 : Int), (0 : Int))).flatMap encP = zs (2 * m) := by
  induction m with
  | zero => rfl
  | succ m ih =>
    rw [List.replicate_succ, List.flatMap_cons, ih, show 2 * (m + 1) = 2 * m + 1 + 1 by omega]
    rfl
theorem link_cells {a : Int} {p : List (Int × Int)} (h7 : p.length ≤ 7) : ([Value.int .i64 a, Value.int .i64 p.length] ++ zs 14).take (0 + 1 * 2) ++ p.flatMap encP ++ ([Value.int .i64 a, Value.int .i64 p.length] ++ zs 14).drop (0 + 1 * 2 + 2 * p.length) = (linkF a p).flatMap encP := by
  unfold linkF
  rw [List.flatMap_cons, List.flatMap_append, zs_flat, show 0 + 1 * 2 = 2 from rfl, ← List.drop_drop]
  show [Value.int .i64 a, Value.int .i64 p.length] ++ p.flatMap encP ++ (zs 14).drop (2 * p.length) = _
  rw [show (zs 14).drop (2 * p.length) = zs (2 * (7 - p.length)) by unfold zs; rw [List.drop_replicate]; congr 1; omega, List.append_assoc]
  rfl

/-- Kept out of the way. -/
def Keep (p : Prop) : Prop := p

/-- What linkOf leaves. -/
def linkG (nx : Nat) (H : Heap) (a : Int) (p : List (Int × Int)) : Heap :=
  ((((H.put nx (.cells (zs 16) 0 none false (some 72))).put (nx + 1) (.cells (zs 16) 0 none false (some 72))).put (nx + 1) (.cells ([Value.int .i64 a, Value.int .i64 p.length] ++ zs 14) 0 none false (some 72))).put (nx + 1) (.cells ((linkF a p).flatMap encP) 0 none false (some 72))).put nx (.cells ((linkF a p).flatMap encP) 0 none false (some 72))
theorem linkG_ext {nx : Nat} {H : Heap} {a : Int} {p : List (Int × Int)} : Ext nx H (nx + 2) (linkG nx H a p) := by
  refine ⟨by omega, fun i hi => ?_⟩
  unfold linkG
  rw [Heap.put_ne (by omega), Heap.put_ne (by omega), Heap.put_ne (by omega), Heap.put_ne (by omega), Heap.put_ne (by omega)]

set_option maxRecDepth 20000 in
set_option maxHeartbeats 4000000 in
theorem linkD (W0 : World) {nx : Nat} {H : Heap} {pv : Value} {p : List (Int × Int)} {a : Int} (hp : PairsAt H pv p) (h7 : p.length ≤ 7) :
    ACalls Try.prog W0 54 [.int .i64 a, pv] nx H fun v nx' H' => v = keyV (linkF a p) ∧ nx' = nx + 2 ∧ H' = linkG nx H a p := by
  obtain ⟨pa, pc, rfl⟩ := hp.slice
  refine ACalls.by_trip (fn := Try.f54) (c := _) Try.func54 rfl (fun tm n hn0 htm => ?_)
  have e0 : tm 0 = .int .i64 a := htm 0
  have e1 : tm 1 = .slice pa p.length pc := htm 1
  clear htm
  replace hn0 : n = 15 := hn0
  refine Trip.ok fun hok => ?_
  replace hok : ∀ id o, H id = some o → id < nx := hok
  refine Trip.seq ?_
  refine Trip.ops ?_
  refine OpsL.new (by subst_vars; decide) (aop_alloc (l := zs 16) (by kernel_rfl)) ?_
  repeat (first | (refine OpsL.p (by subst_vars; decide) (by (first | (exact aop_move (by (first | (simp only [ASt.ev, tmPut, ↓reduceIte, reduceIte, Nat.reduceEqDiff, plain1, *]; rfl) | fail))) | (exact aop_len (by (first | (simp only [ASt.ev, tmPut, ↓reduceIte, reduceIte, Nat.reduceEqDiff, plain1, *]; rfl) | fail)) (by exact rfl)) | fail)) ?_) | (refine Trip.seq ?_) | (refine Trip.ops ?_) | (refine OpsL.nil ?_; ((repeat (first | refine blockExit_eq ?_ | refine blockExit_ne (by decide) ?_ | refine blockExit_normal ?_ | refine blockExit_ret ?_ | refine blockExit_goto ?_)); first | (change Trip _ _ _ _ _) | dsimp only | skip)) | fail)
  refine OpsL.p (by subst_vars; decide) (aop_build (v := .agg #[.int .i64 a, .int .i64 p.length]) (l := [(0, .int .i64 a), (1, .int .i64 p.length)]) (by simp only [evParts, ASt.ev, tmPut, ↓reduceIte, reduceIte, Option.some.injEq, Nat.reduceEqDiff, *]) (by kernel_rfl)) ?_
  refine OpsL.p (by subst_vars; decide) (aop_build (v := .agg ([Value.int .i64 a, Value.int .i64 p.length] ++ zs 14).toArray) (l := [(0, .agg #[.int .i64 a, .int .i64 p.length])]) (by simp only [evParts, ASt.ev, tmPut, ↓reduceIte, reduceIte, Option.some.injEq, Nat.reduceEqDiff, *]) (by kernel_rfl)) ?_
  refine OpsL.new (by subst_vars; decide) (aop_alloc (l := zs 16) (by kernel_rfl)) ?_
  obtain ⟨G, hG⟩ : ∃ G, G = (H.put nx (.cells (zs 16) 0 none false (some 72))).put (nx + 1) (.cells (zs 16) 0 none false (some 72)) := ⟨_, rfl⟩
  have hx0 : Ext nx H (nx + 1 + 1) G := by rw [hG]; exact Ext.newPut.trans Ext.newPut
  have g0 : G nx = some (.cells (zs 16) 0 none false (some 72)) := by rw [hG, Heap.put_ne (by omega), Heap.put_eq]
  have g1 : G (nx + 1) = some (.cells (zs 16) 0 none false (some 72)) := by rw [hG, Heap.put_eq]
  have kG : Keep (G = (H.put nx (.cells (zs 16) 0 none false (some 72))).put (nx + 1) (.cells (zs 16) 0 none false (some 72))) := hG
  rw [← hG]
  clear hG
  refine OpsL.upd (aop_store (k := 16) (u := .agg ([Value.int .i64 a, Value.int .i64 p.length] ++ zs 14).toArray) (o := .cells ([Value.int .i64 a, Value.int .i64 p.length] ++ zs 14) 0 none false (some 72)) (by (first | (simp only [ASt.ev, tmPut, ↓reduceIte, reduceIte, Nat.reduceEqDiff, plain1, *]; rfl) | fail)) (by (first | (simp only [ASt.ev, tmPut, ↓reduceIte, reduceIte, Nat.reduceEqDiff, plain1, *]; done) | fail)) (by exact rfl) rfl (setc_all (c := zs 16) (by exact g1) rfl rfl)) ?_
  dsimp only
  obtain ⟨G1, hG1⟩ : ∃ G1, G1 = G.put (nx + 1) (.cells ([Value.int .i64 a, Value.int .i64 p.length] ++ zs 14) 0 none false (some 72)) := ⟨_, rfl⟩
  have hx1 : Ext nx H (nx + 1 + 1) G1 := by rw [hG1]; exact hx0.put (by omega)
  have k0 : G1 nx = some (.cells (zs 16) 0 none false (some 72)) := by rw [hG1, Heap.put_ne (by omega)]; exact g0
  have k1 : G1 (nx + 1) = some (.cells ([Value.int .i64 a, Value.int .i64 p.length] ++ zs 14) 0 none false (some 72)) := by rw [hG1, Heap.put_eq]
  have kG1 : Keep (G1 = G.put (nx + 1) (.cells ([Value.int .i64 a, Value.int .i64 p.length] ++ zs 14) 0 none false (some 72))) := hG1
  rw [← hG1]
  clear hG1 g0 g1 hx0
  repeat (first | (refine Trip.seq ?_) | (refine Trip.ops ?_) | (refine OpsL.nil ?_; ((repeat (first | refine blockExit_eq ?_ | refine blockExit_ne (by decide) ?_ | refine blockExit_normal ?_ | refine blockExit_ret ?_ | refine blockExit_goto ?_)); first | (change Trip _ _ _ _ _) | dsimp only | skip)) | fail)
  refine OpsL.p (by subst_vars; decide) (aop_slice (r := .slice (some ⟨nx + 1, 0 + 1 * 2, none⟩) 7 7) (a := some (.int .i64 1)) (b := none) (c := none) (by (first | (simp only [ASt.ev, tmPut, ↓reduceIte, reduceIte, Nat.reduceEqDiff, plain1, *]; rfl) | fail)) (by simp only [evOpt, ASt.ev, Option.map_some]; rfl) rfl rfl (by kernel_rfl)) ?_
  repeat (first | (refine OpsL.p (by subst_vars; decide) (by (first | (exact aop_move (by (first | (simp only [ASt.ev, tmPut, ↓reduceIte, reduceIte, Nat.reduceEqDiff, plain1, *]; rfl) | fail))) | fail)) ?_) | fail)
  obtain ⟨e, he, heH, hen⟩ := copy_pairs (ts := #[24, 24]) (nx := nx + 1 + 1) (m := 7) (hp.ext hx1 hok) h7 rfl k1 (by show 0 + 1 * 2 + 2 * p.length ≤ 16; omega)
  refine OpsL.e (by subst_vars; decide) (aop_copy (by (first | (simp only [ASt.ev, tmPut, ↓reduceIte, reduceIte, Nat.reduceEqDiff, plain1, *]; done) | fail)) (by (first | (simp only [ASt.ev, tmPut, ↓reduceIte, reduceIte, Nat.reduceEqDiff, plain1, *]; done) | fail)) he) ?_
  rw [heH, hen]
  have hcs : ([Value.int .i64 a, Value.int .i64 p.length] ++ zs 14).take (0 + 1 * 2) ++ p.flatMap encP ++ ([Value.int .i64 a, Value.int .i64 p.length] ++ zs 14).drop (0 + 1 * 2 + 2 * p.length) = (linkF a p).flatMap encP := link_cells h7
  rw [hcs]
  have hl16 : ((linkF a p).flatMap encP).length = 16 := by rw [flat_len encP_len, linkF_len h7]
  obtain ⟨G2, hG2⟩ : ∃ G2, G2 = G1.put (nx + 1) (.cells ((linkF a p).flatMap encP) 0 none false (some 72)) := ⟨_, rfl⟩
  have hx2 : Ext nx H (nx + 1 + 1) G2 := by rw [hG2]; exact hx1.put (by omega)
  have j0 : G2 nx = some (.cells (zs 16) 0 none false (some 72)) := by rw [hG2, Heap.put_ne (by omega)]; exact k0
  have j1 : getc G2 ⟨nx + 1, 0, none⟩ 16 = some ((linkF a p).flatMap encP) := by
    rw [hG2, getc_own (by rw [hl16]; exact Nat.le_refl 16), List.drop_zero, List.take_of_length_le (by rw [hl16]; exact Nat.le_refl 16)]
  have kG2 : Keep (G2 = G1.put (nx + 1) (.cells ((linkF a p).flatMap encP) 0 none false (some 72))) := hG2
  rw [← hG2]
  clear hG2 k0 k1 hx1 he heH hen hcs
  have hone : ((linkF a p).flatMap encP).all (·.oneCell') = true := by
    rw [List.all_eq_true]
    intro v hv
    obtain ⟨x, _, hx⟩ := List.mem_flatMap.1 hv
    exact List.all_eq_true.1 (encP_one x) v hx
  obtain ⟨K, hKeq⟩ : ∃ K, (linkF a p).flatMap encP = K := ⟨_, rfl⟩
  have kK : Keep ((linkF a p).flatMap encP = K) := hKeq
  rw [hKeq] at hl16 j1 hone
  repeat (first | (refine Trip.seq ?_) | (refine Trip.ops ?_) | (refine OpsL.nil ?_; ((repeat (first | refine blockExit_eq ?_ | refine blockExit_ne (by decide) ?_ | refine blockExit_normal ?_ | refine blockExit_ret ?_ | refine blockExit_goto ?_)); first | (change Trip _ _ _ _ _) | dsimp only | skip)) | fail)
  refine OpsL.p (by subst_vars; decide) (aop_loadAgg (k := 16) (vs := K) (by (first | (simp only [ASt.ev, tmPut, ↓reduceIte, reduceIte, Nat.reduceEqDiff, plain1, *]; done) | fail)) (by exact rfl) rfl (by exact rfl) j1) ?_
  repeat fail
  refine OpsL.upd (aop_store (k := 16) (u := .agg K.toArray) (o := .cells K 0 none false (some 72)) (by (first | (simp only [ASt.ev, tmPut, ↓reduceIte, reduceIte, Nat.reduceEqDiff, plain1, *]; rfl) | fail)) (by (first | (simp only [ASt.ev, tmPut, ↓reduceIte, reduceIte, Nat.reduceEqDiff, plain1, *]; done) | fail)) (by exact rfl) hl16 (setc_all (c := zs 16) (by exact j0) (by show K.length = 16; exact hl16) hone)) ?_
  repeat (first | (refine Trip.ret ?_; ((repeat (first | refine blockExit_eq ?_ | refine blockExit_ne (by decide) ?_ | refine blockExit_normal ?_ | refine blockExit_ret ?_ | refine blockExit_goto ?_)); first | (change Trip _ _ _ _ _) | dsimp only | skip)) | (refine OpsL.nil ?_; ((repeat (first | refine blockExit_eq ?_ | refine blockExit_ne (by decide) ?_ | refine blockExit_normal ?_ | refine blockExit_ret ?_ | refine blockExit_goto ?_)); first | (change Trip _ _ _ _ _) | dsimp only | skip)) | fail)
  have kE : G2.put nx (.cells K 0 none false (some 72)) = linkG nx H a p := by
    unfold Keep at kG kG1 kG2 kK
    unfold linkG
    rw [kG2, kG1, kG, kK]
  refine ⟨.inr rfl, keyV (linkF a p), ?_, rfl, rfl, kE⟩
  refine res_cell (a := ⟨nx, 0, none⟩) (by simp [tmPut]) ?_
  unfold keyV
  rw [hKeq]
  exact readAt_agg (by exact rfl) rfl (by exact rfl) (by rw [getc_own (by rw [hl16]; exact Nat.le_refl 16), List.drop_zero, List.take_of_length_le (by rw [hl16]; exact Nat.le_refl 16)])

theorem linkC (W0 : World) {nx : Nat} {H : Heap} {pv : Value} {p : List (Int × Int)} {a : Int} (hp : PairsAt H pv p) (h7 : p.length ≤ 7) :
    ACalls Try.prog W0 54 [.int .i64 a, pv] nx H fun v nx' H' => v = keyV (linkF a p) ∧ Ext nx H nx' H' := by
  refine ACalls.weaken (linkD W0 hp h7) ?_
  rintro v nx' H' ⟨h1, rfl, rfl⟩
  exact ⟨h1, linkG_ext⟩

end Go.Proofs.Ytigincejpjajpaa
