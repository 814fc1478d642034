/-
  A table over trees: Put, Find.
-/
import Derived.Test.YtigincejpjajpaaAdd2
namespace Go.Proofs.Ytigincejpjajpaa
set_option linter.unusedSimpArgs false
set_option linter.unusedVariables false
set_option maxRecDepth 20000
open Go.RowKit Go.Am
attribute [local irreducible] aop OpsL Trip blockExit OpsD OpsK OpsR

set_option maxHeartbeats 4000000 in
theorem putC (W0 : World) {nx b : Nat} {H : Heap} {S : Nat → Prop} {R : List (List (Int × Int))} {pv : Value} {p : List (Int × Int)} (hT : TabAt H b S R) (hS : ∀ i, S i → i < nx) (hp : PairsAt H pv p) (hl : p.length ≤ 100) (hRl : R.length ≤ 1000) :
    ACalls Try.prog W0 31 [tabV b, pv] nx H fun v nx' H' => nx ≤ nx' ∧ ∃ (r : List (Int × Int)) (x : Int) (nw : Bool) (R' : List (List (Int × Int))) (S' : Nat → Prop), v = .tuple #[.int .i64 x, .bool nw] ∧ StrictP r ∧ (∀ z, z ∈ r ↔ z ∈ p) ∧ r.length ≤ p.length ∧ TabAt H' b S' R' ∧ (∀ i, S' i → S i ∨ (nx ≤ i ∧ i < nx')) ∧ (∀ i, i < nx → ¬ S i → H' i = H i) ∧ ((nw = false ∧ R' = R ∧ ∃ k : Nat, x = k ∧ R[k]? = some r) ∨ (nw = true ∧ r ∉ R ∧ x = R.length ∧ R' = R ++ [r])) := by
  refine ACalls.by_trip (fn := Try.f31) (c := _) Try.func31 rfl (fun tm n hn0 htm => ?_)
  have e0 : tm 0 = tabV b := htm 0
  have e1 : tm 1 = pv := htm 1
  clear htm
  replace hn0 : n = 22 := hn0
  repeat (first | (refine OpsL.p (by subst_vars; decide) (by (first | (exact aop_move (by (first | (simp only [ASt.ev, tmPut, ↓reduceIte, reduceIte, Nat.reduceEqDiff, plain1, *]; rfl) | fail))) | (exact aop_assign (by (first | (simp only [ASt.ev, tmPut, ↓reduceIte, reduceIte, Nat.reduceEqDiff, plain1, *]; rfl) | fail))) | fail)) ?_) | (refine Trip.seq ?_) | (refine Trip.ops ?_) | (refine OpsL.nil ?_; ((repeat (first | refine blockExit_eq ?_ | refine blockExit_ne (by decide) ?_ | refine blockExit_normal ?_ | refine blockExit_ret ?_ | refine blockExit_goto ?_)); first | (change Trip _ _ _ _ _) | dsimp only | skip)) | fail)
  refine OpsL.call1 (by subst_vars; decide) (by (first | (simp only [ASt.ev, tmPut, ↓reduceIte, reduceIte, Nat.reduceEqDiff, plain1, *]; done) | fail)) entersPairsS (pairsC W0 hp (by omega)) ?_
  rintro v1 nx1 H1 ⟨ob1, r, h1, h2, h3, h4, hx1, hob1⟩
  have hT1 := hT.ext hx1 hS
  have hS1 : ∀ i, S i → i < nx1 := fun i hi => by have := hS i hi; have := hx1.1; omega
  have hs1 := SufOf.own h4
  repeat (first | (refine OpsL.p (by subst_vars; decide) (by (first | (exact aop_move (by (first | (simp only [ASt.ev, tmPut, ↓reduceIte, reduceIte, Nat.reduceEqDiff, plain1, *]; rfl) | fail))) | (exact aop_assign (by (first | (simp only [ASt.ev, tmPut, ↓reduceIte, reduceIte, Nat.reduceEqDiff, plain1, *]; rfl) | fail))) | fail)) ?_) | (refine Trip.seq ?_) | (refine Trip.ops ?_) | (refine OpsL.nil ?_; ((repeat (first | refine blockExit_eq ?_ | refine blockExit_ne (by decide) ?_ | refine blockExit_normal ?_ | refine blockExit_ret ?_ | refine blockExit_goto ?_)); first | (change Trip _ _ _ _ _) | dsimp only | skip)) | fail)
  refine OpsL.call2 (by subst_vars; decide) (by (first | (simp only [ASt.ev, tmPut, ↓reduceIte, reduceIte, Nat.reduceEqDiff, plain1, *]; done) | fail)) (by (first | (simp only [ASt.ev, tmPut, ↓reduceIte, reduceIte, Nat.reduceEqDiff, plain1, *]; done) | fail)) entersFindS (findC W0 hT1 hS1 hs1 (fun b t e => (hob1 b t e).2)) ?_
  rintro v2 nx2 H2 ⟨hx2, x, ok, rfl, hor⟩
  have hx02 := hx1.trans hx2
  have hT2 := hT1.ext hx2 hS1
  cases ok with
  | true =>
    obtain ⟨k, rfl, hk2⟩ : ∃ n : Nat, x = n ∧ R[n]? = some r := by
      rcases hor with ⟨_, h⟩ | ⟨h, _⟩
      · exact h
      · cases h
    clear hor
    repeat (first | (refine OpsL.p (by subst_vars; decide) (by (first | (exact aop_move (by (first | (simp only [ASt.ev, tmPut, ↓reduceIte, reduceIte, Nat.reduceEqDiff, plain1, *]; rfl) | fail))) | (exact aop_assign (by (first | (simp only [ASt.ev, tmPut, ↓reduceIte, reduceIte, Nat.reduceEqDiff, plain1, *]; rfl) | fail))) | (exact aop_extract (by (first | (simp only [ASt.ev, tmPut, ↓reduceIte, reduceIte, Nat.reduceEqDiff, plain1, *]; rfl) | fail)) (by exact rfl)) | fail)) ?_) | (refine Trip.seq ?_) | (refine Trip.ops ?_) | (refine OpsL.nil ?_; ((repeat (first | refine blockExit_eq ?_ | refine blockExit_ne (by decide) ?_ | refine blockExit_normal ?_ | refine blockExit_ret ?_ | refine blockExit_goto ?_)); first | (change Trip _ _ _ _ _) | dsimp only | skip)) | fail)
    refine Trip.iteB (b := true) (by (first | (simp only [ASt.ev, tmPut, ↓reduceIte, reduceIte, Nat.reduceEqDiff, decide_true, decide_false, not_true_eq_false, not_false_eq_true, Bool.not_true, Bool.not_false, *]; rfl) | fail)) (fun _ => ?_) (fun h => absurd h (by decide))
    repeat (first | (refine OpsL.p (by subst_vars; decide) (by (first | (exact aop_move (by (first | (simp only [ASt.ev, tmPut, ↓reduceIte, reduceIte, Nat.reduceEqDiff, plain1, *]; rfl) | fail))) | (exact aop_assign (by (first | (simp only [ASt.ev, tmPut, ↓reduceIte, reduceIte, Nat.reduceEqDiff, plain1, *]; rfl) | fail))) | fail)) ?_) | (refine Trip.seq ?_) | (refine Trip.ops ?_) | (refine Trip.ret ?_; ((repeat (first | refine blockExit_eq ?_ | refine blockExit_ne (by decide) ?_ | refine blockExit_normal ?_ | refine blockExit_ret ?_ | refine blockExit_goto ?_)); first | (change Trip _ _ _ _ _) | dsimp only | skip)) | (refine OpsL.nil ?_; ((repeat (first | refine blockExit_eq ?_ | refine blockExit_ne (by decide) ?_ | refine blockExit_normal ?_ | refine blockExit_ret ?_ | refine blockExit_goto ?_)); first | (change Trip _ _ _ _ _) | dsimp only | skip)) | fail)
    exact ⟨.inr rfl, _, res_two, hx02.1, r, (k : Int), false, R, S, by simp [tmPut], h1, h2, h3, hT2, fun i hi => .inl hi, fun i hi _ => hx02.2 i hi, .inl ⟨rfl, rfl, k, rfl, hk2⟩⟩
  | false =>
    have hnin : r ∉ R := by
      rcases hor with ⟨h, _⟩ | ⟨_, _, h⟩
      · cases h
      · exact h
    clear hor
    have hS2 : ∀ i, S i → i < nx2 := fun i hi => by have := hS1 i hi; have := hx2.1; omega
    have hs2 : SufOf H2 ob1 v1 r r := hs1.same fun b t e => hx2.2 b (hob1 b t e).2
    repeat (first | (refine OpsL.p (by subst_vars; decide) (by (first | (exact aop_move (by (first | (simp only [ASt.ev, tmPut, ↓reduceIte, reduceIte, Nat.reduceEqDiff, plain1, *]; rfl) | fail))) | (exact aop_assign (by (first | (simp only [ASt.ev, tmPut, ↓reduceIte, reduceIte, Nat.reduceEqDiff, plain1, *]; rfl) | fail))) | (exact aop_extract (by (first | (simp only [ASt.ev, tmPut, ↓reduceIte, reduceIte, Nat.reduceEqDiff, plain1, *]; rfl) | fail)) (by exact rfl)) | fail)) ?_) | (refine Trip.seq ?_) | (refine Trip.ops ?_) | (refine OpsL.nil ?_; ((repeat (first | refine blockExit_eq ?_ | refine blockExit_ne (by decide) ?_ | refine blockExit_normal ?_ | refine blockExit_ret ?_ | refine blockExit_goto ?_)); first | (change Trip _ _ _ _ _) | dsimp only | skip)) | fail)
    refine Trip.iteB (b := false) (by (first | (simp only [ASt.ev, tmPut, ↓reduceIte, reduceIte, Nat.reduceEqDiff, decide_true, decide_false, not_true_eq_false, not_false_eq_true, Bool.not_true, Bool.not_false, *]; rfl) | fail)) (fun h => absurd h (by decide)) (fun _ => ?_)
    repeat (first | (refine OpsL.p (by subst_vars; decide) (by (first | (exact aop_move (by (first | (simp only [ASt.ev, tmPut, ↓reduceIte, reduceIte, Nat.reduceEqDiff, plain1, *]; rfl) | fail))) | fail)) ?_) | (refine Trip.seq ?_) | (refine Trip.ops ?_) | (refine Trip.skip ?_; ((repeat (first | refine blockExit_eq ?_ | refine blockExit_ne (by decide) ?_ | refine blockExit_normal ?_ | refine blockExit_ret ?_ | refine blockExit_goto ?_)); first | (change Trip _ _ _ _ _) | dsimp only | skip)) | fail)
    refine OpsL.call2 (by subst_vars; decide) (by (first | (simp only [ASt.ev, tmPut, ↓reduceIte, reduceIte, Nat.reduceEqDiff, plain1, *]; done) | fail)) (by (first | (simp only [ASt.ev, tmPut, ↓reduceIte, reduceIte, Nat.reduceEqDiff, plain1, *]; done) | fail)) entersAdd (addC W0 hT2 hS2 hs2 (fun b t e => ⟨by have := (hob1 b t e).2; have := hx2.1; omega, fun h => by have := hS b h; have := (hob1 b t e).1; omega⟩) (by omega) hRl hnin) ?_
    rintro v3 nx3 H3 ⟨rfl, hn3, hT3, hf3⟩
    repeat (first | (refine OpsL.p (by subst_vars; decide) (by (first | (exact aop_assign (by (first | (simp only [ASt.ev, tmPut, ↓reduceIte, reduceIte, Nat.reduceEqDiff, plain1, *]; rfl) | fail))) | fail)) ?_) | (refine Trip.ret ?_; ((repeat (first | refine blockExit_eq ?_ | refine blockExit_ne (by decide) ?_ | refine blockExit_normal ?_ | refine blockExit_ret ?_ | refine blockExit_goto ?_)); first | (change Trip _ _ _ _ _) | dsimp only | skip)) | (refine OpsL.nil ?_; ((repeat (first | refine blockExit_eq ?_ | refine blockExit_ne (by decide) ?_ | refine blockExit_normal ?_ | refine blockExit_ret ?_ | refine blockExit_goto ?_)); first | (change Trip _ _ _ _ _) | dsimp only | skip)) | fail)
    refine ⟨.inr rfl, _, res_two, by have := hx02.1; omega, r, R.length, true, R ++ [r], _, by simp [tmPut], h1, h2, h3, hT3, fun i hi => ?_, fun i hi hne => by rw [hf3 i (by have := hx02.1; omega) hne, hx02.2 i hi], .inr ⟨rfl, hnin, rfl, rfl⟩⟩
    rcases hi with hi | ⟨i1, i2⟩
    · exact .inl hi
    · exact .inr ⟨by have := hx02.1; omega, i2⟩

set_option maxHeartbeats 4000000 in
theorem findPC (W0 : World) {nx b : Nat} {H : Heap} {S : Nat → Prop} {R : List (List (Int × Int))} {pv : Value} {p : List (Int × Int)} (hT : TabAt H b S R) (hS : ∀ i, S i → i < nx) (hp : PairsAt H pv p) (hl : p.length ≤ 100) :
    ACalls Try.prog W0 33 [tabV b, pv] nx H fun v nx' H' => Ext nx H nx' H' ∧ ∃ (r : List (Int × Int)) (x : Int) (ok : Bool), v = .tuple #[.int .i64 x, .bool ok] ∧ StrictP r ∧ (∀ z, z ∈ r ↔ z ∈ p) ∧ r.length ≤ p.length ∧ ((ok = true ∧ ∃ k : Nat, x = k ∧ R[k]? = some r) ∨ (ok = false ∧ x = 0 ∧ r ∉ R)) := by
  refine ACalls.by_trip (fn := Try.f33) (c := _) Try.func33 rfl (fun tm n hn0 htm => ?_)
  have e0 : tm 0 = tabV b := htm 0
  have e1 : tm 1 = pv := htm 1
  clear htm
  replace hn0 : n = 12 := hn0
  repeat (first | (refine OpsL.p (by subst_vars; decide) (by (first | (exact aop_move (by (first | (simp only [ASt.ev, tmPut, ↓reduceIte, reduceIte, Nat.reduceEqDiff, plain1, *]; rfl) | fail))) | (exact aop_assign (by (first | (simp only [ASt.ev, tmPut, ↓reduceIte, reduceIte, Nat.reduceEqDiff, plain1, *]; rfl) | fail))) | fail)) ?_) | (refine Trip.seq ?_) | (refine Trip.ops ?_) | (refine OpsL.nil ?_; ((repeat (first | refine blockExit_eq ?_ | refine blockExit_ne (by decide) ?_ | refine blockExit_normal ?_ | refine blockExit_ret ?_ | refine blockExit_goto ?_)); first | (change Trip _ _ _ _ _) | dsimp only | skip)) | fail)
  refine OpsL.call1 (by subst_vars; decide) (by (first | (simp only [ASt.ev, tmPut, ↓reduceIte, reduceIte, Nat.reduceEqDiff, plain1, *]; done) | fail)) entersPairsS (pairsC W0 hp (by omega)) ?_
  rintro v1 nx1 H1 ⟨ob1, r, h1, h2, h3, h4, hx1, hob1⟩
  have hT1 := hT.ext hx1 hS
  have hS1 : ∀ i, S i → i < nx1 := fun i hi => by have := hS i hi; have := hx1.1; omega
  refine OpsL.call2 (by subst_vars; decide) (by (first | (simp only [ASt.ev, tmPut, ↓reduceIte, reduceIte, Nat.reduceEqDiff, plain1, *]; done) | fail)) (by (first | (simp only [ASt.ev, tmPut, ↓reduceIte, reduceIte, Nat.reduceEqDiff, plain1, *]; done) | fail)) entersFindS (findC W0 hT1 hS1 (SufOf.own h4) (fun b t e => (hob1 b t e).2)) ?_
  rintro v2 nx2 H2 ⟨hx2, x, ok, rfl, hor⟩
  repeat (first | (refine OpsL.p (by subst_vars; decide) (by (first | (exact aop_assign (by (first | (simp only [ASt.ev, tmPut, ↓reduceIte, reduceIte, Nat.reduceEqDiff, plain1, *]; rfl) | fail))) | (exact aop_extract (by (first | (simp only [ASt.ev, tmPut, ↓reduceIte, reduceIte, Nat.reduceEqDiff, plain1, *]; rfl) | fail)) (by exact rfl)) | fail)) ?_) | (refine Trip.ret ?_; ((repeat (first | refine blockExit_eq ?_ | refine blockExit_ne (by decide) ?_ | refine blockExit_normal ?_ | refine blockExit_ret ?_ | refine blockExit_goto ?_)); first | (change Trip _ _ _ _ _) | dsimp only | skip)) | (refine OpsL.nil ?_; ((repeat (first | refine blockExit_eq ?_ | refine blockExit_ne (by decide) ?_ | refine blockExit_normal ?_ | refine blockExit_ret ?_ | refine blockExit_goto ?_)); first | (change Trip _ _ _ _ _) | dsimp only | skip)) | fail)
  exact ⟨.inr rfl, _, res_two, hx1.trans hx2, r, x, ok, by simp [tmPut], h1, h2, h3, hor⟩

/-! ### what the laws lean on -/

theorem own_blk {H : Heap} {ob : Option (Nat × Nat)} {v : Value} {l : List (Int × Int)} {Q : Nat → Prop} (h : OwnPairs H ob v l) (hq : ∀ b t, ob = some (b, t) → Q b) : ∀ a n c, v = .slice (some a) n c → Q a.block := by
  intro a n c e
  cases ob with
  | none => obtain ⟨h, _, _⟩ := h; rw [h] at e; cases e
  | some bt =>
    obtain ⟨b, t⟩ := bt
    obtain ⟨h, _, _⟩ := h
    rw [h] at e
    cases e
    exact hq b t rfl

section
variable {P : Program} {H : Heap} {nx : Nat} {ev : Operand → Option Value} {dst : Option Tmp} {type : TypeId} {pos : String} {after : Array Edge} {guard : Option (Nat × Bool)}
attribute [local semireducible] aop
theorem aop_eqlP {t u : TypeId} {x y : Operand} {a b : Option Addr} {r : Bool} (hx : ev x = some (.pointer a)) (hy : ev y = some (.pointer b)) (he : aEq P H 60 t (.pointer a) (.pointer b) = some r) :
    aop P H nx ev ⟨dst, .binOp .eql t x y u, type, pos, after, guard⟩ = some (.bool r, .none) := by simp [aop, hx, hy, aBin, eqOk, he]

/-- An append to a row that is made, whole. -/
theorem aop_append_m {b k m sz bytes : Nat} {el : TypeId} {u : Value} {cs xs z : List Value} {q : Option TypeId} {ro : Bool} {esz : Nat} {x y : Operand} {st xt : TypeId} {xd : TypeDesc} (hx : ev x = some (.slice (some ⟨b, 0, none⟩) k k)) (hy : ev y = some u)
    (hH : H b = some (.cells cs esz none ro q)) (hc : cs.length = k * sz)
    (hs : source H sz u none = some (m, xs)) (h1 : xs.all (·.oneCell') = true) (hm : m ≠ 0) (hst : P.underlying st = some (.slice el)) (hxt : P.underlying xt = some xd) (hxd : notInt xd = true)
    (hsz : szOf P el = some sz) (hby : bytesOfT P el = some bytes) (hz : zeroOf P el = some z) (hzl : z.length = sz) (hle : k + m ≤ 1099511627776) (hle2 : (2 * (k + m) + 192) * bytes ≤ 281474976710656) :
    aop P H nx ev ⟨dst, .call ⟨.builtin .append, #[x, y], #[st, xt]⟩, type, pos, after, guard⟩ = some (.slice (some ⟨nx, 0, some nx⟩) (k + m) (k + m), .new (.cells (cs ++ xs) sz (some nx) false (some el))) := by
  have hg : getc H ⟨b, 0, none⟩ (k * sz) = some cs := by
    unfold getc
    simp only [hH]
    rw [if_pos ⟨trivial, by omega⟩]
    simp [← hc]
  simp [aop, hx, hy, evAll, aBuiltin, aAppend, hst, hxt, hsz, hby, hz, hxd, hzl, hs, hm, hH, hle, hle2, hg]
  rw [if_pos (by simpa using h1), if_neg (by omega : ¬ (k + m ≤ k))]
theorem aop_append_mn {b k sz bytes : Nat} {el : TypeId} {u : Value} {cs xs z : List Value} {q : Option TypeId} {tg : Option Nat} {ro : Bool} {esz : Nat} {x y : Operand} {st xt : TypeId} {xd : TypeDesc} (hx : ev x = some (.slice (some ⟨b, 0, tg⟩) k k)) (hy : ev y = some u)
    (hH : H b = some (.cells cs esz tg ro q))
    (hs : source H sz u none = some (0, xs)) (h1 : xs.all (·.oneCell') = true) (hst : P.underlying st = some (.slice el)) (hxt : P.underlying xt = some xd) (hxd : notInt xd = true)
    (hsz : szOf P el = some sz) (hby : bytesOfT P el = some bytes) (hz : zeroOf P el = some z) (hzl : z.length = sz) :
    aop P H nx ev ⟨dst, .call ⟨.builtin .append, #[x, y], #[st, xt]⟩, type, pos, after, guard⟩ = some (.slice (some ⟨b, 0, tg⟩) k k, .none) := by
  simp [aop, hx, hy, evAll, aBuiltin, aAppend, hst, hxt, hsz, hby, hz, hxd, hzl, hs, hH]
  rw [if_pos (by simpa using h1)]
end

section
variable {W0 : World} {H : Heap} {nx n : Nat} {type : TypeId} {pos : String} {after : Array Edge} {ops : Array Oper} {l : List Oper} {tm : Nat → Value} {QQ : ASt → Prop} {d : Tmp}
theorem OpsL.appendM {b esz : Nat} {ro : Bool} {q : Option TypeId} {u : Value} {zs us : List (Int × Int)} {x y : Operand} (hd : d < n) (hH : H b = some (.cells (zs.flatMap encP) esz none ro q)) (hu : PairsAt H u us) (hx : ASt.ev ⟨tm, n, H, nx⟩ x = some (.slice (some ⟨b, 0, none⟩) zs.length zs.length)) (hy : ASt.ev ⟨tm, n, H, nx⟩ y = some u)
    (hle : zs.length + us.length ≤ 1000000) (hok : ∀ id o, H id = some o → id < nx)
    (hc : ∀ v' nx' H', Ext nx H nx' H' → PairsAt H' v' (zs ++ us) → (∀ id o, H' id = some o → id < nx') → OpsL Try.prog W0 ops l ⟨tmPut tm (some d) v', n, H', nx'⟩ QQ) :
    OpsL Try.prog W0 ops (⟨some d, .call ⟨.builtin .append, #[x, y], #[24, 24]⟩, type, pos, after, none⟩ :: l) ⟨tm, n, H, nx⟩ QQ := by
  have hsrc := rows_src encP_len (by omega) hu
  have hall : (us.flatMap encP).all (·.oneCell') = true := by
    rw [List.all_eq_true]
    intro v hv
    obtain ⟨x, _, hx⟩ := List.mem_flatMap.1 hv
    exact List.all_eq_true.1 (encP_one x) v hx
  have hflz := flat_len encP_len zs
  by_cases hl0 : us.length = 0
  · have : us = [] := List.eq_nil_of_length_eq_zero hl0
    subst this
    refine OpsL.p hd (aop_append_mn hx hy hH hsrc hall (by exact rfl) (by exact rfl) rfl (sz := 2) (by exact rfl) (bytes := 16) (by exact rfl) (z := [.int .i64 0, .int .i64 0]) (by exact rfl) rfl) (hc _ _ _ Ext.refl ?_ hok)
    rw [List.append_nil]
    refine .inr ⟨_, _, rfl, fun i hi => ?_⟩
    have hle : (i + 1) * 2 ≤ zs.length * 2 := Nat.mul_le_mul_right 2 hi
    unfold getc
    simp only [hH, Nat.zero_add]
    rw [if_pos ⟨trivial, by rw [hflz]; omega⟩, flat_at encP_len zs i hi]
  · refine OpsL.new hd (aop_append_m hx hy hH hflz hsrc hall hl0 (by exact rfl) (by exact rfl) rfl (by exact rfl) (bytes := 16) (by exact rfl) (z := [.int .i64 0, .int .i64 0]) (by exact rfl) rfl (by omega) (by omega)) (hc _ _ _ Ext.newPut ?_ (ok_new hok))
    have : OwnPairs (H.put nx (.cells (zs.flatMap encP ++ us.flatMap encP) 2 (some nx) false (some 27))) (some (nx, nx)) (.slice (some ⟨nx, 0, some nx⟩) (zs.length + us.length) (zs.length + us.length)) (zs ++ us) :=
      ⟨by rw [List.length_append], by rw [flat_len encP_len], [], by rw [Heap.put_eq, List.append_nil, List.flatMap_append]⟩
    exact this.at encP_len
end

end Go.Proofs.Ytigincejpjajpaa
